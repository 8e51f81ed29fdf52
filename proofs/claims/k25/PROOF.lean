import PyProof.Rows.All
import Wide.All
import OpenK.AllK
import Wide.FinOn
import PyProof.ToksMono
import Lean
import PyProof.EqAt
import PyProof.EqKinds
import PyProof.TupleCall
import PyProof.NeKinds
import PyProof.ZipIter
import PyProof.StrWalks
import PyProof.ConsumeWalk
import PyProof.ExcArgs
import PyProof.ExcBaseAll.ValueError
import KE.KIsAll
import PyProof.EnumFor
import PyProof.EnumMake
import PyProof.EnumStmt
import PyProof.Rows.EnumRows
import PyProof.DictWalks
import PyProof.Rows.SetFrom
import PyProof.DictItems
import KE.KDictList
import PyProof.TupleIter
import PyProof.RulesRaise
import PyProof.RulesTry
import PyProof.MeetsIn
import KE.KEqDict
import PyProof.StrOps2
import PyProof.StrCalls6
import PyProof.ListMulRoad
import PyProof.FactsAll.tuple
import KE.KSortTup
import KE.KSortKey
import PyProof.Rows.Range3
import PyProof.Rows.ChunkLeaf
import KE.KRevIter
import PyProof.StationsW
import PyProof.PassesOwn
import PyProof.NsDelKeeps
import PySem.Challenge.RW_manyleaf_k25_trees_edited
set_option Elab.async false
set_option linter.all false
section
open PySem PySem.W PyProof.Rows
set_option maxRecDepth 100000
set_option maxHeartbeats 0
noncomputable def PySem.W.Fast.tw10027686780735959285:Unit:=()
noncomputable def PySem.W.Fast.tw10192168587677828588:Unit:=()
noncomputable def PySem.W.Fast.tw10250487886480850224:Unit:=()
noncomputable def PySem.W.Fast.tw10273631167972704951:Unit:=()
noncomputable def PySem.W.Fast.tw10484121588702860319:Unit:=()
noncomputable def PySem.W.Fast.tw10701042130272293828:Unit:=()
noncomputable def PySem.W.Fast.tw10749188283119278955:Unit:=()
noncomputable def PySem.W.Fast.tw10936532458736840491:Unit:=()
noncomputable def PySem.W.Fast.tw11002764008780513453:Unit:=()
noncomputable def PySem.W.Fast.tw11542883087639897958:Unit:=()
noncomputable def PySem.W.Fast.tw1155551706400497114:Unit:=()
noncomputable def PySem.W.Fast.tw11943071729840246200:Unit:=()
noncomputable def PySem.W.Fast.tw12038870764373154159:Unit:=()
noncomputable def PySem.W.Fast.tw12269276144375461047:Unit:=()
noncomputable def PySem.W.Fast.tw12297448888605268892:Unit:=()
noncomputable def PySem.W.Fast.tw12320131084472506322:Unit:=()
noncomputable def PySem.W.Fast.tw12638762000674917560:Unit:=()
noncomputable def PySem.W.Fast.tw12747571608972846346:Unit:=()
noncomputable def PySem.W.Fast.tw12966221573498312875:Unit:=()
noncomputable def PySem.W.Fast.tw1307067130148882277:Unit:=()
noncomputable def PySem.W.Fast.tw13182964371151718783:Unit:=()
noncomputable def PySem.W.Fast.tw13328886434557506914:Unit:=()
noncomputable def PySem.W.Fast.tw13542924843994550709:Unit:=()
noncomputable def PySem.W.Fast.tw13716646408904270544:Unit:=()
noncomputable def PySem.W.Fast.tw13746762592922444373:Unit:=()
noncomputable def PySem.W.Fast.tw13796055488133649278:Unit:=()
noncomputable def PySem.W.Fast.tw13801086411954104020:Unit:=()
noncomputable def PySem.W.Fast.tw13994566739216368148:Unit:=()
noncomputable def PySem.W.Fast.tw14006860033760514593:Unit:=()
noncomputable def PySem.W.Fast.tw14240082000851271147:Unit:=()
noncomputable def PySem.W.Fast.tw14468477942757566346:Unit:=()
noncomputable def PySem.W.Fast.tw15184349003399593606:Unit:=()
noncomputable def PySem.W.Fast.tw15735172217653259695:Unit:=()
noncomputable def PySem.W.Fast.tw15754625034718193121:Unit:=()
noncomputable def PySem.W.Fast.tw15760770178967273875:Unit:=()
noncomputable def PySem.W.Fast.tw15841485847133979890:Unit:=()
noncomputable def PySem.W.Fast.tw15875467425595254349:Unit:=()
noncomputable def PySem.W.Fast.tw15894689806203434641:Unit:=()
noncomputable def PySem.W.Fast.tw16139387115690698853:Unit:=()
noncomputable def PySem.W.Fast.tw16326187140365243147:Unit:=()
noncomputable def PySem.W.Fast.tw16427407959256768329:Unit:=()
noncomputable def PySem.W.Fast.tw16733172681494217413:Unit:=()
noncomputable def PySem.W.Fast.tw16735943619596261206:Unit:=()
noncomputable def PySem.W.Fast.tw17160619538467424023:Unit:=()
noncomputable def PySem.W.Fast.tw17891076716489958124:Unit:=()
noncomputable def PySem.W.Fast.tw18121890262018380581:Unit:=()
noncomputable def PySem.W.Fast.tw18308226393596828450:Unit:=()
noncomputable def PySem.W.Fast.tw18372215430798275241:Unit:=()
noncomputable def PySem.W.Fast.tw1886346407197641248:Unit:=()
noncomputable def PySem.W.Fast.tw2018655398102453625:Unit:=()
noncomputable def PySem.W.Fast.tw2243763442395407818:Unit:=()
noncomputable def PySem.W.Fast.tw2436958300500413819:Unit:=()
noncomputable def PySem.W.Fast.tw2441698074211907804:Unit:=()
noncomputable def PySem.W.Fast.tw2751386950812391839:Unit:=()
noncomputable def PySem.W.Fast.tw2775961595153561536:Unit:=()
noncomputable def PySem.W.Fast.tw2782767868192731007:Unit:=()
noncomputable def PySem.W.Fast.tw3254486801252147830:Unit:=()
noncomputable def PySem.W.Fast.tw3469098117205339251:Unit:=()
noncomputable def PySem.W.Fast.tw3602510832549772758:Unit:=()
noncomputable def PySem.W.Fast.tw3801358590515419171:Unit:=()
noncomputable def PySem.W.Fast.tw391114693742299500:Unit:=()
noncomputable def PySem.W.Fast.tw3916031268960108584:Unit:=()
noncomputable def PySem.W.Fast.tw3939629597640504225:Unit:=()
noncomputable def PySem.W.Fast.tw408409505121688420:Unit:=()
noncomputable def PySem.W.Fast.tw4220597112266741229:Unit:=()
noncomputable def PySem.W.Fast.tw4264206205103063127:Unit:=()
noncomputable def PySem.W.Fast.tw4576008018688653468:Unit:=()
noncomputable def PySem.W.Fast.tw4700452537947333969:Unit:=()
noncomputable def PySem.W.Fast.tw5731528023677843735:Unit:=()
noncomputable def PySem.W.Fast.tw6190702506616375126:Unit:=()
noncomputable def PySem.W.Fast.tw626498056470743653:Unit:=()
noncomputable def PySem.W.Fast.tw6364738173571463136:Unit:=()
noncomputable def PySem.W.Fast.tw6444229219574430187:Unit:=()
noncomputable def PySem.W.Fast.tw6852151610940201425:Unit:=()
noncomputable def PySem.W.Fast.tw6924860868783709467:Unit:=()
noncomputable def PySem.W.Fast.tw7091579830601446624:Unit:=()
noncomputable def PySem.W.Fast.tw7126350258339286482:Unit:=()
noncomputable def PySem.W.Fast.tw7345510159041285899:Unit:=()
noncomputable def PySem.W.Fast.tw7384529921883085429:Unit:=()
noncomputable def PySem.W.Fast.tw7454767581370351649:Unit:=()
noncomputable def PySem.W.Fast.tw7620674566214377368:Unit:=()
noncomputable def PySem.W.Fast.tw7648136588600700659:Unit:=()
noncomputable def PySem.W.Fast.tw8374632243475106792:Unit:=()
noncomputable def PySem.W.Fast.tw8432426231371623135:Unit:=()
noncomputable def PySem.W.Fast.tw8644994027737830634:Unit:=()
noncomputable def PySem.W.Fast.tw8709468750967390103:Unit:=()
noncomputable def PySem.W.Fast.tw8810068023024697464:Unit:=()
noncomputable def PySem.W.Fast.tw8842042514025907668:Unit:=()
noncomputable def PySem.W.Fast.tw8876890321963994317:Unit:=()
noncomputable def PySem.W.Fast.tw9351344226624807298:Unit:=()
noncomputable def PySem.W.Fast.tw9535532833099752073:Unit:=()
noncomputable def PySem.W.Fast.tw9728973358764469519:Unit:=()
noncomputable def PySem.W.Fast.tw9773594190268260970:Unit:=()
noncomputable def PySem.W.Fast.tw9788035182033358571:Unit:=()
open_top head_k25 for PySem.Challenge.rw_manyleaf_k25_trees_edited
end
section
open Array renaming length_toList→bU,getElem?_toList→cg,getElem?_setIfInBounds_ne→cu,size_setIfInBounds→c8,getElem?_setIfInBounds_self_of_lt→dS,getElem?_eq_some_iff→eh,perm_iff_toList_perm→gc,getElem?_eq_getElem→gq,map→gH
open Bool renaming false_ne_true→ak,and_eq_true→aw,false_eq_true→cB,beq_eq_decide_eq→cR,eq_iff_iff→dU,or_eq_true→dW,or_true→eP,true_and→eW,false_and→fz,and_false→gr,not_eq_true'→gI,false_or→gO,true_or→jw
open Classical renaming byContradiction→eE,propDecidable→eX
open False renaming elim→bY
open ForInStep renaming yield→dX
open Int renaming emod_lt_of_pos→cS,emod_nonneg→dY,toNat→ie
open LawfulBEq renaming eq_of_beq→bS
open List renaming length_map→aj,size_toArray→am,getElem?_eq_getElem→au,mem_cons→av,mem_cons_of_mem→ax,length_append→ay,getD_eq_getElem?_getD→aA,getElem?_eq_some_iff→aD,length_cons→aE,map_cons→aM,not_mem_nil→aO,getElem?_map→aP,mem_append_right→aU,mem_of_getElem?→a9,nodup_cons→bi,contains_cons→bn,mem_append→br,all_cons→bu,map_append→bw,length_take→bI,mem_singleton→bL,all_eq_true→bO,mem_cons_self→b8,append_nil→cb,mem_append_left→cm,map_map→cq,getElem?_append_right→cr,length_reverse→cv,find?_cons→cx,length_singleton→cy,append_assoc→cK,range→cQ,any_cons→cT,getElem?_eq_none→cU,mem_map→cV,getElem?_append_left→c6,mem_filter→c_,toArray→dv,filter_cons_of_neg→dy,filter_cons_of_pos→dz,getElem?_cons_succ→dA,lookup→dB,getElem_mem→dI,length_drop→dJ,pairwise_cons→dQ,length_filter_le→dZ,nodup_append→d8,take_add_one→d9,mem_of_mem_take→eA,cons_append→eG,take_length→eI,map_congr_left→eM,getElem?_set_self→fj,eraseIdxIfInBounds_toArray→fq,filter_congr→ft,mem_range→fA,map_nil→fB,getElem?_set_ne→fM,Perm→fS,filterMap_cons→fT,filter_sublist→fU,length_set→fV,mem_map_of_mem→fW,filter_append→gj,mem_filterMap→gn,getElem?_cons_zero→gP,map→gQ,of_mem_zip→ig,mem_of_mem_drop→iF,nodup_nil→iJ,replicate→iK,filter_eq_self→iT,length→iU,filter_filter→jc,all_map→jy
open List.Perm renaming refl→gu
open Nat renaming le_refl→ac,lt_of_lt_of_le→aI,ne_of_lt→aQ,le_trans→aR,le_add_right→bc,zero_le→bC,lt_of_le_of_lt→b_,lt_succ_self→cG,le_succ→cN,lt_irrefl→eY,le_of_lt→fC,ne_of_gt→fE,le_of_ble_eq_true→ii,lt_trans→ij,le_of_eq→jz,zero_add→jA,max→jZ
open Ne renaming symm→cz
open Option renaming some→aX,map_eq_some_iff→bz,bind_some→cf,isSome_iff_exists→cC,map_some→eZ,isSome_map→gJ
open Option.some renaming inj→aN
open Or renaming inl→bR
open PyProof renaming noPylong_small→hX
open PyProof.Rows renaming seqObj→a0,slot_tuple_getitem→bJ,get?_update_seq→dj,listUpdate_at→dH,callWith_type1→d6,seqEpoch_at→f6,tail_of_ItemOn→gA,AllBare→gN,subscriptTail_builtinR→ia,listItems_at→iA,size_push'→iE,subscriptTail→jm,envOfC→jE,bubble→jX,IntsAre→jY,general'→j4,keyKind'→j6,tail_any→j7
open PyProof.Rows.SortSt renaming mk'→jp
open PySem renaming wpAny_bind→af,Shared→ah,FuncData→ai,wpAny_pure→ar,mainGlobals→aG,Program→aH,wpAny→aJ,wpAny_loadPart_at→aW,Around→a_,Builtin→bg,World→bh,sizeLine_eq→bj,Spec→bo,wpAny_holding→bq,wpAny_with_toks→bt,wpAny_mono→bG,mem_of_lookup→bN,wpAny_Call_Name_kw→bT,wpAny_isSubtype_exc→bW,compareOp→b7,NameKind→b9,wpAny_field→cw,bootBuiltins→cA,starEach→cD,sysModules→cE,tupleKind_room_in1→cF,assignEach→cL,wpAny_truthy_bool→cM,behindInMarks→cZ,wpAny_standAt→c4,codeAny_call_builtin→c7,wpAny_call→dm,wpAny_newObj_type→dq,wpAny_passesOwn→du,Within→dw,excClassObj→dG,foldedSetIterable→d_,codeAny→eB,binaryOp→eK,call_meetsIn→eT,codeAny_mono→eU,typeLookup→eV,wpAny_newList→fh,atKey_none_of_get→fv,sliceBounds→fw,PassesOwn→fF,checkBuiltinCall→fJ,Paired→fN,letOwnedTupleGo→fZ,tupleKind→f9,wpAny_execs_nil→f_,codeAny_call_builtin_code→gx,relabel→gy,valueAt→gB,wpAny_check_type_call_sub→gC,wpAny_loadPart→gE,wpAny_setField→gG,call_meets→gL,swapsWith→gM,attributeBase→gW,bindSpecial→gX,codeAny_call_builtin_at→gY,wpAny_attempt→gZ,wpAny_callSpecial?_slot→g6,noFill_tuple_add→g9,pastItsLine_dict→g_,wpAny_call_entry→hG,wpAny_lookBehind→hJ,wpAny_madeBy_exc→hV,codeAny_handlers_suite→h_,wpAny_pyIter_rangeiter→ib,wpAny_pyNext_range_end→ic,backTo→iu,codeAny_builtin→iw,codeAny_handlers_test→iy,setFlight→iB,wpAny_isTrue_Compare1→iC,wpAny_pyIter_revIter→iI,dictSetDefault→iN,wpAny_newTuple→iO,wpAny_notIn_of→iP,IsRangeIter→iS,getAttr→i7,getItem→i8,keywordEach→i9,standAt→i_,wpAny_handleBy_cons→ja,IsPart→jb,bindArgs→jh,noteFrame→jk,seq_tuple_add→jl,swapsWithSole→jn,wpAny_pyIter_range→jo,callerA→jr,isInstance→js,notedBy→jt,wpAny_rule→ju,Result→jB,assign→jC,concat_meets→jD,seqIndex_neg→jF,wpAny_nsSet1→jG,wpAny_typeOf→jH,atKey→jI,GenState→jJ,BindsTo→jK,CmpOp→jL,Keyword→jM,Fin→jN,onTheHeap→jQ,raiseStmt→jR,rawInt→jS,seqIndex_of→jT,setAttr→jU,storedH_new→jV,wpAny_in_of→jW,Operator→j0,backToKw→j1,compEnvC→j2,frameOf→j3,unaryOp→j8,Walks→j9
open PySem.Around renaming under→jv
open PySem.Builtin.List renaming listTooLong→eQ
open PySem.Builtin.Range renaming rangeSize→bX,small→iQ
open PySem.Builtin.Slice renaming slicePlaces→c5,sliceAdjust→eC,sliceApplied→gd
open PySem.Builtin.Tuple renaming tupleExact→c9,tupleItemsOf→ge
open PySem.Calls renaming Name_function_global→gh,callWith_builtin→hW
open PySem.Code renaming quiet_builtin→dP,isFrame→jx
open PySem.EntryCells renaming newEntry→fR
open PySem.F renaming plainAttrs_list→cI,excBase_ValueError→cP,slot_dict_get→cX,entry_dict_get→dN,slot_dict_setdefault→dR,args_tuple_add_2→eR,entry_tuple_add→e_,plainAttrs_dict→ff,slot_tuple_add→fm,args_dict_setdefault_3→fG,entry_dict_setdefault→fI,slot_dict_getitem→gv,args_dict_get_2→gR,args_dict_get_3→gS,slot_list_count→gT,slot_list_index→gU,slot_dict_pop→ik
open PySem.Heap renaming get?_push_of_some→ag,lt_size→aC,get?_push_size→aF,get?_update_other→aY,SameBut→bA,get?_update_self→bM,size_push→dM,get?_none_of_le→fK,size_update→g7,get?_update_ne→iR
open PySem.Heap.SameBut renaming update→bE
open PySem.NameKind renaming free→dE
open PySem.Obj renaming mapSeq→aT,mapFields→bH,isFreed_of_fields→cW,data_mapDictKeys→iG
open PySem.Paired renaming length→fO
open PySem.SeqAt renaming EqAt→aZ,RcNeAt→eS,RcAt→gK
open PySem.SeqAt.EqAt renaming int_none→iX,none_int→iY,none_str→iZ,str_none→i4,int_str→je,str_int→jf
open PySem.Str renaming empty→ck,ofString→d7,length→jq
open PySem.Txt renaming slice→jO
open PySem.Value renaming ref→az,none→ba,builtin→cJ,str→fH,bool→fQ,int→ir,type→iD,isStrOf_shape→i6,isStrOf→jg,isInt→jP
open PySem.W renaming Frag→aa,findIn→ae,keepIn→aq,nsIn→aK,makesIn→aS,mg_of→aV,mroIn→bb,emptyDict→bp,fnOf→bB,instObj→bD,kia_one→bK,plainGet→bP,hasDictIn→bQ,isFn→bV,methodObj→bZ,plainOver→b0,specialIn→b6,codeIn→ci,kitOne→cj,looks_findIn→cH,takesIn→cO,callWith_K→cY,plainGet_of→dF,InstAt→eF,handedIn→eJ,callWith_K0→eN,kitx_list→fu,Looks→fP,copiedNames→fX,kas_place→fY,kitx_tuple→gp,lookIn→gw,makes_of→g8,cellsFrom_some→hZ,KatTups→il,OpenLaw→im,kia_tup→ip,takerIn→iq,kas_rev→iz,handedOut_of→iH,kitAny→iL,typeIn→iM,findObj_own→iV,looks_mroIn→iW,looks_find→jd,kas_desc→jj,kas_asc→j5
open Sum renaming inr→dO,inl→i5
open Sum.inr renaming inj→eO
open True renaming intro→bv
namespace L2
open PySem PySem.Spec PyProof.Rows
noncomputable abbrev Key:=Sum Int Str
noncomputable def F7:Key->Value->Bool
 | .inl k,v=>jP k v
 | .inr x,v=>jg x v
noncomputable def b82 (w:bh):Key->Int
 | .inl k=>hashInt k
 | .inr x=>hashStr w x
theorem Az:∀ {k:Key} {v:Value},F7 k v=true->(∃ i t,k=i5 i/\v=ir i t)\/(∃ x t,k=dO x/\v=fH x t)
 | .inl i,v,h=>by
  obtain⟨t,e⟩:=Value.isInt_shape (k:=i) (v:=v) h
  exact .inl ⟨i,t,rfl,e⟩
 | .inr x,v,h=>by
  obtain⟨t,e⟩:=i6 (x:=x) (v:=v) h
  exact .inr ⟨x,t,rfl,e⟩
theorem W2 (i:Int) (t:Tok):F7 (.inl i) (.int i t)=true:=by simp [F7,jP]
theorem W3 (x:Str) (t:Tok):F7 (.inr x) (.str x t)=true:=by simp [F7,jg]
theorem bb9 (a b:Int):decide ((i5 a:Key)=i5 b)=(a==b):=by
 by_cases e:a=b
 ·subst e;simp
 ·have h:¬ (i5 a:Key)=i5 b:=fun q=>e (Sum.inl.inj q)
  rw [decide_eq_false h]
  exact (beq_eq_false_iff_ne.mpr e).symm
theorem bc3 (a b:Str):decide ((dO a:Key)=dO b)=decide (a=b):=by
 by_cases e:a=b
 ·subst e;simp
 ·have h:¬ (dO a:Key)=dO b:=fun q=>e (eO q)
  rw [decide_eq_false h,decide_eq_false e]
theorem bc0 (a:Int) (b:Str):decide ((i5 a:Key)=dO b)=false:=decide_eq_false (fun q=>nomatch q)
theorem bc2 (a:Str) (b:Int):decide ((dO a:Key)=i5 b)=false:=decide_eq_false (fun q=>nomatch q)
noncomputable def As (prog:aH) (w:bh):PySem.KeyKind prog w Key where
 is:=F7
 hash:=b82 w
 inj:=fun v a b ha hb=>by
  rcases Az ha with ⟨i,t,rfl,rfl⟩|⟨x,t,rfl,rfl⟩
  ·rcases Az hb with ⟨j,u,rfl,e⟩|⟨y,u,rfl,e⟩
   ·injection e with e1 _;rw [e1]
   ·exact nomatch e
  ·rcases Az hb with ⟨j,u,rfl,e⟩|⟨y,u,rfl,e⟩
   ·exact nomatch e
   ·injection e with e1 _;rw [e1]
 byValue:=fun k v h=>by
  rcases Az h with ⟨i,t,rfl,rfl⟩|⟨x,t,rfl,rfl⟩ <;> rfl
 pyHash:=fun hv h=>by
  rcases Az hv with ⟨i,t,rfl,rfl⟩|⟨x,t,rfl,rfl⟩
  ·exact wpAny_pyHash_int h
  ·exact wpAny_pyHash_str h
 eqBool:=fun hu hv h=>by
  rcases Az hu with ⟨i,t,rfl,rfl⟩|⟨x,t,rfl,rfl⟩
  ·rcases Az hv with ⟨j,u,rfl,rfl⟩|⟨y,u,rfl,rfl⟩
   ·rw [bb9] at h;exact wpAny_eqBool_int h
   ·rw [bc0] at h;exact je i t y u _ _ _ _ h
  ·rcases Az hv with ⟨j,u,rfl,rfl⟩|⟨y,u,rfl,rfl⟩
   ·rw [bc2] at h;exact jf x t j u _ _ _ _ h
   ·rw [bc3] at h;exact wpAny_eqBool_str h
 «strs»:=fun k x t v h=>by
  rcases Az h with ⟨i,u,rfl,e⟩|⟨y,u,rfl,e⟩
  ·exact nomatch e
  ·injection e with e1 _
   subst e1
   cases v <;> rfl
theorem Qr (prog:aH) (w:bh) (i:Int) (t:Tok):(As prog w).is (.inl i) (.int i t)=true:=W2 i t
theorem Qs (prog:aH) (w:bh) (x:Str) (t:Tok):(As prog w).is (.inr x) (.str x t)=true:=W3 x t
inductive V where
 | non|bl (b:Bool)|int (i:Int)|str (x:Str)|byt (b:Array UInt8)|stk (x:Str) (n:Nat) (ex:Bool)|ref (a:Addr)|ty (n:String)
 deriving DecidableEq
noncomputable def RelV:V->Value->Prop
 | .non,u=>u=ba
 | .bl b,u=>u=fQ b
 | .int i,u=>∃ t,u=ir i t
 | .str x,u=>∃ t,u=fH x t
 | .byt b,u=>∃ t,u=Value.bytes b t
 | .stk x n ex,u=>∃ t,u=fH x t/\(if ex=true then t=n else n<=t)
 | .ref a,u=>u=az a
 | .ty n,u=>u=iD n
noncomputable def V.pl:V->Bool
 | .stk _ _ _=>false
 | _=>true
noncomputable abbrev Vals:List V->List Value->Prop:=fN RelV
theorem Vals.length {xs:List V} {us:List Value} (r:Vals xs us):xs.length=us.length:=fO r
theorem Vals.get:∀ {xs:List V} {us:List Value} {i:Nat} {x:V},Vals xs us->xs[i]? = some x -> ∃ u,us[i]? = some u/\RelV x u
 | _,_,_,_,.nil,e=>by simp at e
 | _,_,0,_,.cons r _,e=>by simp at e;subst e;exact⟨_,rfl,r⟩
 | _,_,i+1,x,.cons _ t,e=>by
  obtain⟨u,h1,h2⟩:=Vals.get (i:=i) (x:=x) t (by simpa using e)
  exact⟨u,by simpa using h1,h2⟩
theorem Vals.set {x:V} {u:Value} (r:RelV x u):∀ {xs:List V} {us:List Value} (i:Nat),Vals xs us->Vals (xs.set i x) (us.set i u)
 | _,_,_,.nil=>.nil
 | _,_,0,.cons _ t=>.cons r t
 | _,_,i+1,.cons q t=>.cons q (Vals.set r i t)
theorem Vals.append:∀ {xs ys:List V} {us ws:List Value},Vals xs us->Vals ys ws->Vals (xs++ys) (us++ws)
 | _,_,_,_,.nil,s=>s
 | _,_,_,_,.cons r t,s=>.cons r (Vals.append t s)
theorem Vals.take:∀ {xs:List V} {us:List Value} (n:Nat),Vals xs us->Vals (xs.take n) (us.take n)
 | _,_,0,_=>.nil
 | _,_,_+1,.nil=>.nil
 | _,_,n+1,.cons r t=>.cons r (Vals.take n t)
theorem Vals.drop:∀ {xs:List V} {us:List Value} (n:Nat),Vals xs us->Vals (xs.drop n) (us.drop n)
 | _,_,0,r=>r
 | _,_,_+1,.nil=>.nil
 | _,_,n+1,.cons _ t=>Vals.drop n t
noncomputable def RelO:Option V->Option Value->Prop
 | some v,some u=>RelV v u
 | none,none=>True
 | _,_=>False
noncomputable def KV {κ:Type}:List (κ×V)->List (κ×Value)->Prop:=fN fun (p:κ×V) (q:κ×Value)=>p.1=q.1/\RelV p.2 q.2
noncomputable def kV:Key->V
 | .inl i=>.int i
 | .inr x=>.str x
inductive HO where
 | lst (xs:List V)
 | tup (xs:List V)
 | dK (kvs:List (Key×V))|dT (kvs:List (List Key×V))
 | set (S:Int->Bool) (n:Nat)
 | ins (C dx:Addr) (fs:List (Str×V))
 | own (x:Addr)
 | xd (fs:List (Str×V))
 | met (f x:Addr)
 | rng (lo hi:Int)
 | frz (o:Obj) (u:HO)
 | tbl (ps:Array Value)
 | ext (φ:Heap->Prop)
noncomputable abbrev Hp:=Addr->Option HO
noncomputable def upd (H:Hp) (a:Addr) (o:HO):Hp:=fun b=>if b=a then some o else H b
theorem Ad {H:Hp} {a:Addr} {o:HO}:upd H a o a=some o:=by unfold upd;rw [if_pos rfl]
theorem Ak {H:Hp} {a b:Addr} {o:HO} (h:b≠a):upd H a o b=H b:=by unfold upd;rw [if_neg h]
theorem Od {H:Hp} {a:Addr} {o u:HO}:upd (upd H a o) a u=upd H a u:=by
 funext b;unfold upd;split <;> rfl
theorem a15 {H:Hp} {a b:Addr} {o u:HO} (h:H a=some o) (h':H b=some u) (d:o≠u):a≠b:=by
 intro e;subst e;rw [h] at h';exact d (aN h')
theorem Be {H:Hp} {a b:Addr} {o:HO} (h:H a=some o) (h':H b=none):a≠b:=by
 intro e;subst e;rw [h] at h';cases h'
section
variable (P:aH) (w:bh)
noncomputable def ObjOk (H:Hp) (h:Heap) (a:Addr):HO->Prop
 | .lst xs=>xs.length<=sizeLine /\ ∃ (its:List Value) (n:Nat),Vals xs its/\h.get? a=some { cls:=.type "list", data:=.seq its.toArray n }
 | .tup xs=>xs.length<=sizeLine /\ ∃ its:List Value,Vals xs its/\IsTup h a its.toArray
 | .dK kvs=>kvs.length<=sizeLine/\(a==cE)=false /\ ∃ vs,KV kvs vs/\h.DictOf (As P w) a vs
 | .dT kvs=>kvs.length<=sizeLine/\(a==cE)=false /\ ∃ xs:List (List Key×Addr×Value),
   fN (fun (p:List Key×V) (q:List Key×Addr×Value)=>p.1=q.1/\H q.2.1=some (.tup (p.1.map kV))/\RelV p.2 q.2.2) kvs xs /\
   ∃ o es ep,h.get? a=some o/\o.ExactDict/\o.data=.dict es ep/\es.toList=xs.map (entryOfKey (f9 (As P w)))/\(xs.map (·.1)).Nodup
 | .set S n=>h.SetOf (intKind P w) a S n
 | .ins C dx fs=>H dx=some (.own a)/\fs.length<=1000/\dx≠a/\h.get? a=some (bD C dx) /\
   ∃ mA,h.Ns1 dx mA/\(∀ f,RelO (fs.lookup f) (mA f))/\dw mA (fs.map (·.1))
 | .own _=>∃ o,h.get? a=some o
 | .xd fs=>∃ mA,h.Ns1 a mA /\ ∀ f,RelO (fs.lookup f) (mA f)
 | .rng lo hi=>∃ t u v,h.get? a=some { cls:=.type "range", data:=.fields #[.int lo t,.int hi u,.int 1 v] }
 | .frz o u=>h.get? a=some o/\ObjOk H h a u
 | .tbl ps=>h.get? a=some { cls:=.none,data:=.fields ps }
 | .met f x=>h.get? a=some (bZ (.ref f) (.ref x))
 | .ext φ=>φ h/\(∃ o,h.get? a=some o) /\ ∀ h1 h2:Heap,φ h1->(∀ o,h1.get? a=some o->h2.get? a=some o)->φ h2
noncomputable def HOk (H:Hp) (h:Heap):Prop:=∀ a o,H a=some o->ObjOk P w H h a o
end
section
variable {P:aH} {w:bh} {H H':Hp} {h h':Heap} {a:Addr} {o:HO}
theorem ObjOk.lt (x:ObjOk P w H h a o):a<h.objs.size:=by
 cases o with
 | lst xs=>obtain⟨_,_,_,_,e⟩:=x;exact aC e
 | tup xs=>obtain⟨_,_,_,p⟩:=x;exact p.lt
 | dK kvs=>obtain⟨_,_,_,_,o,_,_,e,_⟩:=x;exact aC e
 | dT kvs=>obtain⟨_,_,_,_,o,_,_,e,_⟩:=x;exact aC e
 | set S n=>obtain⟨o,_,_,_,e,_⟩:=x;exact aC e
 | ins C dx fs=>obtain⟨_,_,_,e,_⟩:=x;exact aC e
 | own y=>obtain⟨_,e⟩:=x;exact aC e
 | xd fs=>obtain⟨_,⟨_,_,_,e,_⟩,_⟩:=x;exact aC e
 | rng lo hi=>obtain⟨_,_,_,e⟩:=x;exact aC e
 | frz ob u=>obtain⟨e,_⟩:=x;exact aC e
 | tbl ps=>exact aC (show h.get? a=some _ from x)
 | met f y=>exact aC (show h.get? a=some _ from x)
 | ext φ=>obtain⟨_,⟨_,e⟩,_⟩:=x;exact aC e
theorem Paired.mapP {α β:Type} {F G:α->β->Prop}:∀ {l₁:List α} {l₂:List β},fN F l₁ l₂->(∀ a b,F a b->G a b)->fN G l₁ l₂
 | _,_,.nil,_=>.nil
 | _,_,.cons r t,f=>.cons (f _ _ r) (Paired.mapP t f)
theorem ObjOk.stay (x:ObjOk P w H h a o) (k:∀ b u,(b=a\/H b=some (.own a))->h.get? b=some u->h'.get? b=some u)
  (ho:∀ b,H b=some (.own a)->H' b=some (.own a)) (ht:∀ b xs,H b=some (.tup xs)->H' b=some (.tup xs)):ObjOk P w H' h' a o:=by
 induction o with
 | lst xs=>obtain⟨z,its,n,r,e⟩:=x;exact⟨z,its,n,r,k _ _ (.inl rfl) e⟩
 | tup xs=>obtain⟨z,its,r,ob,e,c⟩:=x;exact⟨z,its,r,ob,k _ _ (.inl rfl) e,c⟩
 | dK kvs=>obtain⟨z,y,vs,r,ob,es,ep,e,c⟩:=x;exact⟨z,y,vs,r,ob,es,ep,k _ _ (.inl rfl) e,c⟩
 | dT kvs=>
  obtain⟨z,y,xs,r,ob,es,ep,e,c⟩:=x
  exact⟨z,y,xs,Paired.mapP r fun p q z=>⟨z.1,ht _ _ z.2.1,z.2.2⟩,ob,es,ep,k _ _ (.inl rfl) e,c⟩
 | set S n=>obtain⟨ob,es,ep,t,e,c⟩:=x;exact⟨ob,es,ep,t,k _ _ (.inl rfl) e,c⟩
 | ins C dx fs=>
  obtain⟨d,z,ne,e,mA,⟨od,es,ep,e2,c⟩,r⟩:=x
  exact⟨ho _ d,z,ne,k _ _ (.inl rfl) e,mA,⟨od,es,ep,k _ _ (.inr d) e2,c⟩,r⟩
 | own y=>obtain⟨ob,e⟩:=x;exact⟨ob,k _ _ (.inl rfl) e⟩
 | xd fs=>obtain⟨mA,⟨od,es,ep,e,c⟩,r⟩:=x;exact⟨mA,⟨od,es,ep,k _ _ (.inl rfl) e,c⟩,r⟩
 | rng lo hi=>obtain⟨t,u,v,e⟩:=x;exact⟨t,u,v,k _ _ (.inl rfl) e⟩
 | frz ob u ih=>obtain⟨e,q⟩:=x;exact⟨k _ _ (.inl rfl) e,ih q⟩
 | tbl ps=>
  have e:h.get? a=some { cls:=.none,data:=.fields ps }:=x
  show h'.get? a=some { cls:=.none,data:=.fields ps }
  exact k a _ (.inl rfl) e
 | met f y=>
  have e:h.get? a=some (bZ (.ref f) (.ref y)):=x
  show h'.get? a=some (bZ (.ref f) (.ref y))
  exact k a _ (.inl rfl) e
 | ext φ=>obtain⟨p,⟨o,e⟩,st⟩:=x;exact⟨st _ _ p fun o q=>k _ _ (.inl rfl) q,⟨o,k _ _ (.inl rfl) e⟩,st⟩
theorem HOk.lt (x:HOk P w H h) (e:H a=some o):a<h.objs.size:=(x a o e).lt
theorem HOk.fresh (x:HOk P w H h) (e:h.objs.size<=a):H a=none:=by
 cases q:H a with
 | none=>rfl
 | some u=>exact absurd (aI (x.lt q) e) (eY _)
theorem HOk.kept (x:HOk P w H h) (k:∀ b u,h.get? b=some u->h'.get? b=some u):HOk P w H h':=fun a o e=>
 (x a o e).stay (fun b u _ q=>k b u q) (fun _ q=>q) fun _ _ q=>q
theorem HOk.laid (x:HOk P w H h) (k:∀ b u,h.get? b=some u->h'.get? b=some u) (hp:h.objs.size<=a) (new:ObjOk P w (upd H a o) h' a o):HOk P w (upd H a o) h':=fun b u e=>by
 have hn:=x.fresh hp
 by_cases hb:b=a
 ·subst hb;rw [Ad] at e;cases e;exact new
 ·rw [Ak hb] at e
  exact (x b u e).stay (fun c v _ q=>k c v q) (fun c q=>by rw [Ak (Be q hn)];exact q) fun c xs q=>by rw [Ak (Be q hn)];exact q
end
noncomputable def Rd (H:Hp) (a:Addr) (u:HO):Prop:=H a=some u \/ ∃ o,H a=some (.frz o u)
theorem Rd.ok {P:aH} {w:bh} {H:Hp} {h:Heap} {a:Addr} {u:HO} (r:Rd H a u) (x:HOk P w H h):ObjOk P w H h a u:=by
 rcases r with r|⟨o,r⟩
 ·exact x a u r
 ·obtain⟨_,q⟩:=x a _ r
  exact q
noncomputable def Mut:Option HO->Prop
 | some (.lst _)=>True
 | some (.dK _)=>True
 | some (.dT _)=>True
 | some (.set _ _)=>True
 | some (.ins _ _ _)=>True
 | some (.ext _)=>True
 | _=>False
section
variable {P:aH} {w:bh} {H:Hp} {h h':Heap} {x e:Addr} {o':HO}
theorem HOk.write (ok:HOk P w H h) (mu:Mut (H x)) (he:e=x\/H e=some (.own x)) (k:∀ b u,b≠e->h.get? b=some u->h'.get? b=some u) (heo:∃ u,h'.get? e=some u)
  (new:ObjOk P w (upd H x o') h' x o'):HOk P w (upd H x o') h':=fun b u q=>by
 have nown:∀ c y,H c=some (.own y)->c≠x:=fun c y r z=>by subst z;rw [r] at mu;exact mu
 have ntup:∀ c xs,H c=some (.tup xs)->c≠x:=fun c xs r z=>by subst z;rw [r] at mu;exact mu
 by_cases hb:b=x
 ·subst hb;rw [Ad] at q;cases q;exact new
 ·rw [Ak hb] at q
  by_cases hbe:b=e
  ·have q':H b=some (.own x):=by
    rcases he with z|z
    ·exact absurd (hbe.trans z) hb
    ·rw [hbe];exact z
   rw [q] at q';cases q'
   obtain⟨v,hv⟩:=heo
   exact⟨v,by rw [hbe];exact hv⟩
  ·refine (ok b u q).stay (fun c v hc r=>k c v ?_ r) (fun c r=>by rw [Ak (nown c b r)];exact r) fun c xs r=>by rw [Ak (ntup c xs r)];exact r
   rcases hc with rfl|hc
   ·exact hbe
   ·rintro rfl
    rcases he with z|z
    ·exact nown c b hc z
    ·rw [hc] at z;cases z;exact hb rfl
end
structure Un (fs ex:List Addr) (H H':Hp) (h h':Heap):Prop where
 keep:∀ b o,h.get? b=some o->H b=none->b∉fs->b∉ex->h'.get? b=some o
 slot:∀ b o,h.get? b=some o->H b=none->b∈fs->b∉ex -> ∃ sl,h'.get? b=some { o with slots:=sl }
 free:∀ b o,h.get? b=some o->H b=none->b∉ex->H' b=none
 there:∀ b o,h.get? b=some o->b∉ex -> ∃ o',h'.get? b=some o'
 tups:∀ b xs,H b=some (.tup xs)->H' b=some (.tup xs)
 frzs:∀ b o u,H b=some (.frz o u)->H' b=some (.frz o u)
 tbls:∀ b ps,H b=some (.tbl ps) -> ∃ more,H' b=some (.tbl (ps++more))
section
variable {fs fs' ex ex':List Addr} {H H1 H2:Hp} {h h1 h2 h':Heap} {a x e:Addr} {o:HO}
theorem Un.any (u:Un fs ex H H1 h h1) {b:Addr} {ob:Obj} (q:h.get? b=some ob) (n:H b=none) (hx:b∉ex):∃ sl,h1.get? b=some { ob with slots:=sl }:=by
 by_cases hb:b∈fs
 ·exact u.slot b ob q n hb hx
 ·exact⟨ob.slots,u.keep b ob q n hb hx⟩
theorem Un.kept (k:∀ b u,h.get? b=some u->h'.get? b=some u):Un fs ex H H h h':=
 ⟨fun b ob q _ _ _=>k b ob q,fun b ob q _ _ _=>⟨ob.slots,k b ob q⟩,fun _ _ _ n _=>n,fun b ob q _=>⟨ob,k b ob q⟩,fun _ _ q=>q,fun _ _ _ q=>q,fun _ ps q=>⟨#[],by rw [q];simp⟩⟩
theorem Un.refl:Un fs ex H H h h:=Un.kept fun _ _ q=>q
theorem Un.laid (k:∀ b u,h.get? b=some u->h'.get? b=some u) (hp:h.objs.size<=a) (hn:H a=none):Un fs ex H (upd H a o) h h' where
 keep:=fun b u q _ _ _=>k b u q
 slot:=fun b u q _ _ _=>⟨u.slots,k b u q⟩
 free:=fun b u q n _=>by rw [Ak (aQ (aI (aC q) hp))];exact n
 there:=fun b u q _=>⟨u,k b u q⟩
 tups:=fun b xs q=>by rw [Ak (Be q hn)];exact q
 frzs:=fun b u xs q=>by rw [Ak (Be q hn)];exact q
 tbls:=fun b ps q=>⟨#[],by rw [Ak (Be q hn),q];simp⟩
theorem Un.write (mu:Mut (H x)) (he:e=x\/H e=some (.own x)) (k:∀ b u,b≠e->h.get? b=some u->h'.get? b=some u) (heo:∃ u,h'.get? e=some u):Un fs ex H (upd H x o) h h':=by
 have hx:∀ b,H b=none->b≠x:=fun b n z=>by subst z;rw [n] at mu;exact mu
 have hb:∀ b,H b=none->b≠e:=fun b n z=>by
  subst z
  rcases he with r|r
  ·exact hx b n r
  ·rw [n] at r;cases r
 have hm:∀ b u,H b=some u -> ¬ Mut (some u)->b≠x:=fun b u q nm z=>by subst z;rw [q] at mu;exact nm mu
 refine⟨fun b u q n _ _=>k b u (hb b n) q,fun b u q n _ _=>⟨u.slots,k b u (hb b n) q⟩,fun b u q n _=>by rw [Ak (hx b n)];exact n,fun b u q _=>?_,
  fun b xs q=>by rw [Ak (hm b _ q fun z=>z)];exact q,fun b u xs q=>by rw [Ak (hm b _ q fun z=>z)];exact q,fun b ps q=>⟨#[],by rw [Ak (hm b _ q fun z=>z),q];simp⟩⟩
 by_cases hbe:b=e
 ·subst hbe;exact heo
 ·exact⟨u,k b u hbe q⟩
end
noncomputable def trk (h:Heap) (H:Hp):List Addr:=(cQ h.objs.size).filter fun a=>(H a).isSome
noncomputable def M7 (h:Heap) (H:Hp):Heap:=PySem.W.hideAll h (trk h H)
theorem Wx (h:Heap) (H:Hp):(M7 h H).objs.size=h.objs.size:=PySem.W.hideAll_size _ _
theorem ad4 {h:Heap} {H:Hp} {b:Addr} {o:Obj} (e:h.get? b=some o) (n:H b=none):(M7 h H).get? b=some o:=
 PySem.W.hideAll_get _ e fun hm=>by
  have q:(H b).isSome=true:=(List.mem_filter.mp hm).2
  rw [n] at q;simp at q
theorem ar5 {h:Heap} {H:Hp} {b:Addr} {o:Obj} (e:(M7 h H).get? b=some o):h.get? b=some o/\H b=none:=by
 have e':h.get? b=some o:=PySem.W.of_hideAll (trk h H) e
 refine⟨e',?_⟩
 cases q:H b with
 | none=>rfl
 | some x=>
  have hm:b∈trk h H:=List.mem_filter.mpr ⟨List.mem_range.mpr (aC e'),by simp [q]⟩
  have z:(M7 h H).get? b=none:=PySem.W.hideAll_none (trk h H) hm
  rw [z] at e;cases e
structure Mod (K:aa) (mg:Str->Option Value) (base:Heap):Prop where
 kin:K.In base
 glob:base.Ns aG mg
 blt:∃ mb,base.Ns builtinsNs mb /\ ∀ x:Str,x ≠ "__name__" -> mb x=cA x
 nolimit:base.NoLimit
structure Cx where
 prog:aH
 w:bh
 K:aa
 mg:Str->Option Value
 base:Heap
 A:a_
 N:List Str
 s₀:ah
 H₀:Hp
 env:Env
 outer:List Env
 stack:List Env
 ex:List Addr
 fn:Str->Bool
 calm:Bool
 pn:List (Addr×Obj)
 xe:Value->ah->Prop
noncomputable def frs (l:List Env):List Addr:=l.filterMap (·.frame)
noncomputable abbrev Cx.fs (X:Cx):List Addr:=frs X.outer
noncomputable def Vis (sc:Scope) (x:Str):Prop:=sc.names.lookup x=some .local\/sc.names.lookup x=some .cell\/sc.names.lookup x=some .free
noncomputable def Loc (sc:Scope) (x:Str):Prop:=sc.names.lookup x=some .local\/sc.names.lookup x=some .cell
noncomputable def cr5 (env:Env) (h:Heap) (m:Str->Option Value) (x:Str) (u:Value):Prop:=
 (env.kindOf x=some .local/\m x=some u)\/((env.kindOf x=some .cell\/env.kindOf x=some .free) /\ ∃ c,env.cells.lookup x=some c/\h.IsCell c (some u))
noncomputable def Us (_:aa) (_:Nat):Prop:=True
structure Cx.Ok (X:Cx):Prop where
 mod:Mod X.K X.mg X.base
 kind:X.env.scope.kind=.function
 glob:X.env.globals=aG
 blt:X.env.builtins=builtinsNs
 above:X.s₀.heap.objs.size<=X.env.locals
 inj:∀ x y c,X.env.cells.lookup x=some c->X.env.cells.lookup y=some c->x=y
 has:∀ x,(X.env.kindOf x=some .cell\/X.env.kindOf x=some .free) -> ∃ c,X.env.cells.lookup x=some c
 cab:∀ x c,X.fn x=true->X.env.cells.lookup x=some c->X.s₀.heap.objs.size<=c
 hd:X.calm=true->X.A.handled=none
 frames:X.A.frames=some X.stack
 stk:X.stack=X.outer\/(X.stack=X.env::X.outer/\X.env.frame=some X.env.locals)
 exf:∀ b∈X.ex,b≠X.env.locals /\ ∀ x c,X.env.cells.lookup x=some c->c≠b
 bs:∀ b o,X.base.get? b=some o->X.s₀.heap.get? b=some o/\X.H₀ b=none
 bsz:X.base.objs.size<=X.s₀.heap.objs.size
 noex:∀ b o,X.base.get? b=some o->b∉X.ex
 exfs:∀ b∈X.ex,b∉X.fs
 funs:X.s₀.heap.FunFrames X.base X.outer
 frf:∀ b∈X.fs,X.H₀ b=none
 tk:Us X.K X.s₀.toks
structure Inv (X:Cx) (pins:List (Addr×Obj)) (σ:List (Option V)) (H:Hp) (s:ah):Prop where
 ok:X.Ok
 os:s.os=X.s₀.os/\X.s₀.toks<=s.toks
 bare:gN s.gens
 base:Un X.fs X.ex X.H₀ H X.s₀.heap s.heap
 loc:∃ m,s.heap.Ns X.env.locals m /\ ∀ (i:Nat) (x:Str) (v:V),X.N[i]? = some x->σ[i]? = some (some v)->Vis X.env.scope x -> ∃ u,RelV v u/\cr5 X.env s.heap m x u
 cell:∀ x c,X.env.cells.lookup x=some c -> ∃ v,s.heap.IsCell c v
 free:H X.env.locals=none
 freeC:∀ x c,X.env.cells.lookup x=some c->H c=none
 pin:∀ p∈X.pn++pins,s.heap.get? p.1=some p.2/\H p.1=none/\p.1≠X.env.locals/\p.1∉X.fs /\ ∀ v,p.2.data≠.cell v
 hok:HOk X.prog X.w H s.heap
 len:σ.length=X.N.length
section
variable {X:Cx} {pins:List (Addr×Obj)} {σ:List (Option V)} {H H':Hp} {s:ah} {h':Heap}
theorem Cx.Ok.nofr (ok:X.Ok) {b:Addr} {o:Obj} (e:X.base.get? b=some o):b∉X.fs:=fun hb=>by
 have:=(ok.funs.mem hb).1
 rw [e] at this;cases this
theorem Inv.bs (I:Inv X pins σ H s):∀ b o,X.base.get? b=some o->s.heap.get? b=some o/\H b=none:=fun b o e=>
 ⟨I.base.keep b o (I.ok.bs b o e).1 (I.ok.bs b o e).2 (I.ok.nofr e) (I.ok.noex b o e),I.base.free b o (I.ok.bs b o e).1 (I.ok.bs b o e).2 (I.ok.noex b o e)⟩
theorem Inv.bk (I:Inv X pins σ H s):∀ b o,X.base.get? b=some o->s.heap.get? b=some o:=fun b o e=>(I.bs b o e).1
theorem Inv.mod (I:Inv X pins σ H s):Mod X.K X.mg X.base:=I.ok.mod
theorem Inv.kIn (I:Inv X pins σ H s):X.K.In s.heap:=I.ok.mod.kin.keeps I.bk
theorem Inv.lt (I:Inv X pins σ H s):X.env.locals<s.heap.objs.size:=let ⟨_,hn,_⟩:=I.loc;hn.lt
theorem Inv.sz (I:Inv X pins σ H s):X.s₀.heap.objs.size<=s.heap.objs.size:=aR I.ok.above (fC I.lt)
theorem Inv.nofs (I:Inv X pins σ H s) {a:Addr} (h:s.heap.objs.size<=a):a∉X.fs:=fun hb=>by
 obtain⟨_,o,ho,_⟩:=I.ok.funs.mem hb
 exact absurd (aI (aC ho) (aR I.sz h)) (eY _)
theorem Inv.cne (I:Inv X pins σ H s):∀ x c,X.env.cells.lookup x=some c->c≠X.env.locals:=fun x c e z=>by
 obtain⟨v,o,ho,hd⟩:=I.cell x c e
 obtain⟨m,⟨o',es,ep,ho',hd',_⟩,_⟩:=I.loc
 rw [z,ho'] at ho;cases ho;rw [hd'] at hd;cases hd
theorem Inv.funs (I:Inv X pins σ H s):s.heap.FunFrames X.base X.outer:=by
 have all:∀ (l:List Env),(∀ b∈frs l,b∈X.fs)->X.s₀.heap.FunFrames X.base l->s.heap.FunFrames X.base l:=by
  intro l
  induction l with
  | nil=>intro _ _;trivial
  | cons env r ih=>
   intro hs hl
   obtain⟨hk,⟨L,o,hf,hn,ho,hd⟩,hr⟩:=hl
   have hL:L∈X.fs:=hs L (by unfold frs;rw [fT,hf];exact b8)
   obtain⟨sl,e⟩:=I.base.slot L o ho (I.ok.frf L hL) hL fun z=>I.ok.exfs L z hL
   exact⟨hk,⟨L,_,hf,hn,e,hd⟩,ih (fun b hb=>hs b (by unfold frs;rw [fT,hf];exact ax _ hb)) hr⟩
 exact all X.outer (fun _ hb=>hb) I.ok.funs
theorem Inv.stack (I:Inv X pins σ H s):s.heap.FunFrames X.base X.stack:=by
 rcases I.ok.stk with e|⟨e,hf⟩
 ·rw [e];exact I.funs
 ·rw [e]
  obtain⟨m,hn,_⟩:=I.loc
  refine .cons (by rw [I.ok.kind];decide) hf hn ?_ I.funs
  exact fK (aR I.ok.bsz I.ok.above)
theorem Inv.stkSub (I:Inv X pins σ H s):∀ b∈frs X.stack,b∈X.env.locals::X.fs:=fun b hb=>by
 rcases I.ok.stk with e|⟨e,hf⟩
 ·rw [e] at hb;exact ax _ hb
 ·rw [e] at hb
  unfold frs at hb
  rw [fT,hf] at hb
  exact hb
theorem Inv.stkFree (I:Inv X pins σ H s):∀ b∈frs X.stack,H b=none:=fun b hb=>by
 rcases List.mem_cons.mp (I.stkSub b hb) with e|hb
 ·rw [e];exact I.free
 ·obtain⟨_,o,ho,_⟩:=I.ok.funs.mem hb
  exact I.base.free b o ho (I.ok.frf b hb) fun z=>I.ok.exfs b z hb
theorem Inv.step {g':Array jJ} {t':Nat} {d':Drawn} {ch:List Addr} (I:Inv X pins σ H s)
  (hch:∀ b∈ch,(b∈X.ex\/X.s₀.heap.objs.size<=b)/\b≠X.env.locals/\(∀ x c,X.env.cells.lookup x=some c->c≠b) /\ ∀ p∈X.pn++pins,p.1≠b)
  (keep:∀ b o,b≠X.env.locals->b∉X.fs->b∉ch->s.heap.get? b=some o->H b=none->h'.get? b=some o)
  (slot:∀ b o,b≠X.env.locals->b∈X.fs->b∉ch->s.heap.get? b=some o->H b=none -> ∃ sl,h'.get? b=some { o with slots:=sl }) (free:∀ b o,b∉ch->s.heap.get? b=some o->H b=none->H' b=none)
  (there:∀ b o,b∉ch->s.heap.get? b=some o -> ∃ o',h'.get? b=some o')
  (tups:∀ b xs,H b=some (.tup xs)->H' b=some (.tup xs)) (frzs:∀ b o u,H b=some (.frz o u)->H' b=some (.frz o u)) (tbls:∀ b ps,H b=some (.tbl ps) -> ∃ more,H' b=some (.tbl (ps++more)))
  (ns:∀ m,s.heap.Ns X.env.locals m->h'.Ns X.env.locals m) (hok:HOk X.prog X.w H' h') (hg:gN g') (ht:s.toks<=t':=by first|exact ac _|exact bc _ _|assumption|omega|(dsimp only;omega)) :
  Inv X pins σ H' { s with heap:=h',gens:=g',drawn:=d',toks:=t' }:=by
 have neL:∀ b o,X.s₀.heap.get? b=some o->b≠X.env.locals:=fun b o e=>aQ (aI (aC e) I.ok.above)
 have neC:∀ b o,X.s₀.heap.get? b=some o->b∉X.ex->b∉ch:=fun b o e hx hb=>by
  rcases (hch b hb).1 with z|z
  ·exact hx z
  ·exact absurd (aI (aC e) z) (eY _)
 have cellK:∀ x c,X.env.cells.lookup x=some c -> ∀ v,s.heap.IsCell c v->h'.IsCell c v:=fun x c e v ⟨o,ho,hd⟩=>by
  have nch:c∉ch:=fun z=>(hch c z).2.2.1 x c e rfl
  by_cases hc:c∈X.fs
  ·obtain⟨sl,q⟩:=slot c o (I.cne x c e) hc nch ho (I.freeC x c e)
   exact⟨_,q,hd⟩
  ·exact⟨o,keep c o (I.cne x c e) hc nch ho (I.freeC x c e),hd⟩
 refine⟨I.ok,⟨I.os.1,aR I.os.2 ht⟩,hg,⟨fun b o e n hb hx=>?_,fun b o e n hb hx=>?_,fun b o e n hx=>?_,fun b o e hx=>?_,fun b xs e=>tups b xs (I.base.tups b xs e),fun b o xs e=>frzs b o xs (I.base.frzs b o xs e),fun b ps e=>?_⟩,?_,fun x c e=>?_,?_,fun x c e=>?_,fun p hp=>?_,hok,I.len⟩
 ·exact keep b o (neL b o e) hb (neC b o e hx) (I.base.keep b o e n hb hx) (I.base.free b o e n hx)
 ·obtain⟨sl,e1⟩:=I.base.slot b o e n hb hx
  obtain⟨sl',e2⟩:=slot b _ (neL b o e) hb (neC b o e hx) e1 (I.base.free b o e n hx)
  exact⟨sl',e2⟩
 ·obtain⟨o',e1⟩:=I.base.there b o e hx
  exact free b o' (neC b o e hx) e1 (I.base.free b o e n hx)
 ·obtain⟨o',e1⟩:=I.base.there b o e hx
  exact there b o' (neC b o e hx) e1
 ·obtain⟨m1,e1⟩:=I.base.tbls b ps e
  obtain⟨m2,e2⟩:=tbls b _ e1
  exact⟨m1++m2,by rw [e2,Array.append_assoc]⟩
 ·obtain⟨m,hn,hl⟩:=I.loc
  refine⟨m,ns m hn,fun i x v e1 e2 e3=>?_⟩
  obtain⟨u,r,l⟩:=hl i x v e1 e2 e3
  refine⟨u,r,?_⟩
  rcases l with l|⟨k,c,e,z⟩
  ·exact .inl l
  ·exact .inr ⟨k,c,e,cellK x c e _ z⟩
 ·obtain⟨v,z⟩:=I.cell x c e
  exact⟨v,cellK x c e v z⟩
 ·obtain⟨m,⟨o,_,_,ho,_⟩,_⟩:=I.loc
  exact free _ o (fun z=>(hch _ z).2.1 rfl) ho I.free
 ·obtain⟨v,o,ho,hd⟩:=I.cell x c e
  exact free c o (fun z=>(hch c z).2.2.1 x c e rfl) ho (I.freeC x c e)
 ·obtain⟨e,n,ne,nf,d⟩:=I.pin p hp
  have nch:p.1∉ch:=fun z=>(hch p.1 z).2.2.2 p hp rfl
  exact⟨keep p.1 p.2 ne nf nch e n,free p.1 p.2 nch e n,ne,nf,d⟩
theorem Inv.un {t':Nat} (I:Inv X pins σ H s) (u:Un X.fs [] H H' s.heap h') (hok:HOk X.prog X.w H' h') (ht:s.toks<=t':=by first|exact ac _|exact bc _ _|assumption|omega|(dsimp only;omega)):Inv X pins σ H' { s with heap:=h',toks:=t' }:=by
 obtain⟨m,⟨o,es,ep,ho,r⟩,_⟩:=id I.loc
 obtain⟨sl,hL⟩:=u.any ho I.free (by simp)
 exact I.step (g':=s.gens) (d':=s.drawn) (ch:=[]) (fun _ z=>nomatch z) (fun b o _ hb _ e n=>u.keep b o e n hb (by simp)) (fun b o _ hb _ e n=>u.slot b o e n hb (by simp)) (fun b o _ e n=>u.free b o e n (by simp)) (fun b o _ e=>u.there b o e (by simp)) u.tups u.frzs u.tbls (fun m' hm=>by
  obtain⟨o',es',ep',ho',r'⟩:=hm
  rw [ho] at ho';cases ho'
  exact⟨_,es',ep',hL,r'⟩) hok I.bare
theorem Inv.call {g':Array jJ} {t':Nat} {d':Drawn} {ch:List Addr} (I:Inv X pins σ H s) (u:Un (frs X.stack) ch H H' s.heap h') (hok:HOk X.prog X.w H' h') (hg:gN g')
  (hch:∀ b∈ch,(b∈X.ex\/X.s₀.heap.objs.size<=b)/\b≠X.env.locals/\(∀ x c,X.env.cells.lookup x=some c->c≠b) /\ ∀ p∈X.pn++pins,p.1≠b) (ht:s.toks<=t':=by first|exact ac _|exact bc _ _|assumption|omega|(dsimp only;omega)) :
  Inv X pins σ H' { s with heap:=h',gens:=g',drawn:=d',toks:=t' }:=by
 obtain⟨m,⟨o,es,ep,ho,r⟩,_⟩:=id I.loc
 obtain⟨sl,hL⟩:=u.any ho I.free fun z=>(hch _ z).2.1 rfl
 exact I.step (ch:=ch) hch (fun b o hL hb hc e n=>u.keep b o e n (fun z=>(List.mem_cons.mp (I.stkSub b z)).elim hL hb) hc) (fun b o _ _ hc e n=>u.any e n hc) (fun b o hc e n=>u.free b o e n hc) (fun b o hc e=>u.there b o e hc) u.tups u.frzs u.tbls (fun m' hm=>by
  obtain⟨o',es',ep',ho',r'⟩:=hm
  rw [ho] at ho';cases ho'
  exact⟨_,es',ep',hL,r'⟩) hok hg
theorem Inv.turned {t':Nat} {it:Addr} (I:Inv X pins σ H s) (k:∀ b o,b≠it->s.heap.get? b=some o->h'.get? b=some o) (hn:H it=none) (hL:it≠X.env.locals)
  (h1:it∈X.ex\/X.s₀.heap.objs.size<=it) (h2:∀ x c,X.env.cells.lookup x=some c->c≠it) (h3:∀ p∈X.pn++pins,p.1≠it) (ht:s.toks<=t':=by first|exact ac _|exact bc _ _|assumption|omega|(dsimp only;omega)):Inv X pins σ H { s with heap:=h',toks:=t' }:=by
 have nit:∀ b u,H b=some u->b≠it:=fun b u e z=>by rw [z,hn] at e;cases e
 refine I.step (g':=s.gens) (d':=s.drawn) (ch:=[it]) (fun b hb=>?_) (fun b o _ _ hc e _=>k b o (fun z=>hc (by simp [z])) e) (fun b o _ _ hc e _=>⟨o.slots,k b o (fun z=>hc (by simp [z])) e⟩) (fun _ _ _ _ n=>n)
  (fun b o hc e=>⟨o,k b o (fun z=>hc (by simp [z])) e⟩) (fun _ _ e=>e) (fun _ _ _ e=>e) (fun b ps e=>⟨#[],by rw [e];simp⟩) (fun m hm=>?_) (fun b u e=>?_) I.bare
 ·have e:b=it:=by simpa using hb
  subst e
  exact⟨h1,hL,h2,h3⟩
 ·obtain⟨o,es,ep,ho,r⟩:=hm
  exact⟨o,es,ep,k _ o (cz hL) ho,r⟩
 ·refine (I.hok b u e).stay (fun c v hc q=>k c v ?_ q) (fun _ q=>q) fun _ _ q=>q
  rcases hc with z|z
  ·rw [z];exact nit b u e
  ·exact nit c _ z
theorem Inv.tok (I:Inv X pins σ H s) (t:Nat) (ht:s.toks<=t:=by first|exact ac _|exact bc _ _|assumption|omega|(dsimp only;omega)):Inv X pins σ H { s with toks:=t }:=I.un (h':=s.heap) (t':=t) Un.refl I.hok ht
theorem Inv.kept {t':Nat} (I:Inv X pins σ H s) (k:∀ b u,s.heap.get? b=some u->h'.get? b=some u) (ht:s.toks<=t':=by first|exact ac _|exact bc _ _|assumption|omega|(dsimp only;omega)):Inv X pins σ H { s with heap:=h',toks:=t' }:=I.un (Un.kept k) (I.hok.kept k) ht
theorem Inv.laid {a:Addr} {o:HO} {t':Nat} (I:Inv X pins σ H s) (k:∀ b u,s.heap.get? b=some u->h'.get? b=some u) (hp:s.heap.objs.size<=a) (new:ObjOk X.prog X.w (upd H a o) h' a o) (ht:s.toks<=t':=by first|exact ac _|exact bc _ _|assumption|omega|(dsimp only;omega)) :
  Inv X pins σ (upd H a o) { s with heap:=h',toks:=t' }:=I.un (Un.laid k hp (I.hok.fresh hp)) (I.hok.laid k hp new) ht
theorem Inv.write {x e:Addr} {o:HO} {t':Nat} (I:Inv X pins σ H s) (mu:Mut (H x)) (he:e=x\/H e=some (.own x)) (k:∀ b u,b≠e->s.heap.get? b=some u->h'.get? b=some u) (heo:∃ u,h'.get? e=some u)
  (new:ObjOk X.prog X.w (upd H x o) h' x o) (ht:s.toks<=t':=by first|exact ac _|exact bc _ _|assumption|omega|(dsimp only;omega)):Inv X pins σ (upd H x o) { s with heap:=h',toks:=t' }:=I.un (Un.write mu he k heo) (I.hok.write mu he k heo new) ht
theorem Inv.pins_of {pins':List (Addr×Obj)} (I:Inv X pins σ H s) (h:∀ p∈pins',s.heap.get? p.1=some p.2/\H p.1=none/\p.1≠X.env.locals/\p.1∉X.fs /\ ∀ v,p.2.data≠.cell v):Inv X pins' σ H s:=
 ⟨I.ok,I.os,I.bare,I.base,I.loc,I.cell,I.free,I.freeC,fun p hp=>(List.mem_append.mp hp).elim (fun z=>I.pin p (cm _ z)) (h p),I.hok,I.len⟩
theorem Jl {N:List Str} (hN:N.Nodup) {i j:Nat} {x:Str} (a:N[i]? = some x) (b:N[j]? = some x):i=j:=by
 obtain⟨h1,e1⟩:=List.getElem?_eq_some_iff.mp a
 obtain⟨h2,e2⟩:=List.getElem?_eq_some_iff.mp b
 exact (List.getElem_inj hN).mp (e1.trans e2.symm)
theorem Xo {M:Model} {A:a_} {E:Value->ah->Prop} {i:Nat} {x:Str} {v:V} {u:Value} {Q:Unit->ah->Prop} (I:Inv X pins σ H s) (hN:X.N.Nodup) (hi:X.N[i]? = some x) (hx:Loc X.env.scope x) (r:RelV v u)
  (h:∀ s',Inv X pins (σ.set i (some v)) H s'->(∃ a,bA a s.heap s'.heap/\(a=X.env.locals\/X.env.cells.lookup x=some a))->Q () s') (hf:X.fn x=true\/X.env.scope.names.lookup x=some .local:=by first|exact .inl rfl|exact .inr rfl|assumption):aJ M A (storeName X.env x u) Q E s:=by
 obtain⟨m,hn,hl⟩:=id I.loc
 have hcls:(X.env.scope.kind==.class||(X.env.scope.kind==.module&&X.env.locals != X.env.globals))=false:=by rw [I.ok.kind];rfl
 have hiσ:i<σ.length:=by rw [I.len];exact (List.getElem?_eq_some_iff.mp hi).1
 have cne:=I.cne
 have tracked:∀ {a:Addr} {h':Heap},(∃ o,s.heap.get? a=some o/\H a=none)->bA a s.heap h'->HOk X.prog X.w H h':=fun {a h'} ha hs b ob e=>by
  obtain⟨_,_,hfree⟩:=ha
  refine (I.hok b ob e).stay (fun c w' hc q=>(hs.2 c ?_).trans q) (fun _ q=>q) fun _ _ q=>q
  rintro rfl
  rcases hc with rfl|hc
  ·rw [hfree] at e;cases e
  ·rw [hfree] at hc;cases hc
 rcases hx with hk|hk
 ·refine wpAny_storeName_local hk hn (fun h' hn' hs=>?_) hcls
  obtain⟨oL,_,_,hoL,_⟩:=id hn
  refine h _ ⟨I.ok,⟨I.os.1,aR I.os.2 (by first|exact ac _|exact bc _ _)⟩,I.bare,⟨fun b o e n hb hx=>?_,fun b o e n hb hx=>?_,I.base.free,fun b o e hx=>?_,I.base.tups,I.base.frzs,I.base.tbls⟩,⟨_,hn',fun j y v' e1 e2 e3=>?_⟩,fun y c e=>?_,I.free,I.freeC,fun p hp=>?_,tracked ⟨oL,hoL,I.free⟩ hs,by simpa using I.len⟩ ⟨_,hs,.inl rfl⟩
  ·exact (hs.2 b (aQ (aI (aC e) I.ok.above))).trans (I.base.keep b o e n hb hx)
  ·obtain⟨sl,e1⟩:=I.base.slot b o e n hb hx
   exact⟨sl,(hs.2 b (aQ (aI (aC e) I.ok.above))).trans e1⟩
  ·obtain⟨o',e1⟩:=I.base.there b o e hx
   exact⟨o',(hs.2 b (aQ (aI (aC e) I.ok.above))).trans e1⟩
  ·by_cases hj:j=i
   ·subst hj
    rw [hi] at e1;cases e1
    rw [fj hiσ] at e2
    cases e2
    exact⟨u,r,.inl ⟨hk,by simp⟩⟩
   ·rw [fM (cz hj)] at e2
    obtain⟨u',r',q⟩:=hl j y v' e1 e2 e3
    refine⟨u',r',?_⟩
    rcases q with ⟨k,e⟩|⟨k,c,e,z⟩
    ·refine .inl ⟨k,?_⟩
     have:y≠x:=fun e=>hj (Jl hN e1 (e▸hi))
     simp [this,e]
    ·exact .inr ⟨k,c,e,z.sameBut hs (cne y c e)⟩
  ·obtain⟨w',z⟩:=I.cell y c e
   exact⟨w',z.sameBut hs (cne y c e)⟩
  ·obtain⟨e,n,ne,nf,d⟩:=I.pin p hp
   exact⟨(hs.2 p.1 ne).trans e,n,ne,nf,d⟩
 ·have hfn:X.fn x=true:=by
   rcases hf with z|z
   ·exact z
   ·rw [z] at hk;cases hk
  obtain⟨c,hc⟩:=I.ok.has x (.inl hk)
  obtain⟨w',z⟩:=I.cell x c hc
  refine wpAny_storeName_cell I.ok.kind hk hc z (fun h' hc' hs=>?_)
  obtain⟨oc,hoc,hocd⟩:=id z
  refine h { s with heap:=h' } ⟨I.ok,I.os,I.bare,⟨fun b o e n hb hx=>?_,fun b o e n hb hx=>?_,I.base.free,fun b o e hx=>?_,I.base.tups,I.base.frzs,I.base.tbls⟩,⟨m,hn.sameBut hs (cz (cne x c hc)),fun j y v' e1 e2 e3=>?_⟩,fun y c' e=>?_,I.free,I.freeC,fun p hp=>?_,tracked ⟨oc,hoc,I.freeC x c hc⟩ hs,by simpa using I.len⟩ ⟨c,hs,.inr hc⟩
  ·exact (hs.2 b (aQ (aI (aC e) (I.ok.cab x c hfn hc)))).trans (I.base.keep b o e n hb hx)
  ·obtain⟨sl,e1⟩:=I.base.slot b o e n hb hx
   exact⟨sl,(hs.2 b (aQ (aI (aC e) (I.ok.cab x c hfn hc)))).trans e1⟩
  ·obtain⟨o',e1⟩:=I.base.there b o e hx
   exact⟨o',(hs.2 b (aQ (aI (aC e) (I.ok.cab x c hfn hc)))).trans e1⟩
  ·by_cases hj:j=i
   ·subst hj
    rw [hi] at e1;cases e1
    rw [fj hiσ] at e2
    cases e2
    exact⟨u,r,.inr ⟨.inl hk,c,hc,hc'⟩⟩
   ·rw [fM (cz hj)] at e2
    obtain⟨u',r',q⟩:=hl j y v' e1 e2 e3
    refine⟨u',r',?_⟩
    rcases q with q|⟨k,c',e,z'⟩
    ·exact .inl q
    ·refine .inr ⟨k,c',e,z'.sameBut hs ?_⟩
     rintro rfl
     exact hj (Jl hN e1 (I.ok.inj _ _ _ e hc▸hi))
  ·by_cases hcc:c'=c
   ·subst hcc;exact⟨_,hc'⟩
   ·obtain⟨w2,z2⟩:=I.cell y c' e
    exact⟨w2,z2.sameBut hs hcc⟩
  ·obtain⟨e,n,ne,nf,d⟩:=I.pin p hp
   refine⟨(hs.2 p.1 ?_).trans e,n,ne,nf,d⟩
   intro q
   rw [q,hoc] at e
   have q':oc=p.2:=aN e
   exact d w' (by rw [<- q'];exact hocd)
theorem Gi {M:Model} {A:a_} {E:Value->ah->Prop} {i:Nat} {x:Str} {v:V} {u:Value} {Q:Unit->ah->Prop} (I:Inv X pins σ H s) (hN:X.N.Nodup) (hi:X.N[i]? = some x) (hx:Loc X.env.scope x) (r:RelV v u)
  (h:∀ s',Inv X pins (σ.set i (some v)) H s'->Q () s') (hf:X.fn x=true\/X.env.scope.names.lookup x=some .local:=by first|exact .inl rfl|exact .inr rfl|assumption):aJ M A (storeName X.env x u) Q E s:=
 Xo I hN hi hx r (fun s' I' _=>h s' I') hf
theorem Inv.call' {s':ah} {ch:List Addr} (I:Inv X pins σ H s) (ho:s'.os=s.os/\s.toks<=s'.toks) (u:Un (frs X.stack) ch H H' s.heap s'.heap) (hok:HOk X.prog X.w H' s'.heap) (hg:gN s'.gens)
  (hch:∀ b∈ch,(b∈X.ex\/X.s₀.heap.objs.size<=b)/\b≠X.env.locals/\(∀ x c,X.env.cells.lookup x=some c->c≠b) /\ ∀ p∈X.pn++pins,p.1≠b):Inv X pins σ H' s':=by
 obtain⟨h',g',d',t',o'⟩:=s'
 have e:o'=s.os:=ho.1
 subst e
 exact I.call (g':=g') (t':=t') (d':=d') u hok hg hch ho.2
end
noncomputable abbrev XK:=Value->Option Addr->Hp->Prop
noncomputable abbrev St:=List (Option V)
noncomputable abbrev VK:=V->Hp->Prop
noncomputable abbrev TE:=St->Hp->VK->Prop
noncomputable abbrev TT:=St->Hp->(Bool->Hp->Prop)->Prop
noncomputable abbrev TA:=St->Hp->(List V->Hp->Prop)->Prop
structure La where
 nx:St->Hp->Prop
 rt:VK
 bk:St->Hp->Prop:=fun _ _=>False
 ct:St->Hp->Prop:=fun _ _=>False
noncomputable abbrev TS:=La->St->Hp->Prop
noncomputable def EP (X:Cx) (pins:List (Addr×Obj)) (σ:St) (Q:VK) (u:Value) (s':ah):Prop:=∃ v H',Inv X pins σ H' s'/\RelV v u/\Q v H'
noncomputable def TP (X:Cx) (pins:List (Addr×Obj)) (σ:St) (Q:Bool->Hp->Prop) (b:Bool) (s':ah):Prop:=∃ H',Inv X pins σ H' s'/\Q b H'
noncomputable def AP (X:Cx) (pins:List (Addr×Obj)) (σ:St) (Q:List V->Hp->Prop) (us:List Value) (s':ah):Prop:=∃ vs H',Inv X pins σ H' s'/\Vals vs us/\Q vs H'
noncomputable def SP (X:Cx) (pins:List (Addr×Obj)) (D:La) (f:Flow) (s':ah):Prop:=
 match f with
 | .next=>∃ σ' H',Inv X pins σ' H' s'/\D.nx σ' H'
 | .brk=>∃ σ' H',Inv X pins σ' H' s'/\D.bk σ' H'
 | .cont=>∃ σ' H',Inv X pins σ' H' s'/\D.ct σ' H'
 | .ret u=>∃ v σ' H',Inv X pins σ' H' s'/\RelV v u/\D.rt v H'
noncomputable def PE (X:Cx) (e:Expr) (t:TE):Prop:=
 ∀ (pins:List (Addr×Obj)) (s:ah) (σ:St) (H:Hp) (Q:VK),Inv X pins σ H s->t σ H Q->aJ (model X.prog X.w) X.A (eval e X.env) (EP X pins σ Q) X.xe s
noncomputable def PT (X:Cx) (e:Expr) (t:TT):Prop:=
 ∀ (pins:List (Addr×Obj)) (s:ah) (σ:St) (H:Hp) (Q:Bool->Hp->Prop),Inv X pins σ H s->t σ H Q->aJ (model X.prog X.w) X.A (isTrue e X.env (eval e X.env)) (TP X pins σ Q) X.xe s
noncomputable def PW (X:Cx) (e:Expr) (t:TT):Prop:=
 ∀ (whole:Sem Value) (pins:List (Addr×Obj)) (s:ah) (σ:St) (H:Hp) (Q:Bool->Hp->Prop),Inv X pins σ H s->t σ H Q->aJ (model X.prog X.w) X.A (isTrue e X.env whole) (TP X pins σ Q) X.xe s
theorem PW.pt {X:Cx} {e:Expr} {t:TT} (h:PW X e t):PT X e t:=h _
noncomputable def PA (X:Cx) (es:List Expr) (t:TA):Prop:=
 ∀ (pos:Pos) (pins:List (Addr×Obj)) (s:ah) (σ:St) (H:Hp) (Q:List V->Hp->Prop),Inv X pins σ H s->t σ H Q->aJ (model X.prog X.w) X.A (spliced (iu pos (cD es X.env))) (AP X pins σ Q) X.xe s
noncomputable def PS (X:Cx) (st:Stmt) (t:TS):Prop:=
 ∀ (pins:List (Addr×Obj)) (s:ah) (σ:St) (H:Hp) (D:La),Inv X pins σ H s->t D σ H->aJ (model X.prog X.w) X.A (exec st X.env) (SP X pins D) X.xe s
noncomputable def PSs (X:Cx) (st:List Stmt) (t:TS):Prop:=
 ∀ (pins:List (Addr×Obj)) (s:ah) (σ:St) (H:Hp) (D:La),Inv X pins σ H s->t D σ H->aJ (model X.prog X.w) X.A (execs st X.env) (SP X pins D) X.xe s
theorem thn {α:Type} {t:Sem α} {Q Q':α->ah->Prop} {M:Model} {A:a_} {E:Value->ah->Prop} {s:ah} (h:aJ M A t Q E s) (hQ:∀ a s,Q a s->Q' a s):aJ M A t Q' E s:=bG h hQ fun _ _ x=>x
section
variable {X:Cx}
noncomputable def cu9 (i:Nat):TE:=fun σ H Q=>∃ v,σ[i]? = some (some v)/\Q v H
noncomputable def tC (v:V):TE:=fun _ H Q=>Q v H
theorem bj3 {i:Nat} {x:Str} {pos:Pos} (hN:X.N[i]? = some x) (hv:Vis X.env.scope x) (hd:(x==("__debug__" : Str))=false:=by decide) (hcd:(x==("__classdict__" : Str))=false:=by decide):PE X (.Name x pos) (cu9 i):=by
 intro pins s σ H Q I h
 obtain⟨v,e,h⟩:=h
 obtain⟨m,hn,hl⟩:=I.loc
 obtain⟨u,r,l⟩:=hl i x v hN e hv
 have fin:EP X pins σ Q u s:=⟨v,H,I,r,h⟩
 rcases l with ⟨hk,hm⟩|⟨hk,c,hc,hcell⟩
 ·exact wpAny_Name (wpAny_loadName_local I.ok.kind hk hn hm fin) hd
 ·rcases hk with hk|hk
  ·exact wpAny_Name (wpAny_loadName_cell I.ok.kind hk hc hcell fin) hd
  ·exact wpAny_Name (wpAny_loadName_free I.ok.kind hk hc hcell fin hcd) hd
theorem bi7 {i j pos}:PE X (.Constant (.int i) j pos) (tC (.int i)):=fun _ _ _ H _ I h=>wpAny_Constant_int ⟨.int i,H,I.tok _,⟨_,rfl⟩,h⟩
theorem cb5 {b j pos}:PE X (.Constant (.bool b) j pos) (tC (.bl b)):=fun _ _ _ H _ I h=>Constant_bool ⟨.bl b,H,I,rfl,h⟩
theorem bi9 {j pos}:PE X (.Constant .none j pos) (tC .non):=fun _ _ _ H _ I h=>Constant_none ⟨.non,H,I,rfl,h⟩
theorem bj1 {x j pos}:PE X (.Constant (.str x) j pos) (tC (.str x)):=fun _ _ _ H _ I h=>Calls.Constant_str ⟨.str x,H,I.tok _,⟨_,rfl⟩,h⟩
noncomputable def Gl (X:Cx) (x:Str):Prop:=X.env.kindOf x=some .globalImplicit
theorem Cw {E:Value->ah->Prop} {pins:List (Addr×Obj)} {s:ah} {σ:St} {H:Hp} {x:Str} {u:Value} {pos:Pos} {Q:Value->ah->Prop} (I:Inv X pins σ H s) (hg:Gl X x) (hm:X.mg x=some u) (h:Q u s)
  (hd:(x==("__debug__" : Str))=false:=by decide):aJ (model X.prog X.w) X.A (eval (.Name x pos) X.env) Q E s:=
 gh I.ok.kind hg (Calls.loadGlobal_global (by rw [I.ok.glob];exact I.mod.glob.keeps I.bk) hm h) hd
theorem Gv {E:Value->ah->Prop} {pins:List (Addr×Obj)} {s:ah} {σ:St} {H:Hp} {x:Str} {u:Value} {pos:Pos} {Q:Value->ah->Prop} (I:Inv X pins σ H s) (hg:Gl X x) (hm:X.mg x=none) (hv:cA x=some u) (h:Q u s)
  (hn:x ≠ "__name__" := by decide) (hd:(x==("__debug__" : Str))=false:=by decide):aJ (model X.prog X.w) X.A (eval (.Name x pos) X.env) Q E s:=by
 obtain⟨mb,h1,h2⟩:=I.mod.blt
 exact gh I.ok.kind hg (Calls.loadGlobal_builtin (by rw [I.ok.glob];exact I.mod.glob.keeps I.bk) hm (by rw [I.ok.blt];exact h1.keeps I.bk) ((h2 x hn).trans hv) h) hd
theorem Gf {x:Str} {v:V} {u:Value} {pos:Pos} (hg:Gl X x) (hm:X.mg x=some u) (r:RelV v u) (hd:(x==("__debug__" : Str))=false:=by decide):PE X (.Name x pos) (tC v):=
 fun _ _ _ H _ I h=>Cw I hg hm ⟨v,H,I,r,h⟩ hd
theorem as3 {x:Str} {v:V} {u:Value} {pos:Pos} (hg:Gl X x) (hm:X.mg x=none) (hv:cA x=some u) (r:RelV v u) (hn:x ≠ "__name__" := by decide) (hd:(x==("__debug__" : Str))=false:=by decide):PE X (.Name x pos) (tC v):=
 fun _ _ _ H _ I h=>Gv I hg hm hv ⟨v,H,I,r,h⟩ hn hd
variable {a b:Expr} {ta tb:TE} {pos:Pos}
variable {tA tB':TT} {rest:List Expr}
noncomputable def cu0 (t u:TT):TT:=fun σ H Q=>t σ H fun c H1=>if c=true then u σ H1 Q else Q false H1
noncomputable def tOr (t u:TT):TT:=fun σ H Q=>t σ H fun c H1=>if c=true then Q true H1 else u σ H1 Q
noncomputable def cu5 (t:TT):TT:=fun σ H Q=>t σ H fun c H1=>Q (!c) H1
theorem at3 (ha:PT X a tA):PW X (.BoolOp .And [a] pos) tA:=by
 intro wh pins s σ H Q I h
 refine isTrue_and (thn (ha pins s σ H Q I h) fun c s1 e=>?_)
 cases c with
 | true=>exact isTrue_and_nil e
 | false=>exact e
theorem bk1 (ha:PT X a tA):PW X (.BoolOp .Or [a] pos) tA:=by
 intro wh pins s σ H Q I h
 refine isTrue_or (thn (ha pins s σ H Q I h) fun c s1 e=>?_)
 cases c with
 | false=>exact isTrue_or_nil e
 | true=>exact e
theorem bk0 (ha:PT X a tA) (hb:PW X (.BoolOp .And (b::rest) pos) tB'):PW X (.BoolOp .And (a::b::rest) pos) (cu0 tA tB'):=by
 intro wh pins s σ H Q I h
 refine isTrue_and (thn (ha pins s σ H _ I h) fun c s1 ⟨H1,I1,q1⟩=>?_)
 cases c with
 | true=>exact hb wh pins s1 σ H1 Q I1 q1
 | false=>exact⟨H1,I1,q1⟩
theorem cc2 (ha:PT X a tA) (hb:PW X (.BoolOp .Or (b::rest) pos) tB'):PW X (.BoolOp .Or (a::b::rest) pos) (tOr tA tB'):=by
 intro wh pins s σ H Q I h
 refine isTrue_or (thn (ha pins s σ H _ I h) fun c s1 ⟨H1,I1,q1⟩=>?_)
 cases c with
 | true=>exact⟨H1,I1,q1⟩
 | false=>exact hb wh pins s1 σ H1 Q I1 q1
theorem bj9 (ha:PT X a tA):PT X (.UnaryOp .Not a pos) (cu5 tA):=by
 intro pins s σ H Q I h
 exact isTrue_not (ha pins s σ H (fun c H1=>Q (!c) H1) I h)
theorem bj0 {op} {t:TE} (h:PE X a t):PE X (.BoolOp op [a] pos) t:=fun pins s σ H Q I hw=>BoolOp_one (h pins s σ H Q I hw)
noncomputable def tIf (t:TT) (ta tb:TE):TE:=fun σ H Q=>t σ H fun c H1=>if c=true then ta σ H1 Q else tb σ H1 Q
theorem ag6 {c:Expr} (hc:PT X c tA) (ha:PE X a ta) (hb:PE X b tb):PE X (.IfExp c a b pos) (tIf tA ta tb):=by
 intro pins s σ H Q I h
 refine wpAny_IfExp (thn (hc pins s σ H _ I h) fun d s1 ⟨H1,I1,q1⟩=>?_)
 cases d with
 | true=>exact ha pins s1 σ H1 Q I1 q1
 | false=>exact hb pins s1 σ H1 Q I1 q1
end
noncomputable def SqL (K:aa) (H:Hp) (a:Addr) (xs:List V):Prop:=
 Rd H a (.lst xs) \/
  ∃ (o:Obj) (its:Array Value) (n:Nat),K.lookup a=some o/\o.cls=.type "list" /\ o.dict=none/\o.data=.seq its n/\its.size<=sizeLine/\xs.all V.pl=true/\Vals xs its.toList
noncomputable def SqT (K:aa) (H:Hp) (a:Addr) (xs:List V):Prop:=
 Rd H a (.tup xs) \/
  ∃ (o:Obj) (its:Array Value) (n:Nat),K.lookup a=some o/\o.cls=.type "tuple" /\ o.data=.seq its n/\its.size<=sizeLine/\xs.all V.pl=true/\Vals xs its.toList
noncomputable def a90:Value->Option V
 | .none=>some .non
 | .bool b=>some (.bl b)
 | .int i _=>some (.int i)
 | .str x _=>some (.str x)
 | .bytes b _=>some (.byt b)
 | .ref a=>some (.ref a)
 | .type n=>some (.ty n)
 | _=>none
theorem RelV.abs {x:V} {u:Value} (r:RelV x u) (p:x.pl=true):a90 u=some x:=by
 cases x with
 | non=>cases r;rfl
 | bl _=>cases r;rfl
 | int _=>obtain⟨t,rfl⟩:=r;rfl
 | str _=>obtain⟨t,rfl⟩:=r;rfl
 | byt _=>obtain⟨t,rfl⟩:=r;rfl
 | stk _ _ _=>cases p
 | ref _=>cases r;rfl
 | ty _=>cases r;rfl
theorem RelV.inj {x y:V} {u:Value} (r:RelV x u) (q:RelV y u) (p:x.pl=true) (p':y.pl=true):x=y:=aN ((r.abs p).symm.trans (q.abs p'))
theorem Vals.inj:∀ {xs ys:List V} {us:List Value},Vals xs us->Vals ys us->xs.all V.pl=true->ys.all V.pl=true->xs=ys
 | _,_,_,.nil,.nil,_,_=>rfl
 | _,_,_,.cons r t,.cons r' t',p,q=>by
  simp only [bu,aw] at p q
  rw [r.inj r' p.1 q.1,Vals.inj t t' p.2 q.2]
section
variable {X:Cx} {pins:List (Addr×Obj)} {σ:St} {H:Hp} {s:ah} {a:Addr} {xs ys:List V}
theorem SqL.of {K:aa} (h:H a=some (.lst xs)):SqL K H a xs:=.inl (.inl h)
theorem SqT.of {K:aa} (h:H a=some (.tup xs)):SqT K H a xs:=.inl (.inl h)
theorem Inv.list (I:Inv X pins σ H s) (h:SqL X.K H a xs):∃ its:List Value,Vals xs its/\PlainL s.heap a its.toArray/\xs.length<=sizeLine:=by
 rcases h with h|⟨o,its,n,hk,hc,hd,hs,hz,_,r⟩
 ·obtain⟨z,its,n,r,e⟩:=h.ok I.hok
  exact⟨its,r,⟨_,n,e,rfl,rfl,rfl⟩,z⟩
 ·refine⟨its.toList,r,⟨o,n,I.kIn a o hk,hc,hd,by simpa using hs⟩,?_⟩
  have e:=r.length
  simp only [bU] at e
  omega
theorem Inv.tuple (I:Inv X pins σ H s) (h:SqT X.K H a xs):∃ its:List Value,Vals xs its/\IsTup s.heap a its.toArray/\xs.length<=sizeLine:=by
 rcases h with h|⟨o,its,n,hk,hc,hs,hz,_,r⟩
 ·obtain⟨z,its,r,p⟩:=h.ok I.hok
  exact⟨its,r,p,z⟩
 ·refine⟨its.toList,r,⟨o,I.kIn a o hk,hc,n,by simpa using hs⟩,?_⟩
  have e:=r.length
  simp only [bU] at e
  omega
theorem Inv.notK (I:Inv X pins σ H s) {o:HO} {ob:Obj} (h:Rd H a o) (e:X.K.lookup a=some ob):False:=by
 have n:=(I.bs a ob (I.mod.kin a ob e)).2
 rcases h with h|⟨u,h⟩
 ·rw [n] at h;cases h
 ·rw [n] at h;cases h
theorem Inv.list_inj (I:Inv X pins σ H s) (h:SqL X.K H a xs) (h':SqL X.K H a ys):xs=ys:=by
 rcases h with h|⟨o,its,n,hk,hc,hd,hs,hz,p,r⟩
 ·rcases h' with h'|⟨o',its',n',hk',hc',hd',hs',hz',p',r'⟩
  ·rcases h with h|⟨u,h⟩ <;> rcases h' with h'|⟨u',h'⟩ <;> (rw [h] at h';first|(cases h';rfl)|cases h')
  ·exact (I.notK h hk').elim
 ·rcases h' with h'|⟨o',its',n',hk',hc',hd',hs',hz',p',r'⟩
  ·exact (I.notK h' hk).elim
  ·rw [hk] at hk';cases hk'
   rw [hs] at hs';cases hs'
   exact r.inj r' p p'
theorem Inv.tuple_inj (I:Inv X pins σ H s) (h:SqT X.K H a xs) (h':SqT X.K H a ys):xs=ys:=by
 rcases h with h|⟨o,its,n,hk,hc,hs,hz,p,r⟩
 ·rcases h' with h'|⟨o',its',n',hk',hc',hs',hz',p',r'⟩
  ·rcases h with h|⟨u,h⟩ <;> rcases h' with h'|⟨u',h'⟩ <;> (rw [h] at h';first|(cases h';rfl)|cases h')
  ·exact (I.notK h hk').elim
 ·rcases h' with h'|⟨o',its',n',hk',hc',hs',hz',p',r'⟩
  ·exact (I.notK h' hk).elim
  ·rw [hk] at hk';cases hk'
   rw [hs] at hs';cases hs'
   exact r.inj r' p p'
end
noncomputable abbrev Cx.wish (X:Cx) (E:Value->ah->Prop):Cx:={ X with xe:=E }
noncomputable abbrev Cx.nox (X:Cx):Cx:=X.wish fun _ _=>False
theorem Cx.Ok.wish {X:Cx} (ok:X.Ok) (E:Value->ah->Prop):(X.wish E).Ok:=
 ⟨ok.mod,ok.kind,ok.glob,ok.blt,ok.above,ok.inj,ok.has,ok.cab,ok.hd,ok.frames,ok.stk,ok.exf,ok.bs,ok.bsz,ok.noex,ok.exfs,ok.funs,ok.frf,ok.tk⟩
theorem Cx.Ok.unwish {X:Cx} {E:Value->ah->Prop} (ok:(X.wish E).Ok):X.Ok:=
 ⟨ok.mod,ok.kind,ok.glob,ok.blt,ok.above,ok.inj,ok.has,ok.cab,ok.hd,ok.frames,ok.stk,ok.exf,ok.bs,ok.bsz,ok.noex,ok.exfs,ok.funs,ok.frf,ok.tk⟩
section
variable {X:Cx} {pins:List (Addr×Obj)} {σ:St} {H:Hp} {s:ah} {E:Value->ah->Prop}
theorem Inv.wish (I:Inv X pins σ H s) (E:Value->ah->Prop):Inv (X.wish E) pins σ H s:=⟨I.ok.wish E,I.os,I.bare,I.base,I.loc,I.cell,I.free,I.freeC,I.pin,I.hok,I.len⟩
theorem Inv.unwish (I:Inv (X.wish E) pins σ H s):Inv X pins σ H s:=⟨I.ok.unwish,I.os,I.bare,I.base,I.loc,I.cell,I.free,I.freeC,I.pin,I.hok,I.len⟩
theorem SP.unwish {D:La} {f:Flow} {s':ah} (h:SP (X.wish E) pins D f s'):SP X pins D f s':=by
 cases f with
 | next=>obtain⟨σ',H',I,q⟩:=h;exact⟨σ',H',I.unwish,q⟩
 | brk=>obtain⟨σ',H',I,q⟩:=h;exact⟨σ',H',I.unwish,q⟩
 | cont=>obtain⟨σ',H',I,q⟩:=h;exact⟨σ',H',I.unwish,q⟩
 | ret u=>obtain⟨v,σ',H',I,r,q⟩:=h;exact⟨v,σ',H',I.unwish,r,q⟩
theorem PSs.nox {st:List Stmt} {t:TS} (h:PSs X.nox st t):PSs X st t:=fun pins s σ H D I hw=>
 bG (h pins s σ H D (I.wish _) hw) (fun _ _ q=>q.unwish) fun _ _ z=>bY z
end
section
variable {X:Cx} {st:Stmt} {rest:List Stmt} {t u:TS} {e:Expr} {te:TE} {pos:Pos}
noncomputable def a50:TS:=fun D σ H=>D.nx σ H
noncomputable def cu7 (t u:TS):TS:=fun D σ H=>t { D with nx:=u D } σ H
theorem at1:PSs X [] a50:=fun _ _ σ H _ I h=>f_ ⟨σ,H,I,h⟩
theorem ah7 (h1:PS X st t) (h2:PSs X rest u):PSs X (st::rest) (cu7 t u):=by
 intro pins s σ H D I h
 refine wpAny_execs_cons (thn (h1 pins s σ H { D with nx:=u D } I h) fun f s1 q=>?_)
 cases f with
 | next=>
  obtain⟨σ',H',I',q⟩:=q
  exact h2 pins s1 σ' H' D I' q
 | ret v=>exact q
 | brk=>exact q
 | cont=>exact q
noncomputable def by6:TS:=fun D σ H=>D.bk σ H
noncomputable def cj1:TS:=fun D σ H=>D.ct σ H
theorem as9:PS X (.Pass pos) a50:=fun _ _ σ H _ I h=>wpAny_Pass ⟨σ,H,I,h⟩
theorem ah4:PS X (.Break pos) by6:=fun _ _ σ H _ I h=>wpAny_Break ⟨σ,H,I,h⟩
theorem Qx:PS X (.Continue pos) cj1:=fun _ _ σ H _ I h=>wpAny_Continue ⟨σ,H,I,h⟩
theorem Inv.quiet {pins:List (Addr×Obj)} {σ:St} {H:Hp} {s:ah} (I:Inv X pins σ H s):interactive X.env=false:=by simp [interactive,I.ok.kind]
noncomputable def cj2 (te:TE):TS:=fun D σ H=>te σ H fun _ H1=>D.nx σ H1
theorem as8 (he:PE X e te) (hs:gM e none pos.line X.env=pure false:=by rfl):PS X (.Expr e pos) (cj2 te):=by
 intro pins s σ H D I h
 exact wpAny_Expr_any (thn (he pins s σ H _ I h) fun v s1 ⟨x,H1,I1,r1,q1⟩=>⟨σ,H1,I1,q1⟩) I.quiet hs
noncomputable def cu6 (te:TE):TS:=fun D σ H=>te σ H D.rt
theorem bj7 (he:PE X e te):PS X (.Return (some e) pos) (cu6 te):=by
 intro pins s σ H D I h
 exact wpAny_Return_some (thn (he pins s σ H _ I h) fun v s1 ⟨x,H1,I1,r1,q1⟩=>⟨x,σ,H1,I1,r1,q1⟩)
noncomputable def cj3:TS:=fun D _ H=>D.rt .non H
theorem at0:PS X (.Return none pos) cj3:=fun _ _ σ H _ I h=>wpAny_Return_none ⟨.non,σ,H,I,rfl,h⟩
noncomputable def cu2 (c:TT) (t u:TS):TS:=fun D σ H=>c σ H fun b H1=>if b=true then t D σ H1 else u D σ H1
theorem cc1 {c:Expr} {a b:List Stmt} {tc:TT} (hc:PT X c tc) (ha:PSs X a t) (hb:PSs X b u):PS X (.If c a b pos) (cu2 tc t u):=by
 intro pins s σ H D I h
 refine wpAny_If (thn (hc pins s σ H _ I h) fun d s1 ⟨H1,I1,q1⟩=>?_)
 cases d with
 | true=>exact ha pins s1 σ H1 D I1 q1
 | false=>exact hb pins s1 σ H1 D I1 q1
end
noncomputable abbrev TG:=V->St->Hp->(St->Hp->Prop)->Prop
noncomputable abbrev TGs:=List V->St->Hp->(St->Hp->Prop)->Prop
noncomputable def PG (X:Cx) (target:Expr) (t:TG):Prop:=
 ∀ (pins:List (Addr×Obj)) (s:ah) (σ:St) (H:Hp) (v:V) (u:Value) (Q:St->Hp->Prop),Inv X pins σ H s->RelV v u->t v σ H Q ->
  aJ (model X.prog X.w) X.A (jC target X.env u) (fun _ s'=>∃ σ' H',Inv X pins σ' H' s'/\Q σ' H') X.xe s
noncomputable def PGs (X:Cx) (ts:List Expr) (t:TGs):Prop:=
 ∀ (pins:List (Addr×Obj)) (s:ah) (σ:St) (H:Hp) (vs:List V) (us:List Value) (Q:St->Hp->Prop),Inv X pins σ H s->Vals vs us->t vs σ H Q ->
  aJ (model X.prog X.w) X.A (assignInOrder ((cL ts X.env).map (·.2)) us) (fun _ s'=>∃ σ' H',Inv X pins σ' H' s'/\Q σ' H') X.xe s
noncomputable abbrev a89:=V->V->V->Hp->(Hp->Prop)->Prop
noncomputable def a88 (X:Cx) (t:a89):Prop:=
 ∀ (pins:List (Addr×Obj)) (s:ah) (σ:St) (H:Hp) (o i v:V) (ov iv u:Value) (Q:Hp->Prop),Inv X pins σ H s->RelV o ov->RelV i iv->RelV v u->t o i v H Q ->
  aJ (model X.prog X.w) X.A (setItem ov iv u) (fun _ s'=>∃ H',Inv X pins σ H' s'/\Q H') X.xe s
section
variable {X:Cx} {pos:Pos}
noncomputable def ad0 (i:Nat):TG:=fun v σ H Q=>Q (σ.set i (some v)) H
theorem as5 {i:Nat} {x:Str} (hN:X.N.Nodup) (hi:X.N[i]? = some x) (hx:Loc X.env.scope x) (hf:X.fn x=true\/X.env.scope.names.lookup x=some .local:=by first|exact .inl rfl|exact .inr rfl|assumption):PG X (.Name x pos) (ad0 i):=by
 intro pins s σ H v u Q I r h
 exact wpAny_assign_Name (Gi I hN hi hx r (fun s' I'=>⟨_,H,I',h⟩) hf)
noncomputable def cs1:TGs:=fun vs σ H Q=>vs=[]/\Q σ H
noncomputable def b66 (t:TG) (u:TGs):TGs:=fun vs σ H Q=>∃ v r,vs=v::r/\t v σ H fun σ' H'=>u r σ' H' Q
theorem as6:PGs X [] cs1:=by
 intro pins s σ H vs us Q I r h
 obtain⟨e,h⟩:=h
 subst e
 cases r
 exact assignInOrder_nil ⟨σ,H,I,h⟩
theorem ag7 {e:Expr} {es:List Expr} {t:TG} {u:TGs} (h1:PG X e t) (h2:PGs X es u)
  (hs:(cL (e::es) X.env).map (·.2)=jC e X.env::(cL es X.env).map (·.2):=by rfl):PGs X (e::es) (b66 t u):=by
 intro pins s σ H vs us Q I r h
 obtain⟨v,vr,e1,h⟩:=h
 subst e1
 cases r with
 | cons r rr=>
  rw [hs]
  refine assignInOrder_cons (thn (h1 pins s σ H _ _ _ I r h) fun _ s1 ⟨σ1,H1,I1,q1⟩=>?_)
  exact h2 pins s1 σ1 H1 _ _ Q I1 rr q1
noncomputable def cs3 (K:aa) (n:Nat) (t:TGs):TG:=fun v σ H Q=>∃ a xs,v=.ref a/\SqT K H a xs/\xs.length=n/\t xs σ H Q
theorem bj5 {es:List Expr} {k:Nat} {t:TGs} {n:Nat} (hc:X.calm=true) (h:PGs X es t)
  (hn:(cL es X.env).length=n:=by rfl) (hst:(cL es X.env).findIdx? (·.1)=none:=by rfl):PG X (.Tuple es k pos) (cs3 X.K n t):=by
 intro pins s σ H v u Q I r hw
 obtain⟨a,xs,e1,hq,hl,hw⟩:=hw
 subst e1
 cases r
 obtain⟨its,rv,ht,hz⟩:=I.tuple hq
 refine assign_Tuple_tuple (I.ok.hd hc) ht (by simp [hn,<- hl,rv.length]) hst fun h' hx=>?_
 have I1:Inv X pins σ H { s with heap:=h' }:=I.kept (t':=s.toks) fun b o e=>hx b o (aQ (aC e)) e
 exact h pins _ σ H xs _ Q I1 (by simpa using rv) hw
noncomputable def cs2 (to ti:TE) (t:a89):TG:=fun v σ H Q=>to σ H fun o H1=>ti σ H1 fun i H2=>t o i v H2 fun H3=>Q σ H3
theorem bj4 {o i:Expr} {to ti:TE} {t:a89} (ho:PE X o to) (hi:PE X i ti) (hs:a88 X t)
  (ha:∀ v,jC (.Subscript o i pos) X.env v=(do
   let ov <- holding [v] (eval o X.env)
   let iv <- holding [v,ov] (eval i X.env)
   i_ pos
   holding [v,ov,iv] (setItem ov iv v)
   release [v,ov,iv] []):=by intro _;rfl):PG X (.Subscript o i pos) (cs2 to ti t):=by
 intro pins s σ H v u Q I r h
 rw [ha]
 refine af (bq (thn (ho pins s σ H _ I h) fun ov s1 ⟨x,H1,I1,r1,q1⟩=>?_))
 refine af (bq (thn (hi pins s1 σ H1 _ I1 q1) fun iv s2 ⟨y,H2,I2,r2,q2⟩=>?_))
 refine af (c4 (af (bq (thn (hs pins s2 σ H2 x y v ov iv u _ I2 r1 r2 r q2) fun _ s3 ⟨H3,I3,q3⟩=>?_))))
 exact wpAny_release ⟨σ,H3,I3,q3⟩
noncomputable def by5 (te:TE) (g:TG):TS:=fun D σ H=>te σ H fun x H1=>g x σ H1 D.nx
theorem ah3 {tg e:Expr} {te:TE} {g:TG} (he:PE X e te) (hg:PG X tg g) (hs:jn [tg] e pos.line X.env=pure false:=by rfl) (hw:swappedStores [tg] e X.env=pure none:=by rfl)
  (h1:(cL [tg] X.env).map (·.2)=[jC tg X.env]:=by rfl):PS X (.Assign [tg] e pos) (by5 te g):=by
 intro pins s σ H D I h
 refine wpAny_Assign_stores (thn (he pins s σ H _ I h) fun v s1 ⟨x,H1,I1,r1,q1⟩=>?_) hs hw
 rw [h1]
 exact thn (hg pins s1 σ H1 x v _ I1 r1 q1) fun _ s2 q=>q
theorem bj8 {i:Nat} {x:Str} {e:Expr} {te:TE} {pos':Pos} (hN:X.N.Nodup) (hi:X.N[i]? = some x) (hx:Loc X.env.scope x) (he:PE X e te) (hs:gM e (some (.Name x pos')) pos.line X.env=pure false:=by rfl) (hf:X.fn x=true\/X.env.scope.names.lookup x=some .local:=by first|exact .inl rfl|exact .inr rfl|assumption) :
  PS X (.Assign [.Name x pos'] e pos) (by5 te (ad0 i)):=by
 intro pins s σ H D I h
 refine wpAny_Assign_Name (thn (he pins s σ H _ I h) fun v s1 ⟨y,H1,I1,r1,q1⟩=>?_) hs
 exact Gi I1 hN hi hx r1 (fun s2 I2=>⟨_,H1,I2,q1⟩) hf
noncomputable def by7 (c:TT) (tb:TS):TS:=fun D σ H=>∃ W:Nat->St->Hp->Prop,(∃ m,W m σ H) /\ ∀ m σ H,W m σ H ->
 c σ H fun b H1=>if b=true then ∃ N:St->Hp->Prop,(∀ σ' H',N σ' H' -> ∃ m',m'<m/\W m' σ' H')/\tb { D with nx:=N,ct:=N,bk:=D.nx } σ H1 else D.nx σ H1
theorem ah6 {c:Expr} {body:List Stmt} {tc:TT} {tb:TS} (hp:fF (model X.prog X.w) X.A X.env X.xe) (hc:PT X c tc) (hb:PSs X body tb):PS X (.While c body [] pos) (by7 tc tb):=by
 intro pins s σ H D I h
 obtain⟨W,⟨m0,w0⟩,turn⟩:=h
 refine wpAny_While (codeAny_whileLoop (fun n s'=>∃ σ' H',Inv X pins σ' H' s'/\W n σ' H') ?_ m0 ⟨σ,H,I,w0⟩)
 rintro n s1 ⟨σ1,H1,I1,w1⟩
 refine du hp (thn (hc pins s1 σ1 H1 _ I1 (turn n σ1 H1 w1)) fun b s2 ⟨H2,I2,q2⟩=>?_)
 cases b with
 | true=>
  obtain⟨N,hN,q2⟩:=q2
  rw [if_pos rfl]
  refine du hp (thn (hb pins s2 σ1 H2 _ I2 q2) fun f s3 q3=>?_)
  cases f with
  | next=>
   obtain⟨σ3,H3,I3,n3⟩:=q3
   obtain⟨m',hm,w3⟩:=hN σ3 H3 n3
   exact⟨m',hm,σ3,H3,I3,w3⟩
  | cont=>
   obtain⟨σ3,H3,I3,n3⟩:=q3
   obtain⟨m',hm,w3⟩:=hN σ3 H3 n3
   exact⟨m',hm,σ3,H3,I3,w3⟩
  | brk=>exact q3
  | ret v=>exact q3
 | false=>
  rw [if_neg ak]
  exact f_ ⟨σ1,H2,I2,q2⟩
end
structure It where
 go:Nat->Hp->Prop
 yld:Nat->Hp->V->Hp->Prop
 stop:Nat->Hp->Prop
noncomputable def Ct (X:Cx) (pins:List (Addr×Obj)) (H:Hp) (b:Addr):Prop:=
 H b=none/\b≠X.env.locals/\b∉X.fs/\(b∈X.ex\/X.s₀.heap.objs.size<=b)/\(∀ x c,X.env.cells.lookup x=some c->c≠b) /\ ∀ p∈X.pn++pins,p.1≠b
theorem Inv.fpOk {X:Cx} {pins:List (Addr×Obj)} {σ:St} {H H':Hp} {s:ah} {b:Addr} (I:Inv X pins σ H s) (hb:s.heap.objs.size<=b) (hn:H' b=none):Ct X pins H' b:=by
 refine⟨hn,fE (aI I.lt hb),I.nofs hb,.inr (aR I.sz hb),fun x c e z=>?_,fun p hp z=>?_⟩
 ·obtain⟨v,q⟩:=I.cell x c e
  exact absurd (aI q.lt (by rw [z];exact hb)) (eY _)
 ·exact absurd (aI (aC (I.pin p hp).1) (by rw [z];exact hb)) (eY _)
structure P3 (P:aH) (w:bh) (K:aa) (tg:Expr) (J:It) (fp:List Addr) (it:Addr) (tn:Nat->Heap->Prop):Prop where
 mem:it∈fp
 obj:∀ i h,tn i h -> ∀ b∈fp,∃ o,h.get? b=some o /\ ∀ v,o.data≠.cell v
 keep:∀ i h h',tn i h->(∀ b∈fp,∀ o,h.get? b=some o->h'.get? b=some o)->tn i h'
 item:∀ (X:Cx),X.prog=P->X.w=w->X.K=K->X.calm=true -> ∀ (i:Nat) (pins:List (Addr×Obj)) (s:ah) (σ:St) (H:Hp) (E:Value->ah->Prop),Inv X pins σ H s->(∀ b∈fp,Ct X pins H b)->tn i s.heap->J.go i H ->
  aJ (model P w) X.A (pyNext (.ref it)) (fun r s1=>∃ u,r=some u /\
   aJ (model P w) X.A (fZ tg (.ref it) u) (fun _ s2=>∃ x H',Inv X pins σ H' s2/\RelV x u/\J.yld i H x H'/\tn (i+1) s2.heap /\ ∀ b∈fp,H' b=none) E s1) E s
 done:∀ (X:Cx),X.prog=P->X.w=w->X.K=K->X.calm=true -> ∀ (i:Nat) (pins:List (Addr×Obj)) (s:ah) (σ:St) (H:Hp) (E:Value->ah->Prop),Inv X pins σ H s->(∀ b∈fp,Ct X pins H b)->tn i s.heap->J.stop i H ->
  aJ (model P w) X.A (pyNext (.ref it)) (fun r s1=>r=none/\Inv X pins σ H s1) E s
 self:∀ (A:a_) (i:Nat) (s:ah) (Q:Value->ah->Prop) (E:Value->ah->Prop),tn i s.heap->Q (.ref it) s->aJ (model P w) A (pyIter (.ref it)) Q E s
noncomputable abbrev TI:=St->Hp->(It->Hp->Prop)->Prop
noncomputable def PIE (X:Cx) (pins:List (Addr×Obj)) (σ:St) (tg:Expr) (R:It->Hp->Prop) (itv:Value) (s2:ah):Prop:=
 ∃ (it:Addr) (fp:List Addr) (tn:Nat->Heap->Prop) (J:It) (H':Hp),itv=.ref it/\Inv X pins σ H' s2/\P3 X.prog X.w X.K tg J fp it tn/\tn 0 s2.heap/\(∀ b∈fp,Ct X pins H' b)/\R J H'
noncomputable def PI (X:Cx) (tg iter:Expr) (wi:TI):Prop:=
 ∀ (pins:List (Addr×Obj)) (s:ah) (σ:St) (H:Hp) (R:It->Hp->Prop),Inv X pins σ H s->wi σ H R ->
  aJ (model X.prog X.w) X.A (eval iter X.env) (fun v s1=>aJ (model X.prog X.w) X.A (pyIter v) (PIE X pins σ tg R) X.xe s1) X.xe s
theorem Ir {M:Model} {A:a_} {E:Value->ah->Prop} {s:ah} {tg:Expr} {it:Addr} {u:Value} {o:Obj} {n:String} {vs:Array Value} {Q:Unit->ah->Prop} (ho:s.heap.get? it=some o) (hc:o.cls=.type n) (hd:o.data=.fields vs)
    (hn:["enumerate", "zip", "dict_itemiterator", "dict_reverseitemiterator", "odict_iterator", "itertools.zip_longest", "itertools.pairwise"].contains n=false) (hQ:Q () s):aJ M A (fZ tg (.ref it) u) Q E s:=by
  unfold fZ
  cases tg <;> first
    | exact ar hQ
    | (cases u <;> first
        | exact ar hQ
        | (refine af (wpAny_load ho ?_)
           rw [hc,hd]
           show aJ M A (if (["enumerate", "zip", "dict_itemiterator", "dict_reverseitemiterator", "odict_iterator", "itertools.zip_longest", "itertools.pairwise"].contains n&&vs[0]? == some (jS _))=true then _ else _) Q E s
           rw [if_neg (by intro h;rw [hn,fz] at h;cases h)]
           exact ar hQ))
noncomputable def Itl (K:aa) (a:Addr):It:=
 ⟨fun i H=>∃ xs x,SqL K H a xs/\xs[i]? = some x,fun i H x H'=>H'=H /\ ∀ xs,SqL K H a xs->xs[i]? = some x,fun i H=>∃ xs,SqL K H a xs/\xs.length<=i⟩
noncomputable def Itt (K:aa) (a:Addr):It:=
 ⟨fun i H=>∃ xs x,SqT K H a xs/\xs[i]? = some x,fun i H x H'=>H'=H /\ ∀ xs,SqT K H a xs->xs[i]? = some x,fun i H=>∃ xs,SqT K H a xs/\xs.length<=i⟩
noncomputable def Itr (lo:Int) (n:Nat):It:=⟨fun i _=>i<n,fun i H x H'=>H'=H/\x=.int (lo+i),fun i _=>n<=i⟩
theorem Xr {P:aH} {w:bh} {K:aa} {tg:Expr} (a it:Addr):P3 P w K tg (Itl K a) [it] it (fun i h=>h.IsListIter it a i) where
 mem:=by simp
 obj:=fun i h st b hb=>by
  have e:b=it:=by simpa using hb
  subst e
  obtain⟨o,e,c,d⟩:=st
  exact⟨o,e,fun v z=>by rw [d] at z;cases z⟩
 keep:=fun i h h' st k=>st.at fun o e=>k it (by simp) o e
 item:=by
  intro X hP hw hK hc i pins s σ H E I hf st hg
  subst hP hw hK
  obtain⟨xs,x,hq,hx⟩:=hg
  obtain⟨its,rv,p,hz⟩:=I.list hq
  obtain⟨u,hu,ru⟩:=rv.get hx
  obtain⟨f0,f1,f2,f3,f4,f5⟩:=hf it (by simp)
  refine wpAny_pyNext_list_item st p.isList (x:=u) (by simpa using hu) fun h' st' sb=>?_
  have I1:Inv X pins σ H { s with heap:=h' }:=I.turned (t':=s.toks) (fun b o hb e=>(sb.2 b hb).trans e) f0 f1 f3 f4 f5
  obtain⟨o,e,c,d⟩:=id st'
  exact⟨u,rfl,Ir (s:={ s with heap:=h' }) e c d (by decide) ⟨x,H,I1,ru,⟨rfl,fun ys hy=>by rw [I.list_inj hy hq];exact hx⟩,st',fun b hb=>(hf b hb).1⟩⟩
 done:=by
  intro X hP hw hK hc i pins s σ H E I hf st hg
  subst hP hw hK
  obtain⟨xs,hq,hx⟩:=hg
  obtain⟨its,rv,p,hz⟩:=I.list hq
  obtain⟨f0,f1,f2,f3,f4,f5⟩:=hf it (by simp)
  have hl:=rv.length
  exact wpAny_pyNext_list_end (I.ok.hd hc) st p.isList (by simp;omega) fun h' eb=>⟨rfl,I.turned (t':=s.toks) (fun b o hb e=>eb b o hb e) f0 f1 f3 f4 f5⟩
 self:=fun _ _ _ _ _ st h=>wpAny_pyIter_listiter st h
theorem Uk {P:aH} {w:bh} {K:aa} {tg:Expr} (a it:Addr):P3 P w K tg (Itt K a) [it] it (fun i h=>h.IsTupleIter it a i) where
 mem:=by simp
 obj:=fun i h st b hb=>by
  have e:b=it:=by simpa using hb
  subst e
  obtain⟨o,e,c,d⟩:=st
  exact⟨o,e,fun v z=>by rw [d] at z;cases z⟩
 keep:=fun i h h' st k=>st.at fun o e=>k it (by simp) o e
 item:=by
  intro X hP hw hK hc i pins s σ H E I hf st hg
  subst hP hw hK
  obtain⟨xs,x,hq,hx⟩:=hg
  obtain⟨its,rv,p,hz⟩:=I.tuple hq
  obtain⟨u,hu,ru⟩:=rv.get hx
  obtain⟨f0,f1,f2,f3,f4,f5⟩:=hf it (by simp)
  refine wpAny_pyNext_tuple_item st (show s.heap.IsTuple a its.toArray from p) (x:=u) (by simpa using hu) fun h' st' sb=>?_
  have I1:Inv X pins σ H { s with heap:=h' }:=I.turned (t':=s.toks) (fun b o hb e=>(sb.2 b hb).trans e) f0 f1 f3 f4 f5
  obtain⟨o,e,c,d⟩:=id st'
  exact⟨u,rfl,Ir (s:={ s with heap:=h' }) e c d (by decide) ⟨x,H,I1,ru,⟨rfl,fun ys hy=>by rw [I.tuple_inj hy hq];exact hx⟩,st',fun b hb=>(hf b hb).1⟩⟩
 done:=by
  intro X hP hw hK hc i pins s σ H E I hf st hg
  subst hP hw hK
  obtain⟨xs,hq,hx⟩:=hg
  obtain⟨its,rv,p,hz⟩:=I.tuple hq
  obtain⟨f0,f1,f2,f3,f4,f5⟩:=hf it (by simp)
  have hl:=rv.length
  exact wpAny_pyNext_tuple_end (I.ok.hd hc) st (show s.heap.IsTuple a its.toArray from p) (by simp;omega) fun h' eb=>⟨rfl,I.turned (t':=s.toks) (fun b o hb e=>eb b o hb e) f0 f1 f3 f4 f5⟩
 self:=fun _ _ _ _ _ st h=>wpAny_pyIter_tupleiter st h
theorem Uj {P:aH} {w:bh} {K:aa} {tg:Expr} (it:Addr) (lo:Int) (n:Nat):P3 P w K tg (Itr lo n) [it] it (fun i h=>iS h it (lo+(i:Nat) * 1) ((n:Int) - (i:Nat)) 1) where
 mem:=by simp
 obj:=fun i h st b hb=>by
  have e:b=it:=by simpa using hb
  subst e
  exact⟨_,st,fun v z=>by
   have z':Data.fields _=Data.cell v:=z
   cases z'⟩
 keep:=fun i h h' st k=>k it (by simp) _ st
 item:=by
  intro X hP hw hK hc i pins s σ H E I hf st hg
  subst hP hw hK
  obtain⟨f0,f1,f2,f3,f4,f5⟩:=hf it (by simp)
  have W:=Walks.range (prog:=X.prog) (w:=X.w) (I.ok.hd hc) it lo 1 n
  refine bt (ac _) (W.item i s _ _ hg st fun v h' tk hv st' kk htk=>?_)
  obtain⟨t,rfl⟩:=hv
  have I1:Inv X pins σ H { s with heap:=h',toks:=tk }:=I.turned (fun b o hb e=>kk b o (by simpa using hb) e) f0 f1 f3 f4 f5
  refine⟨_,rfl,Ir (s:={ s with heap:=h',toks:=tk }) (n := "range_iterator") st' rfl rfl (by decide) ⟨.int (lo+i),H,I1,⟨t,?_⟩,⟨rfl,rfl⟩,st',fun b hb=>(hf b hb).1⟩⟩
  rw [Int.mul_one]
 done:=by
  intro X hP hw hK hc i pins s σ H E I hf st hg
  subst hP hw hK
  obtain⟨f0,f1,f2,f3,f4,f5⟩:=hf it (by simp)
  exact ic (I.ok.hd hc) st (by have:n<=i:=hg;omega) fun h' eb=>⟨rfl,I.turned (t':=s.toks) (fun b o hb e=>eb b o hb e) f0 f1 f3 f4 f5⟩
 self:=fun _ _ _ _ _ st h=>ib st h
section
variable {X:Cx} {tg:Expr}
theorem Q5 {pins:List (Addr×Obj)} {σ:St} {H:Hp} {s:ah} {R:It->Hp->Prop} {E:Value->ah->Prop} {lo hi:Int} {t u v:Tok} {tk:Nat} (I:Inv X pins σ H s) (htk:s.toks<=tk) (h1:-(2 ^ 62)<=lo) (h2:lo<2 ^ 62) (h3:-(2 ^ 62)<=hi) (h4:hi<2 ^ 62)
  (q:R (Itr lo (hi - lo).toNat) H):aJ (model X.prog X.w) X.A (pyIter (.ref s.heap.objs.size)) (PIE X pins σ tg R) E { s with heap:=s.heap.push { cls:=.type "range", data:=.fields #[.int lo t,.int hi u,.int 1 v] },toks:=tk }:=by
 refine jo (IsRange.new ..) (small_one h1 h2 h3 h4) ?_
 have I1:Inv X pins σ H { s with heap:=s.heap.push { cls:=.type "range", data:=.fields #[.int lo t,.int hi u,.int 1 v] },toks:=tk }:=I.kept fun b o e=>ag _ e
 refine⟨(s.heap.push { cls:=.type "range", data:=.fields #[.int lo t,.int hi u,.int 1 v] }).objs.size,[(s.heap.push { cls:=.type "range", data:=.fields #[.int lo t,.int hi u,.int 1 v] }).objs.size],_,_,H,rfl,
  I1.kept (t':=tk) fun b o e=>ag _ e,Uj _ lo (hi - lo).toNat,?_,fun b hb=>?_,q⟩
 ·have e1:lo+((0:Nat):Int) * 1=lo:=by simp
  have e2:(((hi - lo).toNat:Nat):Int) - ((0:Nat):Int)=bX lo hi 1:=by rw [rangeSize_one];split <;> omega
  show iS _ _ (lo+((0:Nat):Int) * 1) ((((hi - lo).toNat:Nat):Int) - ((0:Nat):Int)) 1
  rw [e1,e2]
  exact aF _ rfl
 ·have e:b=(s.heap.push { cls:=.type "range", data:=.fields #[.int lo t,.int hi u,.int 1 v] }).objs.size:=by simpa using hb
  subst e
  exact I1.fpOk (ac _) (I1.hok.fresh (ac _))
noncomputable def cu1 (wi:TI) (g:TG) (tb:TS):TS:=fun D σ H=>wi σ H fun J H1=>∃ W:Nat->Nat->St->Hp->Prop,(∃ m,W 0 m σ H1) /\ ∀ i m σ H,W i m σ H ->
 (J.stop i H/\D.nx σ H)\/(J.go i H /\ ∃ N:St->Hp->Prop,(∀ σ' H',N σ' H' -> ∃ m',m'<m/\W (i+1) m' σ' H') /\ ∀ x H',J.yld i H x H'->g x σ H' fun σ2 H2=>tb { D with nx:=N,ct:=N,bk:=D.nx } σ2 H2)
noncomputable def G1 (fp:List Addr) (h:Heap):List (Addr×Obj):=fp.filterMap fun b=>(h.get? b).map fun o=>(b,o)
theorem Dz {fp:List Addr} {h:Heap} {b:Addr} {o:Obj} (hb:b∈fp) (e:h.get? b=some o):(b,o)∈G1 fp h:=List.mem_filterMap.mpr ⟨b,hb,by rw [e];rfl⟩
theorem Xa {fp:List Addr} {h:Heap} {p:Addr×Obj} (hp:p∈G1 fp h):p.1∈fp/\h.get? p.1=some p.2:=by
 obtain⟨b,hb,e⟩:=List.mem_filterMap.mp hp
 cases q:h.get? b with
 | none=>rw [q] at e;cases e
 | some o=>
  rw [q] at e
  have e':(b,o)=p:=aN e
  subst e'
  exact⟨hb,q⟩
theorem Inv.pinned {pins:List (Addr×Obj)} {σ:St} {H:Hp} {s:ah} {fp:List Addr} (I:Inv X pins σ H s) (hf:∀ b∈fp,Ct X pins H b) (ho:∀ b∈fp,∃ o,s.heap.get? b=some o /\ ∀ v,o.data≠.cell v):Inv X (pins++G1 fp s.heap) σ H s:=
 I.pins_of fun p hp=>(List.mem_append.mp hp).elim (fun z=>I.pin p (aU _ z)) fun z=>by
  obtain⟨hb,e⟩:=Xa z
  obtain⟨f0,f1,f2,_⟩:=hf p.1 hb
  obtain⟨o,e',d⟩:=ho p.1 hb
  rw [e] at e';cases e'
  exact⟨e,f0,f1,f2,d⟩
theorem Inv.unpinned {pins pl:List (Addr×Obj)} {σ:St} {H:Hp} {s:ah} (I:Inv X (pins++pl) σ H s):Inv X pins σ H s:=I.pins_of fun p hp=>I.pin p (aU _ (cm _ hp))
theorem bj6 {iter:Expr} {body:List Stmt} {wi:TI} {g:TG} {tb:TS} {pos:Pos} (hp:fF (model X.prog X.w) X.A X.env X.xe) (hc:X.calm=true) (hi:PI X tg iter wi) (hg:PG X tg g) (hb:PSs X body tb)
  (hs:∀ x,d_ iter X.env x=pure x:=by intro _;rfl):PS X (.For tg iter body [] pos) (cu1 wi g tb):=by
 intro pins s σ H D I h
 refine wpAny_For (thn (hi pins s σ H _ I h) fun v s1 h1=>thn h1 fun itv s2 h2=>?_) hs
 obtain⟨it,fp,tn,J,H2,e,I2,T,st2,f2,W,⟨m0,w0⟩,turn⟩:=h2
 subst e
 have stat:∀ {H':Hp},(∀ b∈fp,H' b=none) -> ∀ b∈fp,Ct X pins H' b:=fun hn b hb=>⟨hn b hb,(f2 b hb).2⟩
 refine codeAny_forLoop_any (fun n s'=>∃ i σ' H',Inv X pins σ' H' s'/\tn i s'.heap/\(∀ b∈fp,H' b=none)/\W i n σ' H') ?_ m0 ⟨0,σ,H2,I2,st2,fun b hb=>(f2 b hb).1,w0⟩
 rintro n s3 ⟨i,σ3,H3,I3,st3,fr3,w3⟩
 rcases turn i n σ3 H3 w3 with ⟨stop,qn⟩|⟨go,N,hN,step⟩
 ·refine du hp (thn (T.done X rfl rfl rfl hc i pins s3 σ3 H3 X.xe I3 (stat fr3) st3 stop) fun r s4 ⟨hr,I4⟩=>?_)
  subst hr
  exact f_ ⟨σ3,H3,I4,qn⟩
 ·refine du hp (thn (T.item X rfl rfl rfl hc i pins s3 σ3 H3 X.xe I3 (stat fr3) st3 go) fun r s4 ⟨u,hr,h4⟩=>?_)
  subst hr
  refine du hp (thn h4 fun _ s5 ⟨x,H5,I5,r5,y5,st5,fr5⟩=>?_)
  have I5':=I5.pinned (stat fr5) (T.obj _ _ st5)
  refine du hp (thn (hg _ s5 σ3 H5 x u _ I5' r5 (step x H5 y5)) fun _ s6 ⟨σ6,H6,I6,q6⟩=>?_)
  refine du hp (thn (hb _ s6 σ6 H6 _ I6 q6) fun f s7 q7=>?_)
  have again:∀ {σ7:St} {H7:Hp},Inv X (pins++G1 fp s5.heap) σ7 H7 s7->N σ7 H7 -> ∃ m,m<n /\ ∃ i σ' H',Inv X pins σ' H' s7/\tn i s7.heap/\(∀ b∈fp,H' b=none)/\W i m σ' H':=fun {σ7 H7} I7 n7=>by
   obtain⟨m',hm,w7⟩:=hN σ7 H7 n7
   refine⟨m',hm,i+1,σ7,H7,I7.unpinned,T.keep _ _ _ st5 fun b hb o e=>(I7.pin (b,o) (aU _ (aU _ (Dz hb e)))).1,fun b hb=>?_,w7⟩
   obtain⟨o,e,d⟩:=T.obj _ _ st5 b hb
   exact (I7.pin (b,o) (aU _ (aU _ (Dz hb e)))).2.1
  cases f with
  | next=>obtain⟨σ7,H7,I7,n7⟩:=q7;exact again I7 n7
  | cont=>obtain⟨σ7,H7,I7,n7⟩:=q7;exact again I7 n7
  | brk=>obtain⟨σ7,H7,I7,q7⟩:=q7;exact⟨σ7,H7,I7.unpinned,q7⟩
  | ret v=>obtain⟨x7,σ7,H7,I7,r7,q7⟩:=q7;exact⟨x7,σ7,H7,I7.unpinned,r7,q7⟩
end
noncomputable abbrev R2:=V->V->Hp->VK->Prop
noncomputable def OpR (X:Cx) (f:Value->Value->Sem Value) (r:R2):Prop:=
 ∀ (pins:List (Addr×Obj)) (s:ah) (σ:St) (H:Hp) (x y:V) (v u:Value) (Q:VK),Inv X pins σ H s->RelV x v->RelV y u->r x y H Q ->
  aJ (model X.prog X.w) X.A (f v u) (EP X pins σ Q) X.xe s
noncomputable def UnR (X:Cx) (f:Value->Sem Value) (r:V->Hp->VK->Prop):Prop:=
 ∀ (pins:List (Addr×Obj)) (s:ah) (σ:St) (H:Hp) (x:V) (v:Value) (Q:VK),Inv X pins σ H s->RelV x v->r x H Q ->
  aJ (model X.prog X.w) X.A (f v) (EP X pins σ Q) X.xe s
noncomputable def Db (X:Cx) (f:Value) (r:List V->Hp->VK->Prop):Prop:=
 ∀ (pins:List (Addr×Obj)) (s:ah) (σ:St) (H:Hp) (xs:List V) (us:List Value) (Q:VK),Inv X pins σ H s->Vals xs us->r xs H Q ->
  aJ (model X.prog X.w) X.A (call f us) (EP X pins σ Q) X.xe s
noncomputable def b56 (X:Cx) (r:V->Hp->(Bool->Hp->Prop)->Prop):Prop:=
 ∀ (pins:List (Addr×Obj)) (s:ah) (σ:St) (H:Hp) (x:V) (v:Value) (Q:Bool->Hp->Prop),Inv X pins σ H s->RelV x v->r x H Q ->
  aJ (model X.prog X.w) X.A (truthy v) (TP X pins σ Q) X.xe s
noncomputable def tOp (r:R2) (ta tb:TE):TE:=fun σ H Q=>ta σ H fun x H1=>tb σ H1 fun y H2=>r x y H2 Q
noncomputable def tUn (r:V->Hp->VK->Prop) (ta:TE):TE:=fun σ H Q=>ta σ H fun x H1=>r x H1 Q
noncomputable def rI (C:Int->Int->Prop) (g:Int->Int->V):R2:=fun x y H Q=>∃ i j,x=.int i/\y=.int j/\C i j/\Q (g i j) H
noncomputable def rI0 (g:Int->Int->V):R2:=fun x y H Q=>∃ i j,x=.int i/\y=.int j/\Q (g i j) H
noncomputable def rU (g:Int->V):V->Hp->VK->Prop:=fun x H Q=>∃ i,x=.int i/\Q (g i) H
section
variable {X:Cx} {a b c:Expr} {ta tb tc:TE} {pos:Pos}
theorem a92 (ha:PE X a ta) (hb:PE X b tb) {pins:List (Addr×Obj)} {s:ah} {σ:St} {H:Hp} {R:V->V->Hp->Prop} (I:Inv X pins σ H s)
  (h:ta σ H fun x H1=>tb σ H1 fun y H2=>R x y H2) {Q:Value->ah->Prop} {f:Value->Value->Sem Value}
  (hf:∀ v u s2 x y H2,Inv X pins σ H2 s2->RelV x v->RelV y u->R x y H2->aJ (model X.prog X.w) X.A (f v u) Q X.xe s2) :
  aJ (model X.prog X.w) X.A (eval a X.env) (fun v s₁=>aJ (model X.prog X.w) X.A (eval b X.env) (fun u s₂=>aJ (model X.prog X.w) X.A (f v u) Q X.xe s₂) X.xe s₁) X.xe s:=by
 refine thn (ha pins s σ H _ I h) fun v s1 ⟨x,H1,I1,r1,q1⟩=>?_
 refine thn (hb pins s1 σ H1 _ I1 q1) fun u s2 ⟨y,H2,I2,r2,q2⟩=>?_
 exact hf v u s2 x y H2 I2 r1 r2 q2
theorem cb7 {op:j0} {r:R2} (ho:OpR X (eK op) r) (ha:PE X a ta) (hb:PE X b tb):PE X (.BinOp a op b pos) (tOp r ta tb):=by
 intro pins s σ H Q I h
 exact wpAny_BinOp (a92 ha hb I h fun v u s2 x y H2 I2 rx ry q=>ho pins s2 σ H2 x y v u Q I2 rx ry q)
theorem a19 {op:UnaryOp} {r:V->Hp->VK->Prop} (ho:UnR X (j8 op) r) (ha:PE X a ta):PE X (.UnaryOp op a pos) (tUn r ta):=by
 intro pins s σ H Q I h
 exact UnaryOp_ (thn (ha pins s σ H _ I h) fun v s1 ⟨x,H1,I1,r1,q1⟩=>ho pins s1 σ H1 x v Q I1 r1 q1)
theorem opI {f:Value->Value->Sem Value} {C:Int->Int->Prop} {g:Int->Int->Int}
  (rule:∀ (i j:Int) (t u:Tok) (s:ah) (Q:Value->ah->Prop) (E:Value->ah->Prop),C i j->Q (.int (g i j) s.toks) { s with toks:=s.toks+1 }->aJ (model X.prog X.w) X.A (f (.int i t) (.int j u)) Q E s) :
  OpR X f (rI C fun i j=>.int (g i j)):=by
 intro pins s σ H x y v u Q I rx ry h
 obtain⟨i,j,rfl,rfl,hc,q⟩:=h
 obtain⟨t,rfl⟩:=rx
 obtain⟨t',rfl⟩:=ry
 exact rule i j t t' s _ _ hc ⟨.int (g i j),H,I.tok _,⟨_,rfl⟩,q⟩
theorem ca9 {f:Value->Value->Sem Value} {g:Int->Int->Int}
  (rule:∀ (i j:Int) (t u:Tok) (s:ah) (Q:Value->ah->Prop) (E:Value->ah->Prop),Q (.int (g i j) s.toks) { s with toks:=s.toks+1 }->aJ (model X.prog X.w) X.A (f (.int i t) (.int j u)) Q E s) :
  OpR X f (rI0 fun i j=>.int (g i j)):=by
 intro pins s σ H x y v u Q I rx ry h
 obtain⟨i,j,rfl,rfl,q⟩:=h
 obtain⟨t,rfl⟩:=rx
 obtain⟨t',rfl⟩:=ry
 exact rule i j t t' s _ _ ⟨.int (g i j),H,I.tok _,⟨_,rfl⟩,q⟩
theorem ar7 {f:Value->Value->Sem Value} {g:Int->Int->Bool}
  (rule:∀ (i j:Int) (t u:Tok) (s:ah) (Q:Value->ah->Prop) (E:Value->ah->Prop),Q (.bool (g i j)) s->aJ (model X.prog X.w) X.A (f (.int i t) (.int j u)) Q E s) :
  OpR X f (rI0 fun i j=>.bl (g i j)):=by
 intro pins s σ H x y v u Q I rx ry h
 obtain⟨i,j,rfl,rfl,q⟩:=h
 obtain⟨t,rfl⟩:=rx
 obtain⟨t',rfl⟩:=ry
 exact rule i j t t' s _ _ ⟨.bl (g i j),H,I,rfl,q⟩
noncomputable def b49 (i j:Int):Prop:=0<j/\j<1073741824
noncomputable def a58 (i j:Int):Prop:=0<=j/\j<=1000000/\i.natAbs<2 ^ 64
noncomputable def CMul (i j:Int):Prop:=(-(2 ^ 64)<i/\i<2 ^ 64)\/(-(2 ^ 64)<j/\j<2 ^ 64)
theorem CMul.ok {i j:Int} (h:CMul i j):IntMulOk i j:=by
 rcases h with ⟨h1,h2⟩|⟨h1,h2⟩
 ·exact .of_left (intBits_le_64 h1 h2)
 ·exact .of_right (intBits_le_64 h1 h2)
theorem bh8:OpR X (eK .Add) (rI0 fun i j=>.int (i+j)):=ca9 fun _ _ _ _ _ _ _ q=>add_int q
theorem bi5:OpR X (eK .Sub) (rI0 fun i j=>.int (i - j)):=ca9 fun _ _ _ _ _ _ _ q=>sub_int q
theorem bi2:OpR X (eK .Mult) (rI CMul fun i j=>.int (i * j)):=opI fun _ _ _ _ _ _ _ hc q=>mul_int q hc.ok
theorem ar9:OpR X (eK .FloorDiv) (rI b49 fun i j=>.int (i / j)):=opI fun i j _ _ _ _ _ hc q=>by
 have h1:(0:Int)<j:=hc.1
 have h2:j<1073741824:=hc.2
 exact floordiv_int (by omega) (by rw [Int.fdiv_eq_ediv_of_nonneg i (by omega)];exact q) (.inl (hX (by omega)))
theorem bi1:OpR X (eK .Mod) (rI (fun _ j=>0<j) fun i j=>.int (i % j)):=opI fun i j _ _ _ _ _ hc q=>by
 have h1:(0:Int)<j:=hc
 exact mod_int' (by omega) (by rw [Int.fmod_eq_emod_of_nonneg i (by omega)];exact q)
theorem bi4:OpR X (eK .Pow) (rI a58 fun i j=>.int (i ^ j.toNat)):=opI fun _ _ _ _ _ _ _ hc q=>pow_int_small hc.1 hc.2.1 hc.2.2 q
theorem unI {f:Value->Sem Value} {g:Int->Int}
  (rule:∀ (i:Int) (t:Tok) (s:ah) (Q:Value->ah->Prop) (E:Value->ah->Prop),Q (.int (g i) s.toks) { s with toks:=s.toks+1 }->aJ (model X.prog X.w) X.A (f (.int i t)) Q E s) :
  UnR X f (rU fun i=>.int (g i)):=by
 intro pins s σ H x v Q I rx h
 obtain⟨i,rfl,q⟩:=h
 obtain⟨t,rfl⟩:=rx
 exact rule i t s _ _ ⟨.int (g i),H,I.tok _,⟨_,rfl⟩,q⟩
theorem bz2:UnR X (j8 .USub) (rU fun i=>.int (-i)):=unI fun _ _ _ _ _ q=>neg_int q
theorem bz1:UnR X (j8 .Invert) (rU fun i=>.int (Builtin.bitNot i)):=unI fun _ _ _ _ _ q=>invert_int q
end
noncomputable def by1:V->V->Bool
 | .non,.non=>true | .non,.int _=>true | .int _,.non=>true | .non,.bl _=>true | .bl _,.non=>true | .non,.str _=>true | .str _,.non=>true
 | .int _,.int _=>true | .bl _,.bl _=>true | .str _,.str _=>true | .byt _,.byt _=>true
 | .int _,.str _=>true | .str _,.int _=>true | .bl _,.str _=>true | .str _,.bl _=>true
 | _,_=>false
noncomputable def rEq:R2:=fun x y H Q=>by1 x y=true/\Q (.bl (decide (x=y))) H
noncomputable def rNe:R2:=fun x y H Q=>by1 x y=true/\Q (.bl (!decide (x=y))) H
theorem Hn {i j:Int}:decide (V.int i=V.int j)=(i==j):=by
 rw [dU]
 simp
theorem M2 {i j:Bool}:decide (V.bl i=V.bl j)=(i==j):=by
 rw [dU]
 simp
theorem Ho {i j:Str}:decide (V.str i=V.str j)=(i==j):=by
 rw [dU]
 simp
theorem U3 {i j:Array UInt8}:decide (V.byt i=V.byt j)=(i.toList==j.toList):=by
 rw [dU]
 cases i
 cases j
 simp
section
variable {X:Cx} {a b c:Expr} {ta tb tc:TE} {pos:Pos}
theorem Ay {pins:List (Addr×Obj)} {σ:St} {H:Hp} {s:ah} {Q:VK} {k k':Bool} (I:Inv X pins σ H s) (q:Q (.bl k) H) (e:k=k'):EP X pins σ Q (.bool k') s:=by
 subst e
 exact⟨.bl k,H,I,rfl,q⟩
theorem Vo:OpR X (b7 .Eq) rEq:=by
 intro pins s σ H x y v u Q I rx ry h
 obtain⟨hs,q⟩:=h
 cases x with
 | non=>
  cases rx
  cases y with
  | non=>cases ry;exact PySem.EqNone.eq_none_none (Ay I q (by simp))
  | bl j=>cases ry;exact PySem.EqNone.eq_none_bool (Ay I q (by simp))
  | int j=>obtain⟨t',rfl⟩:=ry;exact PySem.EqNone.eq_none_int (Ay I q (by simp))
  | str j=>obtain⟨t',rfl⟩:=ry;exact PySem.EqNone.eq_none_str (Ay I q (by simp))
  | _=>exact absurd (show false=true from hs) ak
 | bl i=>
  cases rx
  cases y with
  | non=>cases ry;exact PySem.EqNone.eq_bool_none (Ay I q (by simp))
  | bl j=>cases ry;exact eq_bool (Ay I q M2)
  | str j=>obtain⟨t',rfl⟩:=ry;exact PySem.EqMixed.eq_bool_str (Ay I q (by simp))
  | _=>exact absurd (show false=true from hs) ak
 | int i=>
  obtain⟨t,rfl⟩:=rx
  cases y with
  | non=>cases ry;exact PySem.EqNone.eq_int_none (Ay I q (by simp))
  | int j=>obtain⟨t',rfl⟩:=ry;exact eq_int (Ay I q Hn)
  | str j=>obtain⟨t',rfl⟩:=ry;exact PySem.EqMixed.eq_int_str (Ay I q (by simp))
  | _=>exact absurd (show false=true from hs) ak
 | str i=>
  obtain⟨t,rfl⟩:=rx
  cases y with
  | non=>cases ry;exact PySem.EqNone.eq_str_none (Ay I q (by simp))
  | bl j=>cases ry;exact PySem.EqMixed.eq_str_bool (Ay I q (by simp))
  | int j=>obtain⟨t',rfl⟩:=ry;exact PySem.EqMixed.eq_str_int (Ay I q (by simp))
  | str j=>obtain⟨t',rfl⟩:=ry;exact eq_str (Ay I q Ho)
  | _=>exact absurd (show false=true from hs) ak
 | byt i=>
  obtain⟨t,rfl⟩:=rx
  cases y with
  | byt j=>obtain⟨t',rfl⟩:=ry;exact PySem.W.eq_bytes (Ay I q U3)
  | _=>exact absurd (show false=true from hs) ak
 | _=>cases y <;> exact absurd (show false=true from hs) ak
theorem Vp:OpR X (b7 .NotEq) rNe:=by
 intro pins s σ H x y v u Q I rx ry h
 obtain⟨hs,q⟩:=h
 cases x with
 | non=>
  cases rx
  cases y with
  | non=>cases ry;exact PySem.EqNone.ne_none_none (Ay I q (by simp))
  | bl j=>cases ry;exact PySem.EqNone.ne_none_bool (Ay I q (by simp))
  | int j=>obtain⟨t',rfl⟩:=ry;exact PySem.EqNone.ne_none_int (Ay I q (by simp))
  | str j=>obtain⟨t',rfl⟩:=ry;exact PySem.EqNone.ne_none_str (Ay I q (by simp))
  | _=>exact absurd (show false=true from hs) ak
 | bl i=>
  cases rx
  cases y with
  | non=>cases ry;exact PySem.EqNone.ne_bool_none (Ay I q (by simp))
  | bl j=>cases ry;exact ne_bool (Ay I q (congrArg not M2))
  | str j=>obtain⟨t',rfl⟩:=ry;exact PySem.EqMixed.ne_bool_str (Ay I q (by simp))
  | _=>exact absurd (show false=true from hs) ak
 | int i=>
  obtain⟨t,rfl⟩:=rx
  cases y with
  | non=>cases ry;exact PySem.EqNone.ne_int_none (Ay I q (by simp))
  | int j=>obtain⟨t',rfl⟩:=ry;exact ne_int (Ay I q (congrArg not Hn))
  | str j=>obtain⟨t',rfl⟩:=ry;exact PySem.EqMixed.ne_int_str (Ay I q (by simp))
  | _=>exact absurd (show false=true from hs) ak
 | str i=>
  obtain⟨t,rfl⟩:=rx
  cases y with
  | non=>cases ry;exact PySem.EqNone.ne_str_none (Ay I q (by simp))
  | bl j=>cases ry;exact PySem.EqMixed.ne_str_bool (Ay I q (by simp))
  | int j=>obtain⟨t',rfl⟩:=ry;exact PySem.EqMixed.ne_str_int (Ay I q (by simp))
  | str j=>obtain⟨t',rfl⟩:=ry;exact ne_str (Ay I q (congrArg not Ho))
  | _=>exact absurd (show false=true from hs) ak
 | byt i=>
  obtain⟨t,rfl⟩:=rx
  cases y with
  | byt j=>obtain⟨t',rfl⟩:=ry;exact PySem.W.ne_bytes (Ay I q (congrArg not U3))
  | _=>exact absurd (show false=true from hs) ak
 | _=>cases y <;> exact absurd (show false=true from hs) ak
theorem cb3:OpR X (b7 .Lt) (rI0 fun i j=>.bl (decide (i<j))):=ar7 fun _ _ _ _ _ _ _ q=>lt_int q
theorem cb2:OpR X (b7 .LtE) (rI0 fun i j=>.bl (decide (i<=j))):=ar7 fun _ _ _ _ _ _ _ q=>le_int q
theorem cb1:OpR X (b7 .Gt) (rI0 fun i j=>.bl (decide (j<i))):=ar7 fun _ _ _ _ _ _ _ q=>gt_int q
theorem cb0:OpR X (b7 .GtE) (rI0 fun i j=>.bl (decide (j<=i))):=ar7 fun _ _ _ _ _ _ _ q=>ge_int q
theorem Xc:OpR X (b7 .Lt) (fun x y H Q=>∃ i j,x=.str i/\y=.str j/\Q (.bl (decide (i.cps.toList<j.cps.toList))) H):=by
 intro pins s σ H x y v u Q I rx ry h
 obtain⟨i,j,rfl,rfl,q⟩:=h
 obtain⟨t,rfl⟩:=rx
 obtain⟨t',rfl⟩:=ry
 exact lt_str (Ay I q rfl)
theorem bi0:OpR X (b7 .Is) (fun x y H Q=>y=.non/\Q (.bl (decide (x=.non))) H):=by
 intro pins s σ H x y v u Q I rx ry h
 obtain⟨rfl,q⟩:=h
 cases ry
 refine is_none_gen (Ay I q ?_)
 cases x <;> first
  | (cases rx;rfl)
  | (obtain⟨t,rfl⟩:=rx;rfl)
  | (obtain⟨t,rfl,_⟩:=rx;rfl)
theorem as0:OpR X (b7 .IsNot) (fun x y H Q=>y=.non/\Q (.bl (!decide (x=.non))) H):=by
 intro pins s σ H x y v u Q I rx ry h
 obtain⟨rfl,q⟩:=h
 cases ry
 refine isnot_none_gen (Ay I q ?_)
 cases x <;> first
  | (cases rx;rfl)
  | (obtain⟨t,rfl⟩:=rx;rfl)
  | (obtain⟨t,rfl,_⟩:=rx;rfl)
theorem OpR.or {f:Value->Value->Sem Value} {r r':R2} (h:OpR X f r) (h':OpR X f r'):OpR X f (fun x y H Q=>r x y H Q\/r' x y H Q):=by
 intro pins s σ H x y v u Q I rx ry q
 rcases q with q|q
 ·exact h pins s σ H x y v u Q I rx ry q
 ·exact h' pins s σ H x y v u Q I rx ry q
theorem as4 {op:jL} {r:R2} (ho:OpR X (b7 op) r) (ha:PE X a ta) (hb:PE X b tb) (hm:cZ op b=false):PE X (.Compare a [op] [b] pos) (tOp r ta tb):=by
 intro pins s σ H Q I h
 exact wpAny_Compare1 (a92 ha hb I h fun v u s2 x y H2 I2 rx ry q=>ho pins s2 σ H2 x y v u Q I2 rx ry q) hm
noncomputable def b57 (K:aa) (x:V) (H:Hp) (k:Bool):Prop:=
 match x with
 | .non=>k=false
 | .bl b=>k=b
 | .int i=>k=(i != 0)
 | .str y=>y.length<=sizeLine/\k=((y.length:Int) != 0)
 | .byt y=>y.size<=sizeLine/\k=((y.size:Int) != 0)
 | .ref p=>(∃ xs,SqL K H p xs/\k = !xs.isEmpty)\/(∃ xs,SqT K H p xs/\k = !xs.isEmpty) \/ ∃ kvs,H p=some (.dK kvs)/\k = !kvs.isEmpty
 | _=>False
theorem Rz {κ:Type} {kvs:List (κ×V)} {vs:List (κ×Value)} (r:KV kvs vs):(!vs.isEmpty) = !kvs.isEmpty:=by
 cases r <;> rfl
theorem Ix {xs:List V} {its:List Value} (r:Vals xs its):(!its.toArray.isEmpty) = !xs.isEmpty:=by
 cases r <;> simp
theorem Fc:(sizeLine:Nat)<2 ^ 63:=by rw [bj];decide
theorem K7:b56 X (fun x H Q=>∃ k,b57 X.K x H k/\Q k H):=by
 intro pins s σ H x v Q I rx h
 obtain⟨k,e,q⟩:=h
 have hl:=Fc
 have hs:sizeLine=16777216:=bj
 cases x with
 | non=>
  cases rx
  have e':k=false:=e
  subst e'
  exact truthy_none ⟨H,I,q⟩
 | bl b=>
  cases rx
  have e':k=b:=e
  subst e'
  exact cM ⟨H,I,q⟩
 | int i=>
  obtain⟨t,rfl⟩:=rx
  have e':k=(i != 0):=e
  subst e'
  exact PySem.P.truthy_int ⟨H,I,q⟩
 | str y=>
  obtain⟨t,rfl⟩:=rx
  obtain⟨hy,e'⟩:y.length<=sizeLine/\k=((y.length:Int) != 0):=e
  subst e'
  exact PySem.P.truthy_str (by omega) ⟨H,I.tok _,q⟩
 | byt y=>
  obtain⟨t,rfl⟩:=rx
  obtain⟨hy,e'⟩:y.size<=sizeLine/\k=((y.size:Int) != 0):=e
  subst e'
  exact PySem.W.truthy_bytes (by omega) ⟨H,I.tok _,q⟩
 | ref p=>
  cases rx
  have e':(∃ xs,SqL X.K H p xs/\k = !xs.isEmpty)\/(∃ xs,SqT X.K H p xs/\k = !xs.isEmpty) \/ ∃ kvs,H p=some (.dK kvs)/\k = !kvs.isEmpty:=e
  rcases e' with ⟨xs,hx,e'⟩|⟨xs,hx,e'⟩|⟨kvs,hx,e'⟩
  ·subst e'
   obtain⟨its,r,pl,hz⟩:=I.list hx
   have hlen:=r.length
   exact wpAny_truthy_list pl.isList (by simp only [am];omega) ⟨H,I.tok _,by rw [Ix r];exact q⟩
  ·subst e'
   obtain⟨its,r,pl,hz⟩:=I.tuple hx
   have hlen:=r.length
   exact truthy_tuple pl (by simp only [am];omega) ⟨H,I.tok _,by rw [Ix r];exact q⟩
  ·subst e'
   obtain⟨hz,hS,vs,r,m⟩:kvs.length<=sizeLine/\(p==cE)=false /\ ∃ vs,KV kvs vs/\s.heap.DictOf (As X.prog X.w) p vs:=I.hok p _ hx
   have hlen:kvs.length=vs.length:=fO r
   exact wpAny_truthy_dict hS m (by omega) ⟨H,I.tok _,by rw [Rz r];exact q⟩
 | _=>exact (show False from e).elim
theorem Sc:OpR X (eK .Add) (fun x y H Q=>∃ i j,x=.str i/\y=.str j/\i.length+j.length<=sizeLine/\Q (.str (i++j)) H):=by
 intro pins s σ H x y v u Q I rx ry h
 obtain⟨i,j,rfl,rfl,hz,q⟩:=h
 obtain⟨t,rfl⟩:=rx
 obtain⟨t',rfl⟩:=ry
 exact bt (ac _) (add_str (fun t' tk htk=>⟨.str (i++j),H,I.tok _ htk,⟨_,rfl⟩,q⟩) hz)
theorem Hg {x:V} {us:List Value} (r:Vals [x] us):∃ u,us=[u]/\RelV x u:=by
 cases r with
 | cons r1 r2=>cases r2;exact⟨_,rfl,r1⟩
theorem co7 {x y:V} {us:List Value} (r:Vals [x,y] us):∃ u w',us=[u,w']/\RelV x u/\RelV y w':=by
 cases r with
 | cons r1 r2=>
  cases r2 with
  | cons r3 r4=>cases r4;exact⟨_,_,rfl,r1,r3⟩
theorem aa4:Db X (.builtin "ord") (fun xs H Q=>∃ x,xs=[.str x]/\x.length=1/\Q (.int (x.cps.getD 0 0:Nat)) H):=by
 intro pins s σ H xs us Q I r h
 obtain⟨x,rfl,hz,q⟩:=h
 obtain⟨u,rfl,t,rfl⟩:=Hg r
 exact ord_of_one hz ⟨.int _,H,I.tok _,⟨_,rfl⟩,q⟩
end
structure ObjM (h:Heap) (x dx C:Addr) (mA:Str->Option Value):Prop where
 obj:h.get? x=some (bD C dx)
 ns:h.Ns1 dx mA
 ne:dx≠x
theorem Gx {h:Heap} {dx:Addr} {mA:Str->Option Value} (n:h.Ns1 dx mA):∃ od,h.get? dx=some od /\ ∀ name,gw name od=some (mA name):=by
 obtain⟨o,es,ep,ho,hd,hk,_,hm⟩:=n
 refine⟨o,ho,fun name=>?_⟩
 have e:=hm name
 unfold nsFind findBy at e
 rw [<- Array.find?_toList] at e
 unfold gw
 rw [hd]
 dsimp only
 split
 ·rename_i y q
  rw [q] at e
  exact congrArg some e
 ·rename_i q
  rw [q] at e
  have a:es.toList.any (·.refKey)=false:=by
   rw [List.any_eq_false]
   intro y hy
   obtain⟨z,t,hkey⟩:=hk y (Array.mem_toList_iff.mp hy)
   simp [DictEntry.refKey,hkey]
  have a':¬ es.toList.any (·.refKey)=true:=by rw [a];exact ak
  rw [if_neg a']
  exact congrArg some e
theorem ObjM.look {h:Heap} {x dx C:Addr} {mA:Str->Option Value} (I:ObjM h x dx C mA):∃ od,eF h x (bD C dx) C (some od) /\ ∀ name,gw name od=some (mA name):=
 let ⟨od,ho,hl⟩:=Gx I.ns
 ⟨od,⟨I.obj,rfl,rfl,ho⟩,hl⟩
section
variable {prog:aH} {w:bh} {A:a_} {E:Value->ah->Prop} {s:ah} {K:aa} {x dx C f:Addr} {mA:Str->Option Value} {name:Str} {v:Value}
theorem Fy {expr:Bool} {Q:Value->ah->Prop} (X:K.In s.heap) (I:ObjM s.heap x dx C mA) (hg:bP K C name=true) (hh:bQ K C=true)
  (ha:ae K (.ref C) name=some none) (hv:mA name=some v) (hv':eJ v=true) (h:Q v { s with toks:=s.toks+1 }) :
  aJ (model prog w) A (i7 (.ref x) name expr) Q E s:=by
 obtain⟨od,J,hl⟩:=I.look
 exact PySem.W.get_value X J (dF hg).1 (iV hh ha rfl (by rw [hl,hv])) hv' h
theorem ad3 {pl:Sem Bool} {Q:Value×List Value->ah->Prop} (X:K.In s.heap) (I:ObjM s.heap x dx C mA) (hg:bP K C name=true)
  (hf:ae K (.ref C) name=some (some (.ref f))) (ht:bV K (.ref f)=true) (hv:mA name=none) (h:Q (.ref f,[.ref x]) s) :
  aJ (model prog w) A (getMethod (.ref x) name pl) Q E s:=by
 obtain⟨od,J,hl⟩:=I.look
 exact PySem.W.method_fn X J (dF hg).1 (dF hg).2 hf (beq_iff_eq.mp ht) (by show (gw name od).map (·.isSome)=some false;rw [hl,hv];rfl) h
theorem av5 {ns:List Str} {Q:Unit->ah->Prop} (X:K.In s.heap) (I:ObjM s.heap x dx C mA)
  (hs:ae K (.ref C) "__setattr__" = some (some (.builtin "object.__setattr__"))) (hp:b0 K C=true) (ht:iq K C name=some none) (hh:bQ K C=true)
  (hw:dw mA ns) (hsz:ns.length<=sizeLine)
  (h:∀ h',ObjM h' x dx C (fun y=>if y=name then some v else mA y)->bA dx s.heap h'->Q () { s with heap:=h',toks:=s.toks+2 }) :
  aJ (model prog w) A (jU (.ref x) name v) Q E s:=by
 obtain⟨od,J,hl⟩:=I.look
 refine PySem.W.set_plain X J hs (PySem.W.osa_open (s:={ s with toks:=s.toks+1 }) (r:=none) X J hp ht fun b=>?_)
 obtain⟨cd,hc,hd'⟩:=PySem.W.any_some hh
 have hx:s.heap.get? x=some ⟨.ref C,some dx,.plain,#[]⟩:=I.obj
 refine af (ar (af (af (gE hx (af (PySem.W.Looks.here (s:={ s with toks:=s.toks+1 }) (PySem.W.looks_clsIn X hc) ?_))))))
 rw [hd']
 refine ar (a:=some dx) (af (ar (af ?_)))
 refine jG (s:={ s with toks:=s.toks+1 }) I.ns fun h' hn2 hs2=>?_
 obtain⟨oD,esD,epD,hoD,hdD,hcD⟩:=hn2.count (PySem.Within.cons name v hw)
 refine af (hJ hoD (by rw [hdD];exact g_ (aR hcD (by rw [aE];omega))) ?_)
 exact ar (h _ ⟨(hs2.2 _ (cz I.ne)).trans I.obj,hn2,I.ne⟩ hs2)
theorem ae7 {R:jB->ah->Prop} {vs:List Value} {kw:List (Str×Value)} (X:K.In s.heap) (hm:aS K C=true)
  (hi:ae K (.ref C) "__init__" = some (some (.ref f))) (hf:iM K (.ref f)=some (.type "function"))
  (h:eB (model prog w) (A.under (.builtin "type.__call__" ⟨.ref C::vs,kw⟩)) (.call (.ref f) ⟨.ref (s.heap.objs.size+1)::vs,kw⟩) (PySem.W.InitBack (s.heap.objs.size+1) R)
   {s with heap:=(s.heap.push bp).push (bD C s.heap.objs.size) }) :
  eB (model prog w) A (.call (.ref C) ⟨vs,kw⟩) R s:=by
 obtain⟨hh,g,d,t,os⟩:=s
 exact PySem.W.make_core (g8 X hm) (cH X hi) (fun self=>PySem.W.bind_fn X self hf) (.inl rfl) h
theorem W5 {R:jB->ah->Prop} (X:K.In s.heap) (hm:aS K C=true)
  (hi:ae K (.ref C) "__init__" = some (some (.builtin "object.__init__")))
  (hb:∀ self,fP (model prog w) s.heap (gX (.builtin "object.__init__") self) (.builtin "object.__init__", [self]))
  (h:eB (model prog w) (A.under (.builtin "type.__call__" ⟨[.ref C],[]⟩)) (.call (.builtin "object.__init__") ⟨[.ref (s.heap.objs.size+1)],[]⟩) (PySem.W.InitBack (s.heap.objs.size+1) R)
   {s with heap:=(s.heap.push bp).push (bD C s.heap.objs.size) }) :
  eB (model prog w) A (.call (.ref C) ⟨[],[]⟩) R s:=by
 obtain⟨hh,g,d,t,os⟩:=s
 exact PySem.W.make_core (g8 X hm) (cH X hi) hb (.inr ⟨rfl,rfl⟩) h
end
noncomputable def D8 (f:Str) (v:V):List (Str×V)->List (Str×V)
 | []=>[(f,v)]
 | (g,x)::r=>if g=f then (g,v)::r else (g,x)::D8 f v r
theorem Ej (f g:Str) (v:V):∀ fs:List (Str×V),(D8 f v fs).lookup g=if g=f then some v else fs.lookup g
 | []=>by
  show dB g [(f,v)]=_
  by_cases h:g=f
  ·have hb:(g==f)=true:=beq_iff_eq.mpr h
   simp only [dB,hb,if_pos h]
  ·have hb:(g==f)=false:=beq_eq_false_iff_ne.mpr h
   simp only [dB,hb,if_neg h]
 | (k,x)::r=>by
  have ih:=Ej f g v r
  rw [show D8 f v ((k,x)::r)=(if k=f then (k,v)::r else (k,x)::D8 f v r) from rfl]
  by_cases hk:k=f
  ·rw [if_pos hk]
   by_cases h:g=k
   ·have hb:(g==k)=true:=beq_iff_eq.mpr h
    simp only [dB,hb,if_pos (h.trans hk)]
   ·have hb:(g==k)=false:=beq_eq_false_iff_ne.mpr h
    simp only [dB,hb,if_neg (fun e:g=f=>h (e.trans hk.symm))]
  ·rw [if_neg hk]
   by_cases h:g=k
   ·have hb:(g==k)=true:=beq_iff_eq.mpr h
    simp only [dB,hb,if_neg (fun e:g=f=>hk (h.symm.trans e))]
   ·have hb:(g==k)=false:=beq_eq_false_iff_ne.mpr h
    simp only [dB,hb]
    exact ih
theorem Dn (f:Str) (v:V):∀ fs:List (Str×V),f∈(D8 f v fs).map (·.1) /\ ∀ g,g∈fs.map (·.1)->g∈(D8 f v fs).map (·.1)
 | []=>⟨by simp [D8],fun g h=>by simp at h⟩
 | (k,x)::r=>by
  obtain⟨i1,i2⟩:=Dn f v r
  rw [show D8 f v ((k,x)::r)=(if k=f then (k,v)::r else (k,x)::D8 f v r) from rfl]
  by_cases hk:k=f
  ·rw [if_pos hk]
   subst hk
   exact⟨by simp,fun g h=>by simpa using h⟩
  ·rw [if_neg hk]
   refine⟨?_,fun g h=>?_⟩
   ·rw [aM]
    exact ax _ i1
   ·rw [aM] at h ⊢
    rcases List.mem_cons.mp h with e|e
    ·exact List.mem_cons.mpr (.inl e)
    ·exact ax _ (i2 g e)
theorem Ei (f:Str) (v:V):∀ fs:List (Str×V),(D8 f v fs).length<=fs.length+1
 | []=>by simp [D8]
 | (k,x)::r=>by
  have ih:=Ei f v r
  rw [show D8 f v ((k,x)::r)=(if k=f then (k,v)::r else (k,x)::D8 f v r) from rfl]
  by_cases hk:k=f
  ·rw [if_pos hk,aE,aE];omega
  ·rw [if_neg hk,aE,aE];omega
theorem RelO.some_of {v:V} {o:Option Value} (r:RelO (some v) o):∃ u,o=some u/\RelV v u:=by
 cases o with
 | none=>exact (show False from r).elim
 | some u=>exact⟨u,rfl,r⟩
theorem RelO.none_of {o:Option Value} (r:RelO none o):o=none:=by
 cases o with
 | none=>rfl
 | some u=>exact (show False from r).elim
theorem Lv {v:V} {u:Value} (r:RelV v u):eJ u=true:=by
 cases v with
 | non=>cases (show u=ba from r);rfl
 | bl b=>cases (show u=fQ b from r);rfl
 | int i=>obtain⟨t,e⟩:=(show ∃ t,u=ir i t from r);cases e;rfl
 | str x=>obtain⟨t,e⟩:=(show ∃ t,u=fH x t from r);cases e;rfl
 | byt b=>obtain⟨t,e⟩:=(show ∃ t,u=Value.bytes b t from r);cases e;rfl
 | stk y n ex=>obtain⟨t,e,_⟩:=(show ∃ t,u=fH y t/\(if ex=true then t=n else n<=t) from r);cases e;rfl
 | ref a=>cases (show u=az a from r);rfl
 | ty n=>cases (show u=iD n from r);rfl
section
variable {P:aH} {w:bh} {H H':Hp} {h h':Heap} {a C dx:Addr} {fs fs':List (Str×V)}
theorem Fz (hok:HOk P w H h) (e:H a=some (.ins C dx fs)):∃ mA,ObjM h a dx C mA/\(∀ f,RelO (fs.lookup f) (mA f))/\dw mA (fs.map (·.1))/\fs.length<=1000/\H dx=some (.own a):=by
 obtain⟨d,z,ne,ob,mA,n,r,q⟩:=(show ObjOk P w H h a (.ins C dx fs) from hok a _ e)
 exact⟨mA,⟨ob,n,ne⟩,r,q,z,d⟩
end
structure Cls (K:aa) (C:Addr):Prop where
 pg:bP K C ck=true
 hd:bQ K C=true
 po:b0 K C=true
 sa:ae K (.ref C) "__setattr__" = some (some (.builtin "object.__setattr__"))
theorem Cls.get {K:aa} {C:Addr} (c:Cls K C) (f:Str):bP K C f=true:=c.pg
noncomputable def NoAttr (K:aa) (C:Addr) (f:Str):Prop:=ae K (.ref C) f=some none
theorem NoAttr.taker {K:aa} {C:Addr} {f:Str} (n:NoAttr K C f):iq K C f=some none:=by
 unfold iq
 rw [show ae K (.ref C) f=some none from n]
 rfl
structure A2 (K:aa) (C:Addr) (m:Str) (f:Addr):Prop where
 at_:ae K (.ref C) m=some (some (.ref f))
 fn:bV K (.ref f)=true
 kp:aq K (.ref f)=true
section
variable {X:Cx} {pins:List (Addr×Obj)} {σ:St} {H:Hp} {s:ah} {a C dx:Addr} {fs:List (Str×V)} {f:Str} {v:V} {A:a_} {E:Value->ah->Prop}
theorem Rv {b:Bool} {Q:Value->ah->Prop} (I:Inv X pins σ H s) (e:H a=some (.ins C dx fs)) (c:Cls X.K C) (n:NoAttr X.K C f) (l:fs.lookup f=some v)
  (h:∀ u s',Inv X pins σ H s'->RelV v u->Q u s'):aJ (model X.prog X.w) A (i7 (.ref a) f b) Q E s:=by
 obtain⟨mA,O,r,_,_,_⟩:=Fz I.hok e
 obtain⟨u,hu,ru⟩:=RelO.some_of (v:=v) (o:=mA f) (by rw [<- l];exact r f)
 exact Fy I.kIn O (c.get f) c.hd n hu (Lv ru) (h u _ (I.tok _) ru)
theorem Iq {m:Str} {g:Addr} {pl:Sem Bool} {Q:Value×List Value->ah->Prop} (I:Inv X pins σ H s) (e:H a=some (.ins C dx fs)) (c:Cls X.K C) (k:A2 X.K C m g) (l:fs.lookup m=none)
  (h:Q (.ref g,[.ref a]) s):aJ (model X.prog X.w) A (getMethod (.ref a) m pl) Q E s:=by
 obtain⟨mA,O,r,_,_,_⟩:=Fz I.hok e
 have hn:mA m=none:=RelO.none_of (by rw [<- l];exact r m)
 exact ad3 I.kIn O (c.get m) k.at_ k.fn hn h
theorem Tq {y:V} {u:Value} {Q:Unit->ah->Prop} (I:Inv X pins σ H s) (e:H a=some (.ins C dx fs)) (c:Cls X.K C) (n:NoAttr X.K C f) (hl:fs.length<1000) (ry:RelV y u)
  (h:∀ s',Inv X pins σ (upd H a (.ins C dx (D8 f y fs))) s'->Q () s'):aJ (model X.prog X.w) A (jU (.ref a) f u) Q E s:=by
 obtain⟨mA,O,r,wi,_,ho⟩:=Fz I.hok e
 have hz:(fs.map (·.1)).length<=sizeLine:=by rw [aj,bj];omega
 refine av5 I.kIn O c.sa c.po n.taker c.hd wi hz fun h' O' sb=>h _ ?_
 have hd:∃ o,h'.get? dx=some o:=let ⟨o,_,_,e',_⟩:=O'.ns;⟨o,e'⟩
 refine I.write (x:=a) (e:=dx) (by rw [e];exact bv) (.inr ho) (fun b q hb z=>(sb.2 b hb).trans z) hd ?_
 refine⟨by rw [Ak O.ne];exact ho,?_,O.ne,O'.obj,_,O'.ns,fun g=>?_,fun g hg=>?_⟩
 ·have:=Ei f y fs;omega
 ·show RelO ((D8 f y fs).lookup g) (if g=f then some u else mA g)
  rw [Ej]
  by_cases q:g=f
  ·rw [if_pos q,if_pos q];exact ry
  ·rw [if_neg q,if_neg q];exact r g
 ·by_cases q:g=f
  ·rw [q];exact (Dn f y fs).1
  ·refine (Dn f y fs).2 g (wi g fun z=>hg ?_)
   show (if g=f then some u else mA g)=none
   rw [if_neg q];exact z
theorem Inv.made (I:Inv X pins σ H s):Inv X pins σ (upd (upd H s.heap.objs.size (.own (s.heap.objs.size+1))) (s.heap.objs.size+1) (.ins C s.heap.objs.size []))
  {s with heap:=(s.heap.push bp).push (bD C s.heap.objs.size) }:=by
 have e1:(s.heap.push bp).get? s.heap.objs.size=some bp:=aF s.heap rfl
 have e2:((s.heap.push bp).push (bD C s.heap.objs.size)).get? (s.heap.objs.size+1)=some (bD C s.heap.objs.size):=by
  have:=aF (s.heap.push bp) (o:=bD C s.heap.objs.size) rfl
  rwa [dM] at this
 have e3:(s.heap.push bp).Ns s.heap.objs.size (fun _=>none):=⟨bp,#[],_,e1,rfl,(fun e he=>absurd he (by simp)),fun _=>rfl⟩
 have I1:=I.laid (a:=s.heap.objs.size) (o:=.own (s.heap.objs.size+1)) (h':=s.heap.push bp) (t':=s.toks) (fun b u q=>ag _ q) (ac _) ⟨_,e1⟩
 refine I1.laid (a:=s.heap.objs.size+1) (o:=.ins C s.heap.objs.size []) (t':=s.toks) (fun b u q=>ag _ q) (jz (dM _ _)) ?_
 have ne:s.heap.objs.size≠s.heap.objs.size+1:=aQ (cG _)
 refine⟨by rw [Ak ne,Ad],bC _,ne,e2,fun _=>none,(Heap.Ns1.of_empty e3).at fun o q=>ag _ q,fun _=>bv,fun y hy=>absurd rfl hy⟩
theorem Uw {prog:aH} {w:bh} {env:Env} {e:Expr} {f:Str} {pos:Pos} {s:ah} {Q:Value->ah->Prop} (hb:gW e f env (eval e env)=eval e env)
  (h:aJ (model prog w) A (eval e env) (fun o s₁=>aJ (model prog w) A (i7 o f true) Q E s₁) E s):aJ (model prog w) A (eval (.Attribute e f pos) env) Q E s:=
 Attribute_any_ h (by rw [arm_eval_Attribute,hb])
end
section
variable {X:Cx} {o e value:Expr} {f:Str} {pos pos' tpos:Pos} {ta tv:TE}
end
section
variable {X:Cx} {pins:List (Addr×Obj)} {σ:St} {H:Hp} {s:ah} {A:a_} {E:Value->ah->Prop} {Q:Value->ah->Prop} {c:Value} {b:Bool}
inductive TyOf (K:aa) (H:Hp):V->Value->Prop where
 | non:TyOf K H .non (.type "NoneType")
 | bl (x:Bool):TyOf K H (.bl x) (.type "bool")
 | int (i:Int):TyOf K H (.int i) (.type "int")
 | str (x:Str):TyOf K H (.str x) (.type "str")
 | stk (x:Str) (n:Nat) (ex:Bool):TyOf K H (.stk x n ex) (.type "str")
 | lst {a:Addr} {xs:List V} (e:H a=some (.lst xs)):TyOf K H (.ref a) (.type "list")
 | frz {a:Addr} {o:Obj} {xs:List V} (e:H a=some (.frz o (.lst xs))):TyOf K H (.ref a) (.type "list")
 | tup {a:Addr} {xs:List V} (e:H a=some (.tup xs)):TyOf K H (.ref a) (.type "tuple")
 | dK {a:Addr} {kvs:List (Key×V)} (e:H a=some (.dK kvs)):TyOf K H (.ref a) (.type "dict")
 | dT {a:Addr} {kvs:List (List Key×V)} (e:H a=some (.dT kvs)):TyOf K H (.ref a) (.type "dict")
 | ins {a C dx:Addr} {fs:List (Str×V)} (e:H a=some (.ins C dx fs)) (cl:Cls K C) (ha:ae K (.ref C) "__class__" = some (some (.builtin "object.__class__")))
   (hn:b6 K (.builtin "object.__class__") "__get__" = some (some (.builtin "getset_descriptor.__get__"))) (htk:cO K (.builtin "object.__class__")=some true)
   (hm:bb K C (.type "object")=some true):TyOf K H (.ref a) (.ref C)
theorem Lz {x:V} {u t:Value} (I:Inv X pins σ H s) (rx:RelV x u) (ty:TyOf X.K H x t) (e:cj X.K t c=some b) (h:∀ tk,Q (.bool b) { s with toks:=tk }) :
  aJ (model X.prog X.w) A (call (.builtin "isinstance") [u,c]) Q E s:=by
 cases ty with
 | non=>cases (show u=ba from rx);exact bK PySem.W.kitx_none I.kIn bv e (fun z=>nomatch z) h
 | bl y=>cases (show u=fQ y from rx);exact bK PySem.W.kitx_bool I.kIn bv e (fun z=>nomatch z) h
 | int i=>obtain⟨t,q⟩:=(show ∃ t,u=ir i t from rx);cases q;exact bK PySem.W.kitx_int I.kIn bv e (fun z=>nomatch z) h
 | str y=>obtain⟨t,q⟩:=(show ∃ t,u=fH y t from rx);cases q;exact bK PySem.W.kitx_str I.kIn bv e (fun z=>nomatch z) h
 | stk y n ex=>obtain⟨t,q,_⟩:=(show ∃ t,u=fH y t/\(if ex=true then t=n else n<=t) from rx);cases q;exact bK PySem.W.kitx_str I.kIn bv e (fun z=>nomatch z) h
 | @lst a xs ea=>
  cases (show u=az a from rx)
  obtain⟨_,_,n,_,h1⟩:=(show ObjOk X.prog X.w H s.heap a (.lst xs) from I.hok a _ ea)
  exact bK fu I.kIn ⟨_,h1,rfl⟩ e (fun z=>nomatch z) h
 | @frz a ob xs ea=>
  cases (show u=az a from rx)
  obtain⟨_,_,_,n,_,h1⟩:=(show ObjOk X.prog X.w H s.heap a (.frz ob (.lst xs)) from I.hok a _ ea)
  exact bK fu I.kIn ⟨_,h1,rfl⟩ e (fun z=>nomatch z) h
 | @tup a xs ea=>
  cases (show u=az a from rx)
  obtain⟨_,_,_,p⟩:=(show ObjOk X.prog X.w H s.heap a (.tup xs) from I.hok a _ ea)
  obtain⟨o,h1,h2,_⟩:=p
  exact bK gp I.kIn ⟨o,h1,h2⟩ e (fun z=>nomatch z) h
 | @dK a kvs ea=>
  cases (show u=az a from rx)
  obtain⟨_,_,vs,_,p⟩:=(show ObjOk X.prog X.w H s.heap a (.dK kvs) from I.hok a _ ea)
  obtain⟨o,es,ep,h1,h2,_⟩:=p
  exact bK PySem.W.kitx_dict I.kIn ⟨o,h1,h2.1⟩ e (fun z=>nomatch z) h
 | @dT a kvs ea=>
  cases (show u=az a from rx)
  obtain⟨_,_,xs,_,o,es,ep,h1,h2,_⟩:=(show ObjOk X.prog X.w H s.heap a (.dT kvs) from I.hok a _ ea)
  exact bK PySem.W.kitx_dict I.kIn ⟨o,h1,h2.1⟩ e (fun z=>nomatch z) h
 | @ins a C dx fs ea cl ha hn htk hm=>
  cases (show u=az a from rx)
  obtain⟨mA,O,_⟩:=Fz I.hok ea
  obtain⟨od,J,_⟩:=O.look
  exact bK (PySem.W.kitx_own (cl.get _) cl.hd ha hn htk hm) I.kIn J e (fun z=>nomatch z) h
end
structure Room (k:Nat) (A:a_):Prop where
 hd:A.handled=none
 dp:A.depth+3 * k+5<recursionLimit
 un:A.units+16 * k+200<cLine
theorem Room.mono {j k:Nat} {A:a_} (r:Room k A) (h:j<=k):Room j A:=⟨r.hd,by have:=r.dp;omega,by have:=r.un;omega⟩
theorem Room.deeper {k:Nat} {A:a_} (r:Room (k+1) A) (env:Env):Room k (A.deeper env):=
 ⟨r.hd,by have:=r.dp;show A.depth+1+3 * k+5<_;omega,by have:=r.un;show A.units+3+16 * k+200<_;omega⟩
theorem Room.in1 {k:Nat} {A:a_} (r:Room (k+1) A):Room k A.in1:=
 ⟨r.hd,by have:=r.dp;show A.depth+3 * k+5<_;omega,by have:=r.un;show A.units+1+16 * k+200<_;omega⟩
theorem R4 {A:a_} {C:Addr} {us:List Value} {kw:List (Str×Value)}:(A.under (.builtin "type.__call__" ⟨.ref C::us,kw⟩)).depth=A.depth+1:=by
 first|rfl|simp [jv,Code.weight,Code.isCreation,Code.isGuard,Code.isCaller,Code.frames,jx,guardIds]
theorem R5 {A:a_} {C:Addr} {us:List Value} {kw:List (Str×Value)}:(A.under (.builtin "type.__call__" ⟨.ref C::us,kw⟩)).units=A.units+1:=by
 first|rfl|simp [jv,Code.cUnits,Code.frames,jx]
theorem Room.make {k:Nat} {A:a_} (r:Room (k+1) A) (C:Addr) (us:List Value) (kw:List (Str×Value)):Room k (A.under (.builtin "type.__call__" ⟨.ref C::us,kw⟩)):=
 ⟨r.hd,by have:=r.dp;rw [R4];omega,by have:=r.un;rw [R5];omega⟩
theorem Room.depth {k:Nat} {A:a_} (r:Room k A):A.depth<recursionLimit:=by have:=r.dp;omega
theorem Room.units {k:Nat} {A:a_} (r:Room k A):A.units+64<cLine:=by have:=r.un;omega
noncomputable def cu4:TA:=fun _ H Q=>Q [] H
noncomputable def cj0 (ta:TE) (tr:TA):TA:=fun σ H Q=>ta σ H fun x H1=>tr σ H1 fun xs H2=>Q (x::xs) H2
section
variable {X:Cx} {e:Expr} {es:List Expr} {te:TE} {t:TA} {pos:Pos}
theorem bi6:PA X [] cu4:=fun _ _ _ _ H Q I h=>Calls.spliced_nil ⟨[],H,I,.nil,h⟩
theorem as2 (ha:PE X e te) (hr:PA X es t) (hs:cD (e::es) X.env=(false,eval e X.env)::cD es X.env:=by rfl):PA X (e::es) (cj0 te t):=by
 intro pos pins s σ H Q I h
 rw [hs]
 show aJ _ _ (spliced ((false,eval e X.env)::iu pos (cD es X.env))) _ _ s
 refine Calls.spliced_cons (thn (ha pins s σ H _ I h) fun u s1 ⟨x,H1,I1,r1,q1⟩=>?_)
 exact thn (hr pos pins s1 σ H1 _ I1 q1) fun us s2 ⟨xs,H2,I2,r2,q2⟩=>⟨x::xs,H2,I2,.cons r1 r2,q2⟩
noncomputable def cu8 (t:TA):TE:=fun σ H Q=>t σ H fun xs H1=>xs.length<=sizeLine /\ ∀ p,H1 p=none->Q (.ref p) (upd H1 p (.tup xs))
noncomputable def cu3 (t:TA):TE:=fun σ H Q=>t σ H fun xs H1=>xs.length<=sizeLine /\ ∀ p,H1 p=none->Q (.ref p) (upd H1 p (.lst xs))
theorem bj2 {x1} (h:PA X es t):PE X (.Tuple es x1 pos) (cu8 t):=by
 intro pins s σ H Q I hq
 refine wpAny_Tuple_spliced (thn (h pos pins s σ H _ I hq) fun us s1 ⟨xs,H1,I1,r,z,q⟩=>⟨by rw [<- r.length];exact z,?_⟩)
 have hf:H1 s1.heap.objs.size=none:=I1.hok.fresh (ac _)
 refine⟨.ref s1.heap.objs.size,upd H1 s1.heap.objs.size (.tup xs),I1.laid (t':=s1.toks) (fun b u e=>ag _ e) (ac _) ?_,rfl,q _ hf⟩
 exact⟨z,us,r,⟨_,aF _ rfl,rfl,_,rfl⟩⟩
theorem bi8 (h:PA X es t):PE X (.List es pos) (cu3 t):=by
 intro pins s σ H Q I hq
 refine wpAny_List_spliced (thn (h pos pins s σ H _ I hq) fun us s1 ⟨xs,H1,I1,r,z,q⟩=>⟨by rw [<- r.length];exact z,?_⟩)
 have hf:H1 s1.heap.objs.size=none:=I1.hok.fresh (ac _)
 refine⟨.ref s1.heap.objs.size,upd H1 s1.heap.objs.size (.lst xs),I1.laid (t':=s1.toks) (fun b u e=>ag _ e) (ac _) ?_,rfl,q _ hf⟩
 exact⟨z,us,0,r,aF _ rfl⟩
end
noncomputable abbrev Sp:=List V->Hp->VK->XK->Prop
noncomputable abbrev CXT:=List Env->Hp->ah->XK->Value->ah->Prop
structure Env0 (P:aH) (w:bh) (K:aa) (mg:Str->Option Value) (base:Heap) (A:a_) (outer:List Env) (s:ah) (H:Hp):Prop where
 frames:A.frames=some outer
 mod:Mod K mg base
 bs:∀ b o,base.get? b=some o->s.heap.get? b=some o/\H b=none
 bsz:base.objs.size<=s.heap.objs.size
 funs:s.heap.FunFrames base outer
 frf:∀ b∈frs outer,H b=none
 hok:HOk P w H s.heap
 bare:gN s.gens
 tk:Us K s.toks
noncomputable def CE (outer:List Env) (P:aH) (w:bh) (H:Hp) (s:ah) (Q:VK) (u:Value) (s':ah):Prop:=
 ∃ v H',(s'.os=s.os/\s.toks<=s'.toks)/\gN s'.gens/\Un (frs outer) [] H H' s.heap s'.heap/\HOk P w H' s'.heap/\RelV v u/\Q v H'
noncomputable def CR (CX:CXT) (outer:List Env) (P:aH) (w:bh) (H:Hp) (s:ah) (Q:VK) (E:XK) (r:jB) (s':ah):Prop:=
 match r with
 | .ok (.ret u)=>CE outer P w H s Q u s'
 | .ok _=>False
 | .error e=>CX outer H s E e s'
structure FnOk (P:aH) (w:bh) (K:aa) (mg:Str->Option Value) (base:Heap) (CX:CXT) (k:Nat) (f:Addr) (fd:ai) (ps:List Str) (sp:Sp):Prop where
 len:∀ vs H Q E,sp vs H Q E->vs.length=ps.length
 run:∀ (A:a_) (outer:List Env) (s:ah) (H:Hp) (args:Args) (us:List Value) (vs:List V) (Q:VK) (E:XK),Room k A->Env0 P w K mg base A outer s H->jK s fd args (ps.zip us)->Vals vs us->sp vs H Q E ->
  eB (model P w) A (.call (.ref f) args) (CR CX outer P w H s Q E) s
theorem FnOk.imp {P:aH} {w:bh} {K:aa} {mg:Str->Option Value} {base:Heap} {CX:CXT} {k:Nat} {f:Addr} {fd:ai} {ps:List Str} {sp sp':Sp} (F:FnOk P w K mg base CX k f fd ps sp)
  (h:∀ vs H Q E,sp' vs H Q E->sp vs H Q E):FnOk P w K mg base CX k f fd ps sp':=
 ⟨fun vs H Q E q=>F.len vs H Q E (h _ _ _ _ q),fun A outer s H args us vs Q E hr he hb hv hs=>F.run A outer s H args us vs Q E hr he hb hv (h _ _ _ _ hs)⟩
theorem Env0.make {P:aH} {w:bh} {K:aa} {mg:Str->Option Value} {base:Heap} {A:a_} {outer:List Env} {s:ah} {H:Hp} (e:Env0 P w K mg base A outer s H) (C:Addr) (us:List Value) (kw:List (Str×Value)) :
  Env0 P w K mg base (A.under (.builtin "type.__call__" ⟨.ref C::us,kw⟩)) outer s H:=⟨by first|exact e.frames|(simpa [jv,Code.envs,jx,pushEnvs] using e.frames),e.mod,e.bs,e.bsz,e.funs,e.frf,e.hok,e.bare,e.tk⟩
theorem Env0.in1 {P:aH} {w:bh} {K:aa} {mg:Str->Option Value} {base:Heap} {A:a_} {outer:List Env} {s:ah} {H:Hp} (e:Env0 P w K mg base A outer s H) :
  Env0 P w K mg base A.in1 outer s H:=⟨e.frames,e.mod,e.bs,e.bsz,e.funs,e.frf,e.hok,e.bare,e.tk⟩
section
variable {X:Cx} {pins:List (Addr×Obj)} {σ:St} {H:Hp} {s s':ah}
theorem Inv.env0 (I:Inv X pins σ H s):Env0 X.prog X.w X.K X.mg X.base X.A X.stack s H:=
 ⟨I.ok.frames,I.ok.mod,I.bs,aR I.ok.bsz I.sz,I.stack,I.stkFree,I.hok,I.bare,bv⟩
theorem Inv.after {Q:VK} {u:Value} (I:Inv X pins σ H s) (h:CE X.stack X.prog X.w H s Q u s'):EP X pins σ Q u s':=by
 obtain⟨v,H',os,bare,un,hok,r,q⟩:=h
 obtain⟨hh,g,d,t,os'⟩:=s'
 obtain rfl:os'=s.os:=os.1
 exact⟨v,H',I.call (h':=hh) (g':=g) (d':=d) (t':=t) (ch:=[]) un hok bare (fun b z=>absurd z (by simp)) os.2,r,q⟩
end
noncomputable def Binds (K:aa) (fd:ai) (ps:List Str) (ds:List Value):Prop:=
 ∀ (s:ah) (us:List Value),K.In s.heap->(us++ds).length=ps.length->jK s fd ⟨us,[]⟩ (ps.zip (us++ds))
theorem Binds.all {K:aa} {fd:ai} {ps:List Str} (h:∀ us:List Value,us.length=ps.length->jh fd ⟨us,[]⟩=pure (ps.zip us)):Binds K fd ps []:=fun s us _ hl=>by
 rw [cb] at hl ⊢
 exact .of_eq (h us hl)
section
variable {X:Cx} {CX:CXT} {k:Nat} {f C:Addr} {fd:ai} {ps:List Str} {sp:Sp} {dvs:List V} {ds:List Value} {E:XK} {x m:Str} {p pos apos:Pos} {e o:Expr} {es:List Expr} {ta:TE} {t:TA}
structure Mk (K:aa) (C f:Addr):Prop where
 makes:aS K C=true
 init:ae K (.ref C) "__init__" = some (some (.ref f))
 fn:bV K (.ref f)=true
 kp:aq K (.ref C)=true
end
section
variable {X:Cx} {CX:CXT} {k:Nat} {f C:Addr} {fd:ai} {ps ks:List Str} {sp:Sp} {E:XK} {x m:Str} {p pos apos kpos:Pos} {e o:Expr} {es:List Expr} {kws:List jM} {te ta:TE} {t tk:TA} {nm:Option Str}
variable {g:List Value->List Value->List Value} {gV:List V->List V->List V}
end
structure Aj (N P:List Str) (sc:Scope):Prop where
 kind:sc.kind=.function
 co:sc.isCoroutine=false
 gen:sc.isGenerator=false
 nd:N.Nodup
 pre:N.take P.length=P
 par:∀ x∈P,sc.names.lookup x=some .local\/sc.names.lookup x=some .cell
 nofree:∀ y∈sc.names,y.2≠.free
theorem Ln {kindOf:Str->Option b9} {x:Str}:∀ {binds:List (Str×Value)} {m:Str->Option Value},(∀ v,(x,v)∉binds)->bindL kindOf binds m x=m x
 | [],_,_=>rfl
 | (n,v)::r,m,h=>by
  unfold bindL
  rw [Ln fun w hw=>h w (ax _ hw)]
  split
  ·have:x≠n:=by rintro rfl;exact h v b8
   simp [this]
  ·rfl
theorem Ll {kindOf:Str->Option b9} {x:Str}:∀ {binds:List (Str×Value)} {m:Str->Option Value},(∀ v,(x,v)∉binds)->bindC kindOf binds m x=m x
 | [],_,_=>rfl
 | (n,v)::r,m,h=>by
  unfold bindC
  rw [Ll fun w hw=>h w (ax _ hw)]
  split
  ·rfl
  ·have:x≠n:=by rintro rfl;exact h v b8
   simp [this]
theorem Lm {kindOf:Str->Option b9} {x:Str} {v:Value}:∀ {P:List Str} {vs:List Value} {i:Nat} {m:Str->Option Value},P.Nodup->P[i]? = some x->vs[i]? = some v->kindOf x=some .local ->
  bindL kindOf (P.zip vs) m x=some v
 | [],_,_,_,_,h,_,_=>by simp at h
 | _::_,[],_,_,_,_,h,_=>by simp at h
 | p::P,w::vs,0,m,nd,h1,h2,hk=>by
  simp at h1 h2;subst h1;subst h2
  show bindL kindOf ((p,w)::P.zip vs) m p=_
  unfold bindL
  rw [Ln fun v hv=>(List.nodup_cons.mp nd).1 (ig hv).1,if_pos hk]
  simp
 | p::P,w::vs,i+1,m,nd,h1,h2,hk=>by
  show bindL kindOf ((p,w)::P.zip vs) m x=_
  unfold bindL
  exact Lm (i:=i) (List.nodup_cons.mp nd).2 (by simpa using h1) (by simpa using h2) hk
theorem Lk {kindOf:Str->Option b9} {x:Str} {v:Value}:∀ {P:List Str} {vs:List Value} {i:Nat} {m:Str->Option Value},P.Nodup->P[i]? = some x->vs[i]? = some v->kindOf x≠some .local ->
  bindC kindOf (P.zip vs) m x=some v
 | [],_,_,_,_,h,_,_=>by simp at h
 | _::_,[],_,_,_,_,h,_=>by simp at h
 | p::P,w::vs,0,m,nd,h1,h2,hk=>by
  simp at h1 h2;subst h1;subst h2
  show bindC kindOf ((p,w)::P.zip vs) m p=_
  unfold bindC
  rw [Ll fun v hv=>(List.nodup_cons.mp nd).1 (ig hv).1,if_neg hk]
  simp
 | p::P,w::vs,i+1,m,nd,h1,h2,hk=>by
  show bindC kindOf ((p,w)::P.zip vs) m x=_
  unfold bindC
  exact Lk (i:=i) (List.nodup_cons.mp nd).2 (by simpa using h1) (by simpa using h2) hk
noncomputable def E6 (N:List Str) (vs:List V):St:=vs.map some++iK (N.length - vs.length) none
noncomputable def Ij (CX:CXT) (P:aH) (w:bh) (K:aa) (mg:Str->Option Value) (base:Heap) (N:List Str) (qual:Str) (scope:Scope) (f:Addr) (cd:Value) (A:a_) (outer:List Env) (s:ah) (H:Hp) (E:XK):Cx where
 prog:=P
 w:=w
 K:=K
 mg:=mg
 base:=base
 A:=A.deeper (jE qual scope s.heap.objs.size f cd)
 N:=N
 s₀:=s
 H₀:=H
 env:=jE qual scope s.heap.objs.size f cd
 outer:=outer
 stack:=jE qual scope s.heap.objs.size f cd::outer
 ex:=[]
 calm:=true
 fn:=fun _=>true
 pn:=[]
 xe:=fun e s'=>aJ (model P w) (A.deeper (jE qual scope s.heap.objs.size f cd)) (leaving (jE qual scope s.heap.objs.size f cd) e) (fun _ s''=>CX outer H s E e s'') (fun e' s''=>CX outer H s E e' s'') s'
theorem Fl {sc:Scope} {n:Nat} {x:Str} (h:sc.names.lookup x=some .cell):∃ c,(cellsFrom n sc.names []).lookup x=some c:=by
 have q:=hZ sc.names n [] (.inl h)
 exact Option.isSome_iff_exists.mp q
theorem W1 {CX:CXT} {P:aH} {w:bh} {K:aa} {mg:Str->Option Value} {base:Heap} {N ps:List Str} {qual:Str} {scope:Scope} {f:Addr} {cd:Value} {A:a_} {outer:List Env} {s s1:ah} {H:Hp} {E:XK} {us:List Value} {vs:List V}
  (S:Aj N ps scope) (hd:A.handled=none) (e0:Env0 P w K mg base A outer s H) (htk:s.toks<=s1.toks) (hl:vs.length=ps.length) (r:Vals vs us)
  (x:InCallC s s.heap.objs.size (bindL (jE qual scope s.heap.objs.size f cd).kindOf (ps.zip us) fun _=>none) (cellsFrom (s.heap.objs.size+1) scope.names []) (bindC (jE qual scope s.heap.objs.size f cd).kindOf (ps.zip us) fun _=>none) s1) :
  Inv (Ij CX P w K mg base N qual scope f cd A outer s H E) [] (E6 N vs) H s1:=by
 have hpl:ps.length<=N.length:=by have:=congrArg iU S.pre;rw [bI] at this;omega
 obtain⟨h1,tk,rfl,hk⟩:=x.done
 have noA:∀ b:Addr,b∉(Ij CX P w K mg base N qual scope f cd A outer s H E).ex:=fun b z=>absurd (show b∈([]:List Addr) from z) (by simp)
 refine⟨⟨e0.mod,S.kind,rfl,rfl,ac _,fun y z c h1 h2=>?_,fun y hy=>?_,fun y c _ h=>?_,fun _=>hd,Around.frames_deeper e0.frames,.inr ⟨rfl,rfl⟩,fun b z=>absurd z (noA b),e0.bs,e0.bsz,fun b _ _=>noA b,fun b z=>absurd z (noA b),e0.funs,e0.frf,e0.tk⟩,
  ⟨rfl,htk⟩,e0.bare,Un.kept hk,⟨_,x.toInCall.ns,fun i y v h1 h2 h3=>?_⟩,fun y c h=>⟨_,x.cell y c h⟩,e0.hok.fresh (ac _),fun y c h=>?_,fun p hp=>absurd (show p∈([]:List (Addr×Obj)) from hp) (by simp),e0.hok.kept hk,?_⟩
 ·exact name_of_addr x.apart (bN h1) (bN h2)
 ·have hy:scope.names.lookup y=some .cell\/scope.names.lookup y=some .free:=hy
  rcases hy with hy|hy
  ·exact Fl hy
  ·exact absurd rfl (S.nofree _ (bN hy))
 ·exact fC (x.above y c (bN h))
 ·have hi:i<vs.length:=by
   unfold E6 at h2
   by_cases hi:i<vs.length
   ·exact hi
   ·rw [cr (by simpa using hi)] at h2
    rw [List.getElem?_replicate] at h2
    split at h2 <;> cases h2
  have ha:vs[i]? = some v:=by
   unfold E6 at h2
   rw [c6 (by simpa using hi),aP] at h2
   cases e:vs[i]? with
   | none=>rw [e] at h2;cases h2
   | some a=>rw [e] at h2;cases h2;rfl
  obtain⟨u,hu,rv⟩:=r.get ha
  have hp:ps[i]? = some y:=by
   rw [<- S.pre,List.getElem?_take_of_lt (by omega)];exact h1
  have ndP:ps.Nodup:=by rw [<- S.pre];exact S.nd.sublist (List.take_sublist _ _)
  refine⟨u,rv,?_⟩
  rcases S.par y (a9 hp) with k|k
  ·exact .inl ⟨k,Lm ndP hp hu k⟩
  ·obtain⟨c,e⟩:=Fl (n:=s.heap.objs.size+1) k
   refine .inr ⟨.inl k,c,e,?_⟩
   have q:=x.cell y c e
   rw [Lk ndP hp hu (by show scope.names.lookup y≠_;rw [k];decide)] at q
   exact q
 ·exact e0.hok.fresh (fC (x.above y c (bN h)))
 ·unfold E6
  show _=N.length
  rw [ay,aj,List.length_replicate]
  omega
theorem ax5 {CX:CXT} {P:aH} {w:bh} {K:aa} {mg:Str->Option Value} {base:Heap} {k:Nat} {f:Addr} {name qual:Str} {params:Arguments} {body:List Stmt} {scope:Scope} {dV kV doc pm cdv ct oc:Value} {an od:Option Addr}
  {osl:Array (Option Value)} {N ps:List Str} {sp:Sp} (lk:K.lookup f=some ⟨oc,od,.func (bB name qual params body scope dV kV doc pm an cdv ct),osl⟩) (hcd:ci K cdv qual=true) (S:Aj N ps scope)
  (len:∀ vs H Q E,sp vs H Q E->vs.length=ps.length)
  (hbody:∀ (A:a_) (outer:List Env) (s:ah) (H:Hp) (vs:List V) (Q:VK) (E:XK),Room k (A.deeper (jE qual scope s.heap.objs.size f cdv))->sp vs H Q E ->
   ∃ t,PSs (Ij CX P w K mg base N qual scope f cdv A outer s H E) body t/\t { nx:=fun _ H'=>Q .non H',rt:=Q } (E6 N vs) H) :
  FnOk P w K mg base CX (k+1) f (bB name qual params body scope dV kV doc pm an cdv ct) ps sp:=by
 refine⟨len,fun A outer s H args us vs Q E hr e0 hb r hsp=>?_⟩
 have hl:=len _ _ _ _ hsp
 have KX:K.In s.heap:=e0.mod.kin.keeps fun b o e=>(e0.bs b o e).1
 have lim:s.heap.NoLimit:=e0.mod.nolimit.keeps fun b o e=>(e0.bs b o e).1
 have hkind:∀ y∈ps.zip us,scope.names.lookup y.1=some .local\/(scope.names.lookup y.1=some .cell/\((cellsFrom (s.heap.objs.size+1) scope.names []).lookup y.1).isSome=true):=fun⟨n,v⟩ hy=>by
  rcases S.par n (ig hy).1 with q|q
  ·exact .inl q
  ·exact .inr ⟨q,hZ _ _ _ (.inl q)⟩
 refine codeAny_call_function hr.depth (KX _ _ lk) rfl S.co S.gen rfl (PySem.W.codeRec_of KX hcd) (hb _ _ _ _ ?_)
 refine bt (ac _) (wpAny_newFunctionEnv_cells S.kind hkind fun env he s1 x htk=>?_)
 subst he
 refine⟨lim.keeps x.toInCall.keep,codeAny_func ?_⟩
 obtain⟨t,ht,hq⟩:=hbody A outer s H vs Q E (hr.deeper _) hsp
 have I:Inv (Ij CX P w K mg base N qual scope f cdv A outer s H E) [] (E6 N vs) H s1:=W1 S hr.hd e0 htk hl r x
 refine bG (ht [] s1 (E6 N vs) H _ I hq) (fun fl s' hs=>?_) fun e s' hs=>hs
 have fin:∀ {σ':St} {H':Hp} {v:V} {u:Value},Inv (Ij CX P w K mg base N qual scope f cdv A outer s H E) [] σ' H' s'->RelV v u->Q v H'->CE outer P w H s Q u s':=
  fun {σ' H' v u} J rv q=>⟨v,H',J.os,J.bare,J.base,J.hok,rv,q⟩
 cases fl with
 | ret u=>
  obtain⟨v,σ',H',J,rv,q⟩:=hs
  exact fin J rv q
 | next=>
  obtain⟨σ',H',J,q⟩:=hs
  exact fin (v:=V.non) (u:=ba) J rfl q
 | brk=>
  obtain⟨_,_,_,q⟩:=hs
  exact bY q
 | cont=>
  obtain⟨_,_,_,q⟩:=hs
  exact bY q
section
variable {X:Cx} {x:Str} {p pos:Pos} {e:Expr} {es:List Expr} {t:TA} {id T:String} {r:List V->Hp->VK->Prop}
noncomputable def tCB (r:List V->Hp->VK->Prop) (t:TA):TE:=fun σ H Q=>t σ H fun vs H1=>r vs H1 Q
theorem ag5 (hc:Db X (.builtin id) r) (hg:Gl X x) (hm:X.mg x=none) (hv:cA x=some (.builtin id)) (ha:PA X (e::es) t) (hn:x ≠ "__name__" := by decide) (hdb:(x==("__debug__" : Str))=false:=by decide)
  (he:cD (e::es) X.env=(false,eval e X.env)::cD es X.env:=by rfl) (hpl:(iu pos (cD es X.env)).any (·.1)=false:=by rfl):PE X (.Call (.Name x p) (e::es) [] pos) (tCB r t):=by
 intro pins s σ H Q I h
 refine bT (Gv I hg hm hv ?_ hn hdb)
 exact PyProof.Rows.callWith_builtin1 (thn (ha pos pins s σ H _ I h) fun us s1 ⟨vs,H1,I1,r1,q1⟩=>hc pins s1 σ H1 vs us Q I1 r1 q1) he hpl
theorem Xe (hc:Db X (.type T) r) (hg:Gl X x) (hm:X.mg x=none) (hv:cA x=some (.type T)) (ha:PA X (e::es) t) (hn:x ≠ "__name__" := by decide) (hdb:(x==("__debug__" : Str))=false:=by decide)
  (he:cD (e::es) X.env=(false,eval e X.env)::cD es X.env:=by rfl) (hpl:(iu pos (cD es X.env)).any (·.1)=false:=by rfl):PE X (.Call (.Name x p) (e::es) [] pos) (tCB r t):=by
 intro pins s σ H Q I h
 refine bT (Gv I hg hm hv ?_ hn hdb)
 exact d6 (thn (ha pos pins s σ H _ I h) fun us s1 ⟨vs,H1,I1,r1,q1⟩=>hc pins s1 σ H1 vs us Q I1 r1 q1) he hpl
end
end L2
namespace HT
open PySem PyProof.Rows
section
open PySem.SeqAt
open PySem.AutoSeq1 (wpAny_loadPart')
open PySem.MeetsSeq PySem.MeetsSeq2 PySem.MeetsSeq3
end
section
variable {prog:aH} {w:bh} {A:a_} {E:Value->ah->Prop} {s:ah}
theorem cat_tup {t b:Addr} {vs ws:List Value} {Q:Value->ah->Prop} (ht:IsTup s.heap t vs.toArray) (hb:IsTup s.heap b ws.toArray) (hv:vs≠[])
  (h1:ws=[]->Q (.ref t) s) (h2:ws≠[]->Q (.ref s.heap.objs.size) { s with heap:=s.heap.push { cls:=.type "tuple", data:=.seq (vs++ws).toArray } })
  (hsz:vs.length+ws.length<=sizeLine):aJ (model prog w) A (eK .Add (.ref t) (.ref b)) Q E s:=by
 obtain⟨⟨cls,dd,data,sl⟩,ho,hc,n,hd⟩:=id ht
 obtain⟨⟨cls2,dd2,data2,sl2⟩,ho2,hc2,n2,hd2⟩:=id hb
 simp only at hc hd hc2 hd2
 subst hc hd hc2 hd2
 have e:vs.toArray++ws.toArray=(vs++ws).toArray:=by simp
 by_cases hw:ws=[]
 ·exact jD ⟨_,ho,rfl⟩ ⟨_,ho2,rfl⟩ g9 jl fm e_ (eR _ _)
   (tuple_addW1 t b vs.toArray ws.toArray n n2 dd dd2 sl sl2 (by simpa using hv) (by simp [hw])) ⟨ho,ho2,h1 hw⟩
 ·refine jD ⟨_,ho,rfl⟩ ⟨_,ho2,rfl⟩ g9 jl fm e_ (eR _ _)
   (tuple_addW2 t b vs.toArray ws.toArray n n2 dd dd2 sl sl2 (by simpa using hv) (by simpa using hw) (by rw [am,am];exact hsz)) ⟨ho,ho2,?_⟩
  rw [e]
  exact h2 hw
noncomputable def sIx (n d:Nat):Option Int->Nat
 | none=>d
 | some v=>if v<0 then (v+(n:Int)).toNat else min v.toNat n
theorem bs9 (n d:Nat) (hd:d<=n) (o:Option Int):sIx n d o<=n:=by
 cases o with
 | none=>exact hd
 | some v=>
  show (if v<0 then (v+(n:Int)).toNat else min v.toNat n)<=n
  by_cases hv:v<0
  ·rw [if_pos hv];omega
  ·rw [if_neg hv];exact Nat.min_le_right _ _
theorem U0 (v:Int) (n d:Nat):(if v<0 then max (v+(n:Int)) 0 else min v (n:Int))=((sIx n d (some v):Nat):Int):=by
 show (if v<0 then max (v+(n:Int)) 0 else min v (n:Int))=(((if v<0 then (v+(n:Int)).toNat else min v.toNat n):Nat):Int)
 by_cases hv:v<0
 ·simp only [if_pos hv];omega
 ·simp only [if_neg hv];omega
theorem Rh (lo hi:Option Int) (n:Nat):eC lo hi 1 (n:Int)=(((sIx n 0 lo:Nat):Int),((sIx n n hi:Nat):Int)):=by
 have h1:¬ ((1:Int)<0):=by omega
 unfold eC
 simp only [h1,if_false]
 refine Prod.ext ?_ ?_
 ·cases lo with
  | none=>rfl
  | some v=>exact U0 v n 0
 ·cases hi with
  | none=>rfl
  | some v=>exact U0 v n n
theorem Sh (i j:Nat):c5 (i:Int) (j:Int) 1=j - i:=by
 unfold c5
 have h1:(1:Int) > 0:=by omega
 simp only [h1,if_true,Int.ediv_one]
 split <;> omega
theorem K3 {v:Value} {o:Option Int} {Q:Option Int->ah->Prop} (p:jb v o) (h:Q o s):aJ (model prog w) A (Builtin.Slice.slicePartIndex v) Q E s:=by
 cases p with
 | none=>exact slicePart_none h
 | int i t=>exact slicePart_int h
theorem sliceApplied_gen {sl:Addr} {vl vu:Value} {lo hi:Option Int} {n:Nat} {Q:Int×Int×Nat->ah->Prop} (hs:s.heap.IsSliceOf sl vl vu .none) (pl:jb vl lo) (pu:jb vu hi)
  (h:Q (((sIx n 0 lo:Nat):Int),1,sIx n n hi - sIx n 0 lo) s):aJ (model prog w) A (gd (.ref sl) (pure (n:Int))) Q E s:=by
 obtain⟨os,hos,hcs,hds⟩:=id hs
 unfold gd Builtin.Slice.sliceFields
 refine af (af (cw hos hds (x:=vl) rfl (af (cw hos hds (x:=vu) rfl (af (cw hos hds (x:=.none) rfl (ar ?_)))))))
 refine af (slicePart_none ?_)
 show aJ _ _ (if ((1:Int)==0)=true then _ else _) _ _ s
 rw [if_neg (by decide)]
 refine af (K3 pl (af (K3 pu (af (ar ?_)))))
 show aJ _ _ (match eC lo hi 1 (n:Int) with|(lo,hi)=>pure (lo,(1:Int),c5 lo hi 1)) _ _ s
 rw [Rh lo hi n]
 show aJ _ _ (pure (((sIx n 0 lo:Nat):Int),(1:Int),c5 ((sIx n 0 lo:Nat):Int) ((sIx n n hi:Nat):Int) 1)) _ _ s
 rw [Sh]
 exact ar h
theorem ag8 (xs:Array Value) (i k:Nat):((cQ k).filterMap fun (m:Nat)=>xs[((i:Int)+(m:Int) * 1).toNat]?).toArray=((xs.toList.drop i).take k).toArray:=by
 have e:(fun (m:Nat)=>xs[((i:Int)+(m:Int) * 1).toNat]?)=fun m=>xs[i+m]?:=by
  funext m
  have:((i:Int)+(m:Int) * 1).toNat=i+m:=by omega
  rw [this]
 rw [e]
 have:=pick_run xs i k
 rw [List.filterMap_map] at this
 have e2:((fun x=>xs[x]?)∘fun x=>i+x)=fun m=>xs[i+m]?:=rfl
 rw [e2] at this
 rw [this]
theorem getItem_tuple_cut {t sl:Addr} {items:Array Value} {vl vu:Value} {lo hi:Option Int} {Q:Value->ah->Prop} (ht:IsTup s.heap t items) (hs:s.heap.IsSliceOf sl vl vu .none) (pl:jb vl lo) (pu:jb vu hi)
  (hw:¬ (sIx items.size 0 lo=0/\sIx items.size items.size hi=items.size))
  (h:Q (.ref s.heap.objs.size) { s with heap:=s.heap.push { cls:=.type "tuple", data:=.seq ((items.toList.drop (sIx items.size 0 lo)).take (sIx items.size items.size hi - sIx items.size 0 lo)).toArray } })
  (hsz:items.size<=sizeLine):aJ (model prog w) A (i8 (.ref t) (.ref sl)) Q E s:=by
 have htake:sizeOk (.seq ((items.toList.drop (sIx items.size 0 lo)).take (sIx items.size items.size hi - sIx items.size 0 lo)).toArray):=by
  show ((items.toList.drop (sIx items.size 0 lo)).take (sIx items.size items.size hi - sIx items.size 0 lo)).toArray.size<=sizeLine
  rw [am,bI,dJ,bU]
  omega
 have hj:sIx items.size items.size hi<=items.size:=bs9 _ _ (ac _) hi
 obtain⟨os,hos,hcs,hds⟩:=id hs
 have hTs:s.TypeIs (.ref sl) "slice" := ⟨os,hos,hcs⟩
 unfold i8
 try with_reducible refine bq ?_
 first|refine af (ar ?_)|skip
 refine af (wpAny_sequenceKey ht.typeIs (by decide) ?_)
 refine af (g6 (name:=d7 "__getitem__") ht.typeIs bJ
  (hG bJ ht.typeIs entry_tuple_getitem ?_ (args_tuple_getitem _ _)))
 show aJ _ _ (ge (.ref t) >>= _) _ _ s
 refine af (tupleItemsOf_ ht ?_)
 refine af (jH hTs ?_)
 rw [if_pos (by decide)]
 refine af (sliceApplied_gen hs pl pu ?_)
 have hno:¬ ((((sIx items.size 0 lo:Nat):Int)==0&&(1:Int)==1&&(sIx items.size items.size hi - sIx items.size 0 lo)==items.size)=true):=by
  intro q
  rw [aw,aw] at q
  have q1:((sIx items.size 0 lo:Nat):Int)=0:=bS q.1.1
  have q2:sIx items.size items.size hi - sIx items.size 0 lo=items.size:=bS q.2
  exact hw ⟨by omega,by omega⟩
 show aJ _ _ (if (((sIx items.size 0 lo:Nat):Int)==0&&(1:Int)==1&&(sIx items.size items.size hi - sIx items.size 0 lo)==items.size)=true then _ else _) _ _ s
 rw [if_neg hno,ag8]
 first
  | exact af (m:=c9 _) (dq (ar ⟨_,rfl,ar h⟩) htake)
  | exact af (m:=c9 _) (dq (af (ar (ar ⟨_,rfl,ar h⟩))) htake)
  | exact af (af (m:=c9 _) (dq (ar (ar ⟨_,rfl,ar h⟩)) htake))
  | exact af (af (m:=c9 _) (dq (ar ⟨_,rfl,ar h⟩) htake))
end
end HT
namespace L2
open PySem PySem.Spec PyProof.Rows
noncomputable abbrev TO:=St->Hp->(Option Int->Hp->Prop)->Prop
noncomputable def PO (X:Cx) (e:Option Expr) (t:TO):Prop:=
 ∀ (pins:List (Addr×Obj)) (s:ah) (σ:St) (H:Hp) (Q:Option Int->Hp->Prop),Inv X pins σ H s->t σ H Q ->
  aJ (model X.prog X.w) X.A (evalPart e X.env) (fun u s'=>∃ o H',Inv X pins σ H' s'/\jb u o/\Q o H') X.xe s
noncomputable def aw4:TO:=fun _ H Q=>Q none H
section
variable {X:Cx} {e:Expr} {te:TE} {lo hi:Option Expr} {tl th:TO} {pos p2:Pos}
theorem as7:PO X none aw4:=by
 intro pins s σ H Q I h
 rw [evalPart_none]
 exact ar ⟨none,H,I,.none,h⟩
noncomputable def SlR (X:Cx) (r:V->Option Int->Option Int->Hp->VK->Prop):Prop:=
 ∀ (pins:List (Addr×Obj)) (s:ah) (σ:St) (H:Hp) (x:V) (v vl vu:Value) (lo hi:Option Int) (sl:Addr) (Q:VK),Inv X pins σ H s->RelV x v->s.heap.IsSliceOf sl vl vu .none->jb vl lo->jb vu hi->r x lo hi H Q ->
  ∃ T id,eV (.type T) "__getitem__" = pure (some (.builtin id))/\s.TypeIs v T/\aJ (model X.prog X.w) X.A (i8 v (.ref sl)) (EP X pins σ Q) X.xe s
noncomputable def Gn (xs:List V) (lo hi:Option Int):List V:=(xs.drop (HT.sIx xs.length 0 lo)).take (HT.sIx xs.length xs.length hi - HT.sIx xs.length 0 lo)
theorem G9 (xs:List V) (lo hi:Option Int):(Gn xs lo hi).length<=xs.length:=by
 unfold Gn
 rw [bI,dJ]
 omega
noncomputable def ct8 (K:aa):V->Option Int->Option Int->Hp->VK->Prop:=fun x lo hi H Q=>∃ a xs,x=.ref a/\SqT K H a xs /\
 ¬ (HT.sIx xs.length 0 lo=0/\HT.sIx xs.length xs.length hi=xs.length) /\ ∀ p,H p=none->Q (.ref p) (upd H p (.tup (Gn xs lo hi)))
theorem by3:SlR X (ct8 X.K):=by
 intro pins s σ H x v vl vu lo hi sl Q I rx hs pl pu h
 obtain⟨a,xs,rfl,hx,hw,q⟩:=h
 cases rx
 obtain⟨its,r,ht,hz⟩:=I.tuple hx
 have hlen:its.toArray.size=xs.length:=by rw [am];exact r.length.symm
 refine⟨"tuple", _,PyProof.Rows.slot_tuple_getitem.lookup,ht.typeIs,?_⟩
 refine HT.getItem_tuple_cut ht hs pl pu (by rw [hlen];exact hw) ?_ (by rw [hlen];exact hz)
 rw [hlen]
 refine⟨.ref s.heap.objs.size,_,I.laid (t':=s.toks) (o:=.tup (Gn xs lo hi)) (fun b ob q=>ag _ q) (ac _) ?_,rfl,q _ (I.hok.fresh (ac _))⟩
 exact⟨aR (G9 xs lo hi) hz,_,(r.drop (HT.sIx xs.length 0 lo)).take (HT.sIx xs.length xs.length hi - HT.sIx xs.length 0 lo),IsTup.new _ _⟩
noncomputable def a23 (K:aa):R2:=fun x y H Q=>∃ a b xs ys,x=.ref a/\y=.ref b/\SqT K H a xs/\SqT K H b ys/\xs≠[]/\xs.length+ys.length<=sizeLine /\
 (ys=[]->Q (.ref a) H)/\(ys≠[] -> ∀ p,H p=none->Q (.ref p) (upd H p (.tup (xs++ys))))
theorem Vals.nil_iff {xs:List V} {us:List Value} (r:Vals xs us):us=[] ↔ xs=[]:=by
 cases r with
 | nil=>simp
 | cons _ _=>simp
theorem op_catT:OpR X (eK .Add) (a23 X.K):=by
 intro pins s σ H x y v u Q I rx ry h
 obtain⟨a,b,xs,ys,rfl,rfl,ha,hb,hx,hz,q1,q2⟩:=h
 cases rx
 cases ry
 obtain⟨its,r1,p1,_⟩:=I.tuple ha
 obtain⟨its2,r2,p2,_⟩:=I.tuple hb
 refine HT.cat_tup p1 p2 (fun z=>hx (r1.nil_iff.mp z)) (fun z=>⟨.ref a,H,I,rfl,q1 (r2.nil_iff.mp z)⟩) (fun z=>?_) (by rw [<- r1.length,<- r2.length];exact hz)
 refine⟨.ref s.heap.objs.size,_,I.laid (t':=s.toks) (o:=.tup (xs++ys)) (fun b ob q=>ag _ q) (ac _) ?_,rfl,q2 (fun w=>z (r2.nil_iff.mpr w)) _ (I.hok.fresh (ac _))⟩
 exact⟨by rw [ay];exact hz,_,r1.append r2,IsTup.new _ _⟩
end
noncomputable def ixN (n:Nat) (i:Int):Option Nat:=if 0<=i then (if i<n then some i.toNat else none) else if -(n:Int)<=i then some (i+n).toNat else none
noncomputable def atI {α:Type} (xs:List α) (i:Int):Option α:=(ixN xs.length i).bind fun j=>xs[j]?
theorem Vj {n:Nat} {i:Int} {j:Nat} (h:ixN n i=some j):seqIndex? i n=some j/\j<n /\ -(n:Int)<=i/\i<n:=by
 unfold ixN at h
 by_cases h0:0<=i
 ·rw [if_pos h0] at h
  by_cases h1:i<n
  ·rw [if_pos h1] at h
   have e:i.toNat=j:=aN h
   exact⟨by rw [jT h0 h1,e],by omega,by omega,h1⟩
  ·rw [if_neg h1] at h;cases h
 ·rw [if_neg h0] at h
  by_cases h1:-(n:Int)<=i
  ·rw [if_pos h1] at h
   have e:(i+n).toNat=j:=aN h
   exact⟨by rw [jF (by omega) h1,e],by omega,h1,by omega⟩
  ·rw [if_neg h1] at h;cases h
theorem Mr {α:Type} {xs:List α} {i:Int} {v:α} (h:atI xs i=some v):∃ j,seqIndex? i xs.length=some j/\xs[j]? = some v/\j<xs.length /\ -(xs.length:Int)<=i/\i<xs.length:=by
 unfold atI at h
 cases e:ixN xs.length i with
 | none=>rw [e] at h;cases h
 | some j=>
  rw [e] at h
  obtain⟨h1,h2,h3,h4⟩:=Vj e
  exact⟨j,h1,h,h2,h3,h4⟩
theorem P4 {α:Type} (xs:List α) (v:α):atI (xs++[v]) (-1)=some v:=by
 have hl:(xs++[v]).length=xs.length+1:=by simp
 have e:ixN (xs++[v]).length (-1)=some xs.length:=by
  unfold ixN
  rw [hl,if_neg (by decide),if_pos (by omega)]
  congr 1
  omega
 unfold atI
 rw [e]
 show (xs++[v])[xs.length]? = some v
 simp
noncomputable def Uq (b:Expr):Prop:=∀ o i,subscripted b false o i=operate [o,i] (i8 o i)
noncomputable def IxR (X:Cx) (r:R2):Prop:=
 ∀ (value slice:Expr) (pins:List (Addr×Obj)) (s:ah) (σ:St) (H:Hp) (x y:V) (v u:Value) (Q:VK),Inv X pins σ H s->RelV x v->RelV y u->r x y H Q ->
  subscripted slice false v u=operate [v,u] (i8 v u)->aJ (model X.prog X.w) X.A (jm value slice v u) (EP X pins σ Q) X.xe s
noncomputable def MtR (X:Cx) (id:String) (r:V->List V->Hp->VK->Prop):Prop:=
 ∀ (pins:List (Addr×Obj)) (s:ah) (σ:St) (H:Hp) (x:V) (xs:List V) (v:Value) (us:List Value) (Q:VK),Inv X pins σ H s->RelV x v->Vals xs us->r x xs H Q ->
  aJ (model X.prog X.w) X.A (call (.builtin id) (v::us)) (EP X pins σ Q) X.xe s
section
variable {X:Cx} {a b:Expr} {ta tb:TE} {pos:Pos}
theorem cb6 {r:R2} (hr:IxR X r) (ha:PE X a ta) (hb:PE X b tb) (hs:Uq b):PE X (.Subscript a b pos) (tOp r ta tb):=by
 intro pins s σ H Q I h
 exact Subscript_ (a92 ha hb I h fun v u s2 x y H2 I2 rx ry q=>hr a b pins s2 σ H2 x y v u Q I2 rx ry q (hs _ _))
noncomputable def ct2 (K:aa):R2:=fun x y H Q=>∃ p xs i v,x=.ref p/\y=.int i/\SqL K H p xs/\atI xs i=some v/\Q v H
noncomputable def ct4 (K:aa):R2:=fun x y H Q=>∃ p xs i v,x=.ref p/\y=.int i/\SqT K H p xs/\atI xs i=some v/\Q v H
noncomputable def ct3:R2:=fun x y H Q=>∃ z i c,x=.str z/\y=.int i/\z.length<=sizeLine/\atI z.cps.toList i=some c/\Q (.str ⟨#[c]⟩) H
theorem aq5:IxR X (ct2 X.K):=by
 intro value slice pins s σ H x y v u Q I rx ry h hs
 obtain⟨p,xs,i,z,rfl,rfl,hq,he,q⟩:=h
 cases rx
 obtain⟨t,rfl⟩:=ry
 obtain⟨its,r,pl,hz⟩:=I.list hq
 obtain⟨j,h1,h2,h3,h4,h5⟩:=Mr he
 obtain⟨w,ew,rw'⟩:=r.get h2
 have hl:=r.length
 have hn:=Fc
 have fin:EP X pins σ Q w s:=⟨z,H,I,rw',q⟩
 by_cases h0:0<=i
 ·have hj:i.toNat=j:=by
   rw [jT h0 h5] at h1
   exact aN h1
  exact item_listR pl.isList h0 (by omega) (by rw [hj];simpa using ew) fin hs
 ·have hj:(i+(its.toArray.size:Int)).toNat=j:=by
   rw [jF (by omega) h4] at h1
   rw [am,<- hl]
   exact aN h1
  exact ia (x:=w) pl.isList.typeIs slot_list_getitem.lookup
   (wpAny_getItem_list_neg (Q:=fun r s'=>r=w/\EP X pins σ Q r s') pl.isList (by omega) (by rw [am] <;> omega) (by omega) (by rw [hj];simpa using ew) ⟨rfl,fin⟩) hs
theorem bb8:IxR X (ct4 X.K):=by
 intro value slice pins s σ H x y v u Q I rx ry h hs
 obtain⟨p,xs,i,z,rfl,rfl,hq,he,q⟩:=h
 cases rx
 obtain⟨t,rfl⟩:=ry
 obtain⟨its,r,pl,hz⟩:=I.tuple hq
 obtain⟨j,h1,h2,h3,h4,h5⟩:=Mr he
 obtain⟨w,ew,rw'⟩:=r.get h2
 have hl:=r.length
 have hn:=Fc
 have fin:EP X pins σ Q w s:=⟨z,H,I,rw',q⟩
 exact ia (x:=w) pl.typeIs slot_tuple_getitem.lookup
  (getItem_tuple (j:=j) (Q:=fun r s'=>r=w/\EP X pins σ Q r s') pl (by omega) (by omega) (by rw [am,<- hl];exact h1) (by simpa using ew) ⟨rfl,fin⟩) hs
theorem bb7:IxR X ct3:=by
 intro value slice pins s σ H x y v u Q I rx ry h hs
 obtain⟨z,i,c,rfl,rfl,hz,he,q⟩:=h
 obtain⟨t,rfl⟩:=rx
 obtain⟨t',rfl⟩:=ry
 obtain⟨j,h1,h2,h3,h4,h5⟩:=Mr he
 have hl:z.cps.toList.length=z.length:=by simp [jq]
 rw [hl] at h1 h4 h5
 have hn:=Fc
 exact j7 (typeIs_str s z t) slot_str_getitem.lookup (getItem_str (c:=c) (by
  have e1:decide (i < -(2 ^ 63:Int))=false:=decide_eq_false (by omega)
  have e2:decide (i ≥ 2 ^ 63)=false:=decide_eq_false (by omega)
  rw [e1,e2,Bool.or_false]) (by rw [h1];simpa using h2) ⟨.str ⟨#[c]⟩,H,I.tok _,⟨_,rfl⟩,q⟩) hs
theorem R6 (its:List Value) (n j:Nat) (u:Value):aT (·.setIfInBounds j u) { cls:=.type "list", data:=.seq its.toArray n }={ cls:=.type "list", data:=.seq (its.set j u).toArray n }:=by
 simp [aT]
theorem Inv.lst {pins:List (Addr×Obj)} {σ:St} {H:Hp} {s:ah} {p:Addr} {xs:List V} (I:Inv X pins σ H s) (h:H p=some (.lst xs)) :
  ∃ (its:List Value) (n:Nat),Vals xs its/\s.heap.get? p=some { cls:=.type "list", data:=.seq its.toArray n }/\xs.length<=sizeLine:=by
 obtain⟨z,its,n,r,e⟩:=I.hok p _ h
 exact⟨its,n,r,e,z⟩
theorem Inv.lstUpd {pins:List (Addr×Obj)} {σ:St} {H:Hp} {s:ah} {p:Addr} {xs ys:List V} {its its':List Value} {n n':Nat} {f:Obj->Obj} (I:Inv X pins σ H s) (h:H p=some (.lst xs))
  (ho:s.heap.get? p=some { cls:=.type "list", data:=.seq its.toArray n }) (hf:f { cls:=.type "list", data:=.seq its.toArray n }={ cls:=.type "list", data:=.seq its'.toArray n' }) (r:Vals ys its') (hz:ys.length<=sizeLine) (t:Nat) (ht:s.toks<=t:=by first|exact ac _|exact bc _ _|assumption|omega|(dsimp only;omega)) :
  Inv X pins σ (upd H p (.lst ys)) { s with heap:=s.heap.update p f,toks:=t }:=by
 have e:(s.heap.update p f).get? p=some { cls:=.type "list", data:=.seq its'.toArray n' }:=by
  rw [bM f ho (by rw [hf] <;> rfl),hf]
 refine I.write (x:=p) (e:=p) (by rw [h];trivial) (.inl rfl) (fun b u hb q=>(aY _ _ (cz hb)).trans q) ⟨_,e⟩ ?_
 exact⟨hz,its',n',r,e⟩
noncomputable def cd2:V->V->V->Hp->(Hp->Prop)->Prop:=fun o i v H Q=>∃ p xs k j,o=.ref p/\i=.int k/\H p=some (.lst xs)/\ixN xs.length k=some j/\Q (upd H p (.lst (xs.set j v)))
theorem ak0:a88 X cd2:=by
 intro pins s σ H o i v ov iv u Q I ro ri rv h
 obtain⟨p,xs,k,j,rfl,rfl,hp,hj,q⟩:=h
 cases ro
 obtain⟨t,rfl⟩:=ri
 obtain⟨its,n,r,ho,hz⟩:=I.lst hp
 obtain⟨h1,h2,h3,h4⟩:=Vj hj
 have hl:=r.length
 have hn:=Fc
 have I':Inv X pins σ (upd H p (.lst (xs.set j v))) { s with heap:=s.heap.update p (aT (·.setIfInBounds j u)) }:=
  I.lstUpd hp ho (R6 its n j u) (r.set rv j) (by rw [fV];exact hz) s.toks
 by_cases h0:0<=k
 ·have hk:k.toNat=j:=by
   rw [jT h0 h4] at h1
   exact aN h1
  exact PySem.W.ki_setAt ho h0 (by omega) (by rw [am,<- hl];exact h4) (by rw [hk];exact⟨_,I',q⟩)
 ·have hk:(k+(its.toArray.size:Int)).toNat=j:=by
   rw [jF (by omega) h3] at h1
   rw [am,<- hl]
   exact aN h1
  exact PySem.W.ki_setBack ho (by omega) (by rw [am,<- hl];exact h3) (by omega) (by rw [hk];exact⟨_,I',q⟩)
theorem Nw (lo hi:Option Int) (n:Nat):(fw lo hi none n).1=((HT.sIx n 0 lo:Nat):Int)/\(fw lo hi none n).2.1=((HT.sIx n n hi:Nat):Int)/\(fw lo hi none n).2.2=1:=by
 refine⟨?_,?_,rfl⟩
 ·cases lo with
  | none=>simp [fw,HT.sIx]
  | some i=>
   simp only [fw,HT.sIx,Option.getD_none,show (1:Int) > 0 by decide,if_true]
   by_cases h:i<0
   ·simp only [h,if_true] <;> omega
   ·simp only [h,if_false] <;> omega
 ·cases hi with
  | none=>simp [fw,HT.sIx]
  | some i=>
   simp only [fw,HT.sIx,Option.getD_none,show (1:Int) > 0 by decide,if_true]
   by_cases h:i<0
   ·simp only [h,if_true] <;> omega
   ·simp only [h,if_false] <;> omega
theorem Lg (its:List Value) (lo hi:Option Int):slicePick its.toArray lo hi none=((its.drop (HT.sIx its.length 0 lo)).take (HT.sIx its.length its.length hi - HT.sIx its.length 0 lo)).toArray:=by
 obtain⟨h1,h2,h3⟩:=Nw lo hi its.toArray.size
 unfold slicePick
 rw [h1,h2,h3]
 simp only [sliceRange_one,pick_run,am] <;> rfl
noncomputable def ct7 (K:aa):V->Option Int->Option Int->Hp->VK->Prop:=fun x lo hi H Q=>∃ a xs,x=.ref a/\SqL K H a xs /\ ∀ p,H p=none->Q (.ref p) (upd H p (.lst (Gn xs lo hi)))
theorem av7:SlR X (ct7 X.K):=by
 intro pins s σ H x v vl vu lo hi sl Q I rx hs pl pu h
 obtain⟨a,xs,rfl,hx,q⟩:=h
 cases rx
 obtain⟨its,r,ht,hz⟩:=I.list hx
 have hlen:=r.length
 refine⟨"list", _,slot_list_getitem.lookup,ht.isList.typeIs,?_⟩
 refine wpAny_getItem_list_slice ht.isList hs pl pu .none (by simp) ?_ (by rw [am] <;> omega)
 rw [Lg,<- hlen]
 refine⟨.ref s.heap.objs.size,_,I.laid (t':=s.toks) (o:=.lst (Gn xs lo hi)) (fun b ob q=>ag _ q) (ac _) ?_,rfl,q _ (I.hok.fresh (ac _))⟩
 exact⟨aR (G9 xs lo hi) hz,_,0,(r.drop (HT.sIx xs.length 0 lo)).take (HT.sIx xs.length xs.length hi - HT.sIx xs.length 0 lo),aF _ rfl⟩
noncomputable def Bj:V->Bool
 | .non=>true
 | .bl _=>true
 | .int _=>true
 | .str _=>true
 | _=>false
noncomputable def eqV:V->V->Bool
 | .non,.non=>true
 | .bl a,.bl b=>a==b
 | .bl a,.int b=>(if a then 1 else 0)==b
 | .int a,.bl b=>a==(if b then 1 else 0)
 | .int a,.int b=>a==b
 | .str a,.str b=>a==b
 | _,_=>false
theorem M3 {A:a_} {s:ah} {y x:V} {u v:Value} (ry:RelV y u) (rx:RelV x v) (fy:Bj y=true) (fx:Bj x=true):aZ A s u v (eqV y x):=by
 cases y with
 | non=>
  cases ry
  cases x with
  | non=>cases rx;exact SeqAt.EqAt.same _
  | bl b=>cases rx;exact SeqAt.EqAt.none_bool b
  | int b=>obtain⟨t,rfl⟩:=rx;exact iY b t
  | str b=>obtain⟨t,rfl⟩:=rx;exact iZ b t
  | _=>exact absurd (show false=true from fx) ak
 | bl a=>
  cases ry
  cases x with
  | non=>cases rx;exact SeqAt.EqAt.bool_none a
  | bl b=>cases rx;exact SeqAt.EqAt.bool_bool a b
  | int b=>obtain⟨t,rfl⟩:=rx;exact SeqAt.EqAt.bool_int a b t
  | str b=>obtain⟨t,rfl⟩:=rx;exact SeqAt.EqAt.bool_str a b t
  | _=>exact absurd (show false=true from fx) ak
 | int a=>
  obtain⟨t',rfl⟩:=ry
  cases x with
  | non=>cases rx;exact iX a t'
  | bl b=>cases rx;exact SeqAt.EqAt.int_bool a t' b
  | int b=>obtain⟨t,rfl⟩:=rx;exact SeqAt.EqAt.int_int a t' b t
  | str b=>obtain⟨t,rfl⟩:=rx;exact je a t' b t
  | _=>exact absurd (show false=true from fx) ak
 | str a=>
  obtain⟨t',rfl⟩:=ry
  cases x with
  | non=>cases rx;exact i4 a t'
  | bl b=>cases rx;exact SeqAt.EqAt.str_bool a t' b
  | int b=>obtain⟨t,rfl⟩:=rx;exact jf a t' b t
  | str b=>obtain⟨t,rfl⟩:=rx;exact SeqAt.EqAt.str_str a t' b t
  | _=>exact absurd (show false=true from fx) ak
 | _=>exact absurd (show false=true from fy) ak
noncomputable def eqU (x:V) (u:Value):Bool:=match u with
 | .none=>eqV .non x
 | .bool b=>eqV (.bl b) x
 | .int i _=>eqV (.int i) x
 | .str z _=>eqV (.str z) x
 | _=>false
theorem ac2 {x y:V} {u:Value} (r:RelV y u) (f:Bj y=true):eqU x u=eqV y x:=by
 cases y with
 | non=>cases r;rfl
 | bl b=>cases r;rfl
 | int i=>obtain⟨t,rfl⟩:=r;rfl
 | str z=>obtain⟨t,rfl⟩:=r;rfl
 | _=>exact absurd (show false=true from f) ak
theorem Fj {x:V}:∀ {xs:List V} {us:List Value},Vals xs us->xs.all Bj=true->us.any (eqU x)=xs.any fun y=>eqV y x
 | _,_,.nil,_=>rfl
 | y::xs,u::us,.cons r t,f=>by
  rw [bu,aw] at f
  rw [cT,cT,ac2 r f.1,Fj t f.2]
theorem El {A:a_} {s:ah} {x:V} {v:Value} (rx:RelV x v) (fx:Bj x=true):∀ {xs:List V} {us:List Value},Vals xs us->xs.all Bj=true -> ∀ u∈us,aZ A s u v (eqU x u)
 | _,_,.nil,_=>fun u hu=>by cases hu
 | y::xs,u::us,.cons r t,f=>fun u' hu=>by
  rw [bu,aw] at f
  rcases List.mem_cons.mp hu with rfl|hu
  ·rw [ac2 r f.1];exact M3 r rx f.1 fx
  ·exact El rx fx t f.2 u' hu
noncomputable def inV (x:V) (xs:List V):Bool:=xs.any fun y=>eqV y x
noncomputable def rIn (K:aa) (neg:Bool):R2:=fun x y H Q=>∃ p xs,y=.ref p/\(SqL K H p xs\/SqT K H p xs)/\Bj x=true/\xs.all Bj=true/\Q (.bl (if neg then !inV x xs else inV x xs)) H
theorem Mc:OpR X (b7 .In) (rIn X.K false):=by
 intro pins s σ H x y v u Q I rx ry h
 obtain⟨p,xs,rfl,hq,fx,fs,q⟩:=h
 cases ry
 rcases hq with hq|hq
 ·obtain⟨its,r,pl,hz⟩:=I.list hq
  refine SeqAt.in_listAt (eqU x) pl.isList (fun w hw=>El rx fx r fs w (by simpa using hw)) ⟨.bl _,H,I,rfl,?_⟩
  rw [show its.toArray.any (eqU x)=its.any (eqU x) by simp,Fj r fs]
  exact q
 ·obtain⟨its,r,pl,hz⟩:=I.tuple hq
  refine SeqAt.in_tupleAt (eqU x) pl (fun w hw=>El rx fx r fs w (by simpa using hw)) ⟨.bl _,H,I,rfl,?_⟩
  rw [show its.toArray.any (eqU x)=its.any (eqU x) by simp,Fj r fs]
  exact q
theorem Ge:OpR X (b7 .NotIn) (rIn X.K true):=by
 intro pins s σ H x y v u Q I rx ry h
 obtain⟨p,xs,rfl,hq,fx,fs,q⟩:=h
 cases ry
 rcases hq with hq|hq
 ·obtain⟨its,r,pl,hz⟩:=I.list hq
  refine SeqAt.notIn_listAt (eqU x) pl.isList (fun w hw=>El rx fx r fs w (by simpa using hw)) ⟨.bl _,H,I,rfl,?_⟩
  rw [show its.toArray.any (eqU x)=its.any (eqU x) by simp,Fj r fs]
  exact q
 ·obtain⟨its,r,pl,hz⟩:=I.tuple hq
  refine SeqAt.notIn_tupleAt (eqU x) pl (fun w hw=>El rx fx r fs w (by simpa using hw)) ⟨.bl _,H,I,rfl,?_⟩
  rw [show its.toArray.any (eqU x)=its.any (eqU x) by simp,Fj r fs]
  exact q
theorem Mu:Db X (.builtin "len") (fun xs H Q=>∃ p ys,xs=[.ref p]/\(SqL X.K H p ys\/SqT X.K H p ys)/\Q (.int ys.length) H):=by
 intro pins s σ H xs us Q I r h
 obtain⟨p,ys,rfl,hq,q⟩:=h
 obtain⟨u,rfl,rx⟩:=Hg r
 cases rx
 have hn:=Fc
 rcases hq with hq|hq
 ·obtain⟨its,r',pl,hz⟩:=I.list hq
  have hlen:=r'.length
  exact Calls.call_len_list pl.isList (by simp only [am] <;> omega) ⟨.int ys.length,H,I.tok _,⟨s.toks+1,by rw [am,hlen]⟩,q⟩
 ·obtain⟨its,r',pl,hz⟩:=I.tuple hq
  have hlen:=r'.length
  exact len_tuple pl (by simp only [am] <;> omega) ⟨.int ys.length,H,I.tok _,⟨s.toks+1,by rw [am,hlen]⟩,q⟩
theorem Mv:Db X (.builtin "len") (fun xs H Q=>∃ z,xs=[.str z]/\z.length<=sizeLine/\Q (.int z.length) H):=by
 intro pins s σ H xs us Q I r h
 obtain⟨z,rfl,hz,q⟩:=h
 obtain⟨u,rfl,t,rfl⟩:=Hg r
 have hn:=Fc
 exact len_str (by omega) ⟨.int z.length,H,I.tok _,⟨_,rfl⟩,q⟩
noncomputable def tyV (K:aa) (T:String) (x:V) (H:Hp):Prop:=match x with
 | .str _=>T = "str"
 | .int _=>T = "int"
 | .ref p=>(T = "list" /\ ∃ xs,SqL K H p xs)\/(T = "tuple" /\ ∃ o,K.lookup p=some o/\o.cls=.type "tuple" /\ o.dict=none) \/
   (T = "dict" /\ ((∃ kvs,H p=some (.dK kvs)) \/ ∃ kvs,H p=some (.dT kvs)))\/(T = "set" /\ ∃ S n,H p=some (.set S n))
 | _=>False
theorem an6 {pins:List (Addr×Obj)} {σ:St} {H:Hp} {s:ah} {T:String} {x:V} {v:Value} (I:Inv X pins σ H s) (r:RelV x v) (ty:tyV X.K T x H) :
  s.TypeIs v T /\ ∀ a,v=.ref a -> ∃ ob,s.heap.get? a=some ob/\ob.dict=none:=by
 cases x with
 | str z=>
  obtain⟨t,rfl⟩:=r
  cases (show T = "str" from ty)
  exact⟨typeIs_str s z t,fun _ e=>nomatch e⟩
 | int i=>
  obtain⟨t,rfl⟩:=r
  cases (show T = "int" from ty)
  exact⟨typeIs_int s i t,fun _ e=>nomatch e⟩
 | ref p=>
  cases r
  rcases ty with ⟨rfl,xs,hq⟩|⟨rfl,o,hk,hc,hd⟩|⟨rfl,hk⟩|⟨rfl,S,n,hk⟩
  ·obtain⟨its,_,pl,_⟩:=I.list hq
   refine⟨pl.isList.typeIs,fun a e=>?_⟩
   cases e
   obtain⟨o,n,e,c,hd,_⟩:=pl
   exact⟨o,e,hd⟩
  ·refine⟨⟨o,I.kIn p o hk,hc⟩,fun a e=>?_⟩
   cases e
   exact⟨o,I.kIn _ o hk,hd⟩
  ·have z:∃ o,s.heap.get? p=some o/\o.ExactDict:=by
    rcases hk with ⟨kvs,hk⟩|⟨kvs,hk⟩
    ·obtain⟨_,_,_,_,o,_,_,e,ex,_⟩:=I.hok p _ hk
     exact⟨o,e,ex⟩
    ·obtain⟨_,_,_,_,o,_,_,e,ex,_⟩:=I.hok p _ hk
     exact⟨o,e,ex⟩
   obtain⟨o,e,ex⟩:=z
   refine⟨⟨o,e,ex.1⟩,fun a e2=>?_⟩
   cases e2
   exact⟨o,e,ex.2.1⟩
  ·obtain⟨o,_,_,_,e,ex,_⟩:=I.hok p _ hk
   refine⟨⟨o,e,ex.1⟩,fun a e2=>?_⟩
   cases e2
   exact⟨o,e,ex.2.1⟩
 | _=>exact bY ty
variable {o e:Expr} {es:List Expr} {to:TE} {t:TA} {name:Str} {apos cpos:Pos} {T id:String} {r:V->List V->Hp->VK->Prop}
end
noncomputable def MtM (X:Cx) (id:String) (r:V->List V->Hp->VK->Prop):Prop:=
 ∀ (pins:List (Addr×Obj)) (s:ah) (σ:St) (H:Hp) (x:V) (xs:List V) (v:Value) (us:List Value) (Q:VK),Inv X pins σ H s->RelV x v->Vals xs us->r x xs H Q ->
  aJ (model X.prog X.w) X.A (call (.builtin id) (v::us)) (EP X pins σ Q) X.xe s
theorem Vals.one:∀ {x:V} {us:List Value},Vals [x] us -> ∃ u,us=[u]/\RelV x u
 | _,_,.cons r .nil=>⟨_,rfl,r⟩
theorem Vals.two:∀ {x y:V} {us:List Value},Vals [x,y] us -> ∃ u v,us=[u,v]/\RelV x u/\RelV y v
 | _,_,_,.cons r (.cons q .nil)=>⟨_,_,rfl,r,q⟩
theorem Vals.zero:∀ {us:List Value},Vals [] us->us=[]
 | _,.nil=>rfl
theorem Vals.dropLast {xs:List V} {us:List Value} (h:Vals xs us):Vals xs.dropLast us.dropLast:=by
 induction h with
 | nil=>exact .nil
 | cons r t ih=>
  cases t with
  | nil=>exact .nil
  | cons q t'=>exact .cons r ih
theorem Vals.eraseIdx:∀ {xs:List V} {us:List Value} (i:Nat),Vals xs us->Vals (xs.eraseIdx i) (us.eraseIdx i)
 | _,_,_,.nil=>.nil
 | _,_,0,.cons _ t=>t
 | _,_,i+1,.cons r t=>.cons r (Vals.eraseIdx i t)
theorem Rr {α:Type} (l:List α):l.eraseIdx (l.length - 1)=l.dropLast:=by
 induction l with
 | nil=>rfl
 | cons a r ih=>
  cases r with
  | nil=>rfl
  | cons b r=>
   have e:(a::b::r).length - 1=((b::r).length - 1)+1:=by
    have h1:(a::b::r).length=r.length+2:=rfl
    have h2:(b::r).length=r.length+1:=rfl
    omega
   rw [e,List.eraseIdx_cons_succ,ih]
   all_goals rfl
theorem L9 {α:Type}:∀ (l:List α) (i:Nat),(l.eraseIdx i).length<=l.length
 | [],_=>ac _
 | _::_,0=>cN _
 | _::r,i+1=>Nat.succ_le_succ (L9 r i)
section
variable {X:Cx} {pins:List (Addr×Obj)} {σ:St} {H:Hp} {s:ah} {l b:Addr} {xs ys zs:List V}
theorem Inv.lset {its its':List Value} {n:Nat} {f:Array Value->Array Value} {t':Nat} (I:Inv X pins σ H s) (hH:H l=some (.lst xs))
  (e:s.heap.get? l=some { cls:=.type "list", data:=.seq its.toArray n }) (hf:f its.toArray=its'.toArray) (hv:Vals ys its') (hz:ys.length<=sizeLine) (ht:s.toks<=t':=by first|exact ac _|exact bc _ _|assumption|omega|(dsimp only;omega)) :
  Inv X pins σ (upd H l (.lst ys)) { s with heap:=s.heap.update l (aT f),toks:=t' }:=by
 have q:=PySem.IsL.update e f
 rw [hf] at q
 refine I.write (x:=l) (e:=l) (by rw [hH];exact trivial) (.inl rfl) (fun b' u hb hu=>(aY s.heap (aT f) (cz hb)).trans hu) ⟨_,q⟩ ?_
 exact⟨hz,its',_,hv,q⟩
theorem Inv.lnew {its:List Value} {t':Nat} (I:Inv X pins σ H s) (hv:Vals ys its) (hz:ys.length<=sizeLine) (ht:s.toks<=t':=by first|exact ac _|exact bc _ _|assumption|omega|(dsimp only;omega)) :
  Inv X pins σ (upd H s.heap.objs.size (.lst ys)) { s with heap:=s.heap.push { cls:=.type "list", data:=.seq its.toArray },toks:=t' }:=
 I.laid (fun _ _ q=>ag _ q) (ac _) ⟨hz,its,0,hv,aF _ rfl⟩ ht
theorem Inv.fresh (I:Inv X pins σ H s):H s.heap.objs.size=none:=I.hok.fresh (ac _)
theorem Inv.lstM (I:Inv X pins σ H s) (hH:H l=some (.lst xs)):xs.length<=sizeLine /\ ∃ (its:List Value) (n:Nat),Vals xs its/\xs.length=its.length/\s.heap.get? l=some { cls:=.type "list", data:=.seq its.toArray n }:=by
 obtain⟨z,its,n,r,e⟩:=I.hok l _ hH
 exact⟨z,its,n,r,r.length,e⟩
theorem af7 {n:Nat} (h:n<=sizeLine):eQ n=false:=by
 unfold eQ
 exact decide_eq_false (by omega)
end
section
variable {X:Cx}
noncomputable def Cg:V->List V->Hp->VK->Prop:=fun x vs H Q=>∃ l xs y,x=.ref l/\vs=[y]/\H l=some (.lst xs)/\xs.length<sizeLine/\Q .non (upd H l (.lst (xs++[y])))
theorem Ma:MtM X "list.append" Cg:=by
 intro pins s σ H x vs v us Q I rx rv h
 obtain⟨l,xs,y,rfl,rfl,hH,hz,q⟩:=h
 cases rx
 obtain⟨u,rfl,ru⟩:=rv.one
 obtain⟨z,its,n,r,hl,e⟩:=I.lstM hH
 refine gL F.slot_list_append ⟨_,e,rfl⟩ F.entry_list_append (F.args_list_append_2 _ _) (PySem.list_append l its.toArray n u (by rw [am];omega)) ⟨e,?_⟩
 refine⟨.non,_,I.lset (its':=its++[u]) hH e (by simp) (r.append (.cons ru .nil)) ?_,rfl,q⟩
 rw [ay,cy]
 omega
noncomputable def Hz:V->List V->Hp->VK->Prop:=fun x vs H Q=>∃ l b xs zs,x=.ref l/\vs=[.ref b]/\H l=some (.lst xs)/\H b=some (.lst zs)/\xs.length+zs.length<=sizeLine/\Q .non (upd H l (.lst (xs++zs)))
theorem W7:MtM X "list.extend" Hz:=by
 intro pins s σ H x vs v us Q I rx rv h
 obtain⟨l,b,xs,zs,rfl,rfl,hH,hB,hz,q⟩:=h
 cases rx
 obtain⟨u,rfl,ru⟩:=rv.one
 cases ru
 obtain⟨z,its,n,r,hl,e⟩:=I.lstM hH
 obtain⟨z2,its2,n2,r2,hl2,e2⟩:=I.lstM hB
 have hsz:its.toArray.size+its2.toArray.size<=sizeLine:=by rw [am,am];omega
 have hlong:¬ (!its.toArray.isEmpty&&eQ (its.toArray.size+its2.toArray.size))=true:=by
  rw [af7 hsz,gr]
  exact ak
 refine gL F.slot_list_extend ⟨_,e,rfl⟩ F.entry_list_extend (F.args_list_extend_2 _ _)
  (AutoSeq1.list_extend_list_list_0 l its.toArray n b its2.toArray n2 hlong (by rw [am];omega) (by omega)) ⟨e,e2,?_⟩
 refine⟨.non,_,I.lset (its':=its++its2) hH e (by simp) (r.append r2) ?_,rfl,q⟩
 rw [ay]
 omega
noncomputable def cd1:V->List V->Hp->VK->Prop:=fun x vs H Q=>∃ l xs y,x=.ref l/\vs=[]/\H l=some (.lst xs)/\xs[xs.length - 1]? = some y/\Q y (upd H l (.lst xs.dropLast))
theorem bc6:MtM X "list.pop" cd1:=by
 intro pins s σ H x vs v us Q I rx rv h
 obtain⟨l,xs,y,rfl,rfl,hH,hy,q⟩:=h
 cases rx
 have hus:=rv.zero
 subst hus
 obtain⟨z,its,n,r,hl,e⟩:=I.lstM hH
 obtain⟨u,hu,ru⟩:=r.get hy
 have hy':its.toArray[its.toArray.size - 1]? = some u:=by
  show its.toArray[its.length - 1]? = some u
  rw [<- cg,<- hl]
  exact hu
 refine gL F.slot_list_pop ⟨_,e,rfl⟩ F.entry_list_pop (F.args_list_pop_1 _) (MeetsSeq.list_pop_last l its.toArray n u hy' (by rw [am];omega)) ⟨e,?_⟩
 refine⟨y,_,I.lset (its':=its.dropLast) hH e ?_ r.dropLast ?_,ru,q⟩
 ·show its.toArray.eraseIdxIfInBounds (its.toArray.size - 1)=its.dropLast.toArray
  rw [am,fq,Rr]
 ·rw [List.length_dropLast]
  omega
noncomputable def aj3:V->List V->Hp->VK->Prop:=fun x vs H Q=>∃ l xs i k y,x=.ref l/\vs=[.int i]/\H l=some (.lst xs) /\ -(2 ^ 63)<=i/\i<2 ^ 63/\seqIndex? i xs.length=some k/\xs[k]? = some y/\Q y (upd H l (.lst (xs.eraseIdx k)))
theorem af2:MtM X "list.pop" aj3:=by
 intro pins s σ H x vs v us Q I rx rv h
 obtain⟨l,xs,i,k,y,rfl,rfl,hH,h1,h2,hk,hy,q⟩:=h
 cases rx
 obtain⟨u,rfl,ru⟩:=rv.one
 obtain⟨t,rfl⟩:=ru
 obtain⟨z,its,n,r,hl,e⟩:=I.lstM hH
 obtain⟨w,hw,rw'⟩:=r.get hy
 refine gL F.slot_list_pop ⟨_,e,rfl⟩ F.entry_list_pop (F.args_list_pop_2 _ _)
  (MeetsSeq.list_pop_at l its.toArray n i t k w (fitsIndex_both h1 h2) (by rw [am,<- hl];exact hk) (by rw [<- cg];exact hw) (by rw [am];omega)) ⟨e,?_⟩
 refine⟨y,_,I.lset (its':=its.eraseIdx k) hH e ?_ (r.eraseIdx k) ?_,rw',q⟩
 ·show its.toArray.eraseIdxIfInBounds k=(its.eraseIdx k).toArray
  rw [fq]
 ·have:=L9 xs k
  omega
noncomputable def cd0:R2:=fun x y H Q=>∃ l b xs zs,x=.ref l/\y=.ref b/\H l=some (.lst xs)/\H b=some (.lst zs)/\xs.length+zs.length<=sizeLine /\ ∀ p,H p=none->Q (.ref p) (upd H p (.lst (xs++zs)))
theorem op_cat:OpR X (eK .Add) cd0:=by
 intro pins s σ H x y v u Q I rx ry h
 obtain⟨l,b,xs,zs,rfl,rfl,hH,hB,hz,q⟩:=h
 cases rx
 cases ry
 obtain⟨z,its,n,r,hl,e⟩:=I.lstM hH
 obtain⟨z2,its2,n2,r2,hl2,e2⟩:=I.lstM hB
 refine PySem.P.add_list e e2 ?_ (by rw [am,am];omega)
 have ea:its.toArray++its2.toArray=(its++its2).toArray:=by simp
 rw [ea]
 exact⟨.ref _,_,I.lnew (t':=s.toks) (r.append r2) (by rw [ay];omega),rfl,q _ I.fresh⟩
end
section
variable {prog:aH} {w:bh} {A:a_} {E:Value->ah->Prop} {s:ah}
set_option maxRecDepth 100000 in
end
section
variable {X:Cx}
end
end L2
namespace Att
open PySem PySem.W PySem.Calls PyProof.Rows
theorem Hj {P:Params} {h:Heap}:∀ (ns:List Int) (vs:List Value),WellAll P h vs (ns.map WData.int)->jY vs ns:=by
 intro ns
 induction ns with
 | nil=>
  intro vs w
  rw [fB] at w
  cases w
  exact .nil
 | cons n ns ih=>
  intro vs w
  rw [aM] at w
  cases w with
  | cons a b=>
   cases a
   exact .cons _ _ (ih _ b)
theorem Xm {l:OpenLaw} {n:Nat} (hn:l.most=some n) {P:Params} {h:Heap} {args:List WData} {vals:List Value}
  (hpre:l.row.toRowW.claim.pre args=true) (hwl:WellAll P h vals args) :
  ∃ a vs ns,vals=[az a]/\args=[WData.list (ns.map WData.int)]/\h.get? a=some { cls:=.type "list", data:=.seq vs.toArray }/\jY vs ns/\ns.length<=n:=by
 have hsh:WShape.hasAll [] args [.list .int]=true:=(pre_splitW hpre).1
 have hc:l.pre.holds [] { args:=args }=true:=(pre_splitW hpre).2
 obtain⟨d,r,rfl,h1,h2⟩:=hasAllW_cons hsh
 obtain rfl:=hasAllW_nil h2
 obtain⟨xs,rfl,h3⟩:=hasW_list h1
 obtain⟨ns,rfl⟩:=items_int h3
 have hlen:ns.length<=n:=by
  unfold OpenLaw.pre at hc
  have h4:(WTm.not (.lt (.lit (.int (n:Int))) (.len (.arg 0)))).holds [] { args:=[.list (ns.map .int)] }=true:=by
   have h4:=(holds_andW hc).1
   rw [hn] at h4
   exact h4
  have h5:=condW_of h4 (w_not (w_lt w_lit (w_len_list (w_arg rfl))))
  rw [aj] at h5
  refine Nat.le_of_not_lt fun q=>?_
  have q':(n:Int)<((ns.length:Nat):Int):=by omega
  first
   | (rw [decide_eq_true q'] at h5;exact absurd h5 (by decide))
   | (simp at h5;omega)
 cases hwl with
 | cons w1 w2=>
  cases w2
  cases w1 with
  | list ho hall=>exact⟨_,_,ns,rfl,rfl,ho,Hj ns _ hall,hlen⟩
theorem Xg (l:OpenLaw) (args:List WData):l.row.toRowW.claim.post args (.bool true) args=true:=
 postW_of (r:=l.row.toRowW) (X:=(true==true))
  (show WShape.has [] (.bool true) .bool=true by first|rfl|decide|simp [WShape.has,WShape.arms,WShape.armsAll])
  (show (WTm.eq .res (.lit (.bool true))).value [] { args:=args,res:=some (.bool true),after:=args }=some (.bool (true==true)) from w_eq_bool (w_res rfl) w_lit) rfl
theorem attach_call {l:OpenLaw} {n:Nat} {q:aH} {loose:List Str} {XP:(Str->Option Value)->Heap->Prop} {YP:bh->Heap->Prop} {d:DefRec}
  (hn:l.most=some n) (hdf:d.params.defaults=[])
  (call:∀ (w:bh) (s₀ s₁:ah) (mg mb:Str->Option Value) (fa:Addr) (o:Obj) (pm cd doc:Value) (a:Addr) (vs:List Value) (ns:List Int),
   Ground q loose [] XP w s₀ mg mb s₁.heap->YP w s₁.heap ->
   s₁.heap.get? fa=some o->o.data=.func (docDef d.name d.params d.body d.scope pm cd doc)->s₁.heap.CodeRec cd d.name->mg d.name=some (.ref fa) ->
   s₁.heap.get? a=some { cls:=.type "list", data:=.seq vs.toArray }->jY vs ns->ns.length<=n->s₁.gens = #[] ->
   eB (model l.prog w) jr (.call (.ref fa) ⟨[.ref a],[]⟩) (fun r s'=>r=.ok (.ret (.bool true))/\OldK s₁.heap s'.heap/\s'.os=s₁.os/\gN s'.gens) s₁) :
  WalkO q loose XP YP l.row.toRowW d [] (fun f vs=>PySem.call f vs):=by
 intro w s₀ s₁ mg mb G Y fa o pm cd doc dV kV ho hd hcd hD hmg hg args vals as hpre hlay hrd hwl hlo
 obtain rfl:dV=.none:=Dflts.none hD hdf
 obtain rfl:kV=.none:=Dflts.noKw hD
 obtain⟨a,vs,ns,rfl,rfl,hobj,hints,hlen⟩:=Xm hn hpre hwl
 refine enter_call (eU (call w s₀ s₁ mg mb fa o pm cd doc a vs ns G Y ho (fd_plain hd) hcd hmg hobj hints hlen hg) fun r s' hq=>?_)
 obtain⟨rfl,h2,h3,h4⟩:=hq
 exact⟨.inl ⟨.bool true,.bool true,[],rfl,fun _=>rfl,.bool true,Xg l _,fun _=>⟨List.Pairwise.nil,fun _ hm=>(nomatch hm)⟩⟩,h2,h3,h4⟩
section
variable {prog:aH} {w:bh} {A:a_} {E:Value->ah->Prop} {s:ah} {K:Frag}
end
end Att
namespace L2
open PySem PySem.Spec PyProof.Rows
theorem Mp:∀ {vs:List Value} {ns:List Int},jY vs ns->Vals (ns.map V.int) vs
 | _,_,.nil=>.nil
 | _,_,.cons n t h=>.cons ⟨t,rfl⟩ (Mp h)
noncomputable def a87 (H:Hp):Prop:=∀ b,H b=none \/ ∃ o xs,H b=some (.frz o (.lst xs))
theorem ae4 {P:aH} {w:bh} {K:aa} {mg mb:Str->Option Value} {CX:CXT} {k:Nat} {fa a:Addr} {fd:ai} {x:Str} {sp:Sp} {s₁:ah} {vs:List Value} {ns:List Int}
  (KX:K.In s₁.heap) (hns:s₁.heap.Ns aG mg) (hb:s₁.heap.Ns builtinsNs mb) (hbb:∀ x:Str,x ≠ "__name__" -> mb x=cA x) (htk:Us K s₁.toks) (hlim:s₁.heap.NoLimit) (hg:s₁.gens = #[])
  (ha:s₁.heap.get? a=some { cls:=.type "list", data:=.seq vs.toArray }) (hi:jY vs ns) (hl:ns.length<=sizeLine) (hr:Room k jr)
  (F:∀ base:Heap,K.In base->base.Ns aG mg->FnOk P w K mg base CX k fa fd [x] sp) (hbind:∀ (s:ah) (u:Value),jK s fd ⟨[u],[]⟩ [(x,u)])
  (hsp:∀ H:Hp,a87 H->SqL K H a (ns.map V.int)->sp [.ref a] H (fun v _=>v=.bl true) fun _ _ _=>False)
  (hCX:∀ H e s',CX [] H s₁ (fun _ _ _=>False) e s'->False) :
  eB (model P w) jr (.call (.ref fa) ⟨[.ref a],[]⟩) (fun r s'=>r=.ok (.ret (.bool true))/\OldK s₁.heap s'.heap/\s'.os=s₁.os/\gN s'.gens) s₁:=by
 have rv:=Mp hi
 have lenV:=hi.length
 have core:∀ H:Hp,a87 H->SqL K H a (ns.map V.int)->HOk P w H s₁.heap->(∀ b,H b≠none->b=a)->(H a≠none->K.lookup a=none) ->
   eB (model P w) jr (.call (.ref fa) ⟨[.ref a],[]⟩) (fun r s'=>r=.ok (.ret (.bool true))/\OldK s₁.heap s'.heap/\s'.os=s₁.os/\gN s'.gens) s₁:=by
  intro H hO hS hok hA hK
  have base_of:∀ {b:Addr} {o:Obj},s₁.heap.get? b=some o->H b=none->(M7 s₁.heap H).get? b=some o:=fun e n=>ad4 e n
  have noA:∀ {b:Addr} {o:Obj} {es:Array DictEntry} {ep:Nat},s₁.heap.get? b=some o->o.data=.dict es ep->H b=none:=fun {b o es ep} e d=>by
   cases q:H b with
   | none=>rfl
   | some u=>
    have e':b=a:=hA b (by rw [q];simp)
    subst e'
    rw [ha] at e;cases e
    have d':Data.seq vs.toArray _=Data.dict es ep:=d
    cases d'
  have nsK:∀ {b:Addr} {m:Str->Option Value},s₁.heap.Ns b m->(M7 s₁.heap H).Ns b m:=fun {b m} ⟨o,es,ep,e,d,r⟩=>⟨o,es,ep,base_of e (noA e d),d,r⟩
  have hKb:K.In (M7 s₁.heap H):=fun b o e=>base_of (KX b o e) (by
   cases q:H b with
   | none=>rfl
   | some u=>
    have e':b=a:=hA b (by rw [q];simp)
    subst e'
    rw [hK (by rw [q];simp)] at e;cases e)
  have hM:Mod K mg (M7 s₁.heap H):=⟨hKb,nsK hns,⟨mb,nsK hb,hbb⟩,let ⟨mc,h1,h2⟩:=hlim;⟨mc,nsK h1,h2⟩⟩
  have e0:Env0 P w K mg (M7 s₁.heap H) jr [] s₁ H:=⟨rfl,hM,fun b o e=>ar5 e,jz (Wx _ _),trivial,fun b hb=>absurd (show b∈([]:List Addr) from hb) (by simp),hok,.of_eq hg,htk⟩
  refine eU ((F _ hKb (nsK hns)).run jr [] s₁ H ⟨[.ref a],[]⟩ [.ref a] [.ref a] _ _ hr e0 (hbind s₁ (.ref a)) (.cons rfl .nil) (hsp H hO hS)) fun r s' h=>?_
  cases r with
  | error e=>exact (hCX H e s' h).elim
  | ok fl=>
   cases fl with
   | next=>exact bY h
   | brk=>exact bY h
   | cont=>exact bY h
   | ret u=>
    obtain⟨v,H',os,bare,un,hok',r',q⟩:=h
    have q':v=.bl true:=q
    subst q'
    obtain rfl:u=fQ true:=r'
    refine⟨rfl,OldK.of_keep fun b o e=>?_,os.1,bare⟩
    cases q:H b with
    | none=>exact un.keep b o e q (by intro z;exact absurd (show b∈([]:List Addr) from z) (by simp)) (by simp)
    | some u=>
     rcases hO b with z|⟨ob,xs,z⟩
     ·rw [q] at z;cases z
     ·have z2:=un.frzs b ob _ z
      obtain⟨e1,_⟩:=hok b _ z
      obtain⟨e2,_⟩:=hok' b _ z2
      rw [e] at e1;cases e1
      exact e2
 cases hk:K.lookup a with
 | some o=>
  have e:=KX a o hk
  rw [ha] at e
  cases e
  refine core (fun _=>none) (fun _=>.inl rfl) (.inr ⟨_,vs.toArray,_,hk,rfl,rfl,rfl,by rw [am,lenV];exact hl,by rw [bO];intro v hv;obtain⟨i,_,rfl⟩:=List.mem_map.mp hv;rfl,by simpa using rv⟩) (fun b u z=>by have z':(none:Option HO)=some u:=z;cases z') (fun b z=>absurd rfl z) fun z=>absurd rfl z
 | none=>
  refine core (fun b=>if b=a then some (.frz { cls:=.type "list", data:=.seq vs.toArray } (.lst (ns.map V.int))) else none) (fun b=>?_) (.inl (.inr ⟨{ cls:=.type "list", data:=.seq vs.toArray },if_pos rfl⟩)) (fun b u z=>?_) (fun b z=>?_) fun _=>hk
  ·by_cases hb:b=a
   ·exact .inr ⟨_,_,if_pos hb⟩
   ·exact .inl (if_neg hb)
  ·by_cases hb:b=a
   ·have z':=(if_pos hb).symm.trans z
    cases z'
    subst hb
    exact⟨ha,by rw [aj];exact hl,vs,_,rv,ha⟩
   ·have z':=(if_neg hb).symm.trans z
    cases z'
  ·by_cases hb:b=a
   ·exact hb
   ·exact absurd (if_neg hb) z
theorem walk_of {l:im} {n k:Nat} {q:aH} {loose:List Str} {XP:(Str->Option Value)->Heap->Prop} {YP:bh->Heap->Prop} {d:DefRec} {K:Params->aa} {CX:bh->CXT} {sp:bh->Sp} {x:Str}
  (hT:∀ (w:bh) (m:Nat),Us (K w.params) m) (hn:l.most=some n) (hn2:n<=sizeLine) (hdf:d.params.defaults=[]) (hr:Room k jr)
  (hY:∀ (w:bh) (h:Heap),YP w h->(K w.params).In h)
  (F:∀ (w:bh) (mg:Str->Option Value) (fa:Addr) (h:Heap),(K w.params).In h->h.Ns aG mg->mg d.name=some (.ref fa) ->
   ∃ fd:ai,(∀ (s:ah) (u:Value),jK s fd ⟨[u],[]⟩ [(x,u)]) /\
    ∀ base:Heap,(K w.params).In base->base.Ns aG mg->FnOk l.prog w (K w.params) mg base (CX w) k fa fd [x] (sp w))
  (hsp:∀ (w:bh) (H:Hp) (a:Addr) (ns:List Int),ns.length<=n->a87 H->SqL (K w.params) H a (ns.map V.int)->sp w [.ref a] H (fun v _=>v=.bl true) fun _ _ _=>False)
  (hCX:∀ (w:bh) (H:Hp) (s:ah) (e:Value) (s':ah),CX w [] H s (fun _ _ _=>False) e s'->False) :
  PySem.W.WalkO q loose XP YP l.row.toRowW d [] (fun f vs=>PySem.call f vs):=by
 refine Att.attach_call hn hdf fun w s₀ s₁ mg mb fa o pm cd doc a vs ns G Y ho hd hcd hmg hobj hints hlen hg=>?_
 have KX:=hY w _ Y
 obtain⟨fd,hb,hF⟩:=F w mg fa _ KX G.T.g hmg
 exact ae4 KX G.T.g G.T.b G.T.builtins (hT _ _) G.T.nolimit hg hobj hints (aR hlen hn2) hr hF hb (fun H hO hS=>hsp w H a ns hlen hO hS) fun H e s'=>hCX w H s₁ e s'
end L2
namespace L2
open PySem PySem.Spec PyProof.Rows
noncomputable def Am (s:Stmt) (j:Nat):Stmt:=match s with
 | .ClassDef _ _ _ body _ _ _ _ _ _ _=>body.getD j (.Pass ⟨0,0,0,0⟩)
 | _=>.Pass ⟨0,0,0,0⟩
noncomputable def A7 (s:Stmt):Arguments:=match s with
 | .FunctionDef _ a _ _ _ _ _ _ _ _=>a
 | _=>{ posonlyargs:=[],args:=[],vararg:=none,kwonlyargs:=[],kw_defaults:=[],kwarg:=none,defaults:=[] }
noncomputable def Ag (s:Stmt):List Stmt:=match s with
 | .FunctionDef _ _ b _ _ _ _ _ _ _=>b
 | _=>[]
noncomputable def Aa (s:Stmt):Scope:=match s with
 | .FunctionDef _ _ _ _ _ _ sc _ _ _=>sc
 | _=>{ kind:=.function,names:=[],isGenerator:=false,isCoroutine:=false }
noncomputable abbrev CX0:CXT:=fun _ _ _ _ _ _=>False
structure Fun (K:aa) (x qual:Str) (st:Stmt) (f:Addr) (fd:ai):Prop where
 ex:∃ (oc:Value) (od:Option Addr) (kV doc pm:Value) (an:Option Addr) (cdv ct:Value) (osl:Array (Option Value)),
  fd=bB x qual (A7 st) (Ag st) (Aa st) .none kV doc pm an cdv ct/\K.lookup f=some ⟨oc,od,.func fd,osl⟩/\ci K cdv qual=true
 kp:aq K (.ref f)=true
section
variable {P:aH} {w:bh} {K:aa} {mg:Str->Option Value} {base:Heap}
theorem Fun.binds {x qual:Str} {st:Stmt} {f:Addr} {fd:ai} {ps:List Str} (F:Fun K x qual st f fd)
  (h:∀ (kV doc pm:Value) (an:Option Addr) (cdv ct:Value) (us:List Value),us.length=ps.length->jh (bB x qual (A7 st) (Ag st) (Aa st) .none kV doc pm an cdv ct) ⟨us,[]⟩=pure (ps.zip us)):Binds K fd ps []:=by
 obtain⟨oc,od,kV,doc,pm,an,cdv,ct,osl,rfl,lk,hcd⟩:=F.ex
 exact .all (h kV doc pm an cdv ct)
theorem Ru {x qual:Str} {st:Stmt} {f:Addr} {oc:Value} {od an:Option Addr} {osl:Array (Option Value)} {kV doc pm cdv ct:Value} (l:K.lookup f=some ⟨oc,od,.func (bB x qual (A7 st) (Ag st) (Aa st) .none kV doc pm an cdv ct),osl⟩)
  (c:ci K cdv qual=true) (k:aq K (.ref f)=true):Fun K x qual st f (bB x qual (A7 st) (Ag st) (Aa st) .none kV doc pm an cdv ct):=⟨⟨oc,od,kV,doc,pm,an,cdv,ct,osl,rfl,l,c⟩,k⟩
end
section
variable {X:Cx}
end
theorem Hk {A B:Prop} (h:B):if false=true then A else B:=by
 rw [if_neg ak]
 exact h
theorem M8 {A B:Prop} (h:A):if true=true then A else B:=by
 rw [if_pos rfl]
 exact h
theorem Bo {c A B:Prop} [Decidable c] (h1:c->A) (h2:¬ c->B):if c then A else B:=by
 by_cases h:c
 ·rw [if_pos h]
  exact h1 h
 ·rw [if_neg h]
  exact h2 h
noncomputable def Same (H H':Hp):Prop:=∀ b o,H b=some o->H' b=some o
theorem Same.refl (H:Hp):Same H H:=fun _ _ h=>h
theorem Same.trans {H H1 H2:Hp} (a:Same H H1) (b:Same H1 H2):Same H H2:=fun c o h=>b c o (a c o h)
noncomputable def Cx.comp (X:Cx) (N':List Str) (scope:Scope) (cl:List (Str×Addr)) (fp:List Addr) (C:Addr) (s:ah) (H:Hp) (xe:Value->ah->Prop):Cx:=
 {prog:=X.prog,w:=X.w,K:=X.K,mg:=X.mg,base:=X.base,A:=X.A,N:=N',s₀:=s,H₀:=H,env:=j2 scope cl C X.env,outer:=X.stack,stack:=X.stack,
  ex:=fp,fn:=fun x=>(cl.lookup x).isNone,calm:=X.calm,pn:=[],xe:=xe }
noncomputable def Wj (srcs:List (Option Nat)) (σ:St):St:=srcs.map fun o=>o.bind fun j=>(σ[j]?).join
structure Id (X:Cx) (N':List Str) (srcs:List (Option Nat)) (scope:Scope) (cl:List (Str×Addr)):Prop where
 clos:closureFor scope X.env=pure cl
 nocell:∀ y∈scope.names,y.2≠.cell
 kind:scope.kind=.function
 names:∀ y∈scope.names,y.2=.local->scope.names.lookup y.1=some .local
 sub:∀ x c,cl.lookup x=some c->X.env.cells.lookup x=some c
 has:∀ x,((gy scope X.env).names.lookup x=some .cell\/(gy scope X.env).names.lookup x=some .free) -> ∃ c,cl.lookup x=some c
 len:srcs.length=N'.length
 src:∀ (k j:Nat) (x:Str),N'[k]? = some x->srcs[k]? = some (some j)->X.N[j]? = some x/\(X.env.scope.names.lookup x=some .cell\/X.env.scope.names.lookup x=some .free) /\
  ((gy scope X.env).names.lookup x=some .cell\/(gy scope X.env).names.lookup x=some .free)
noncomputable def Wd (X:Cx) (ifs:List Expr) (t:TT):Prop:=
 ∀ (pins:List (Addr×Obj)) (s:ah) (σ:St) (H:Hp) (Q:Bool->Hp->Prop),Inv X pins σ H s->t σ H Q ->
  aJ (model X.prog X.w) X.A (forIn ifs true fun c r=>if r=true then do let ok <- isTrue c X.env (eval c X.env);pure (dX ok) else pure (dX r)) (TP X pins σ Q) X.xe s
noncomputable def cv0:TT:=fun _ H Q=>Q true H
theorem ag9 {X:Cx}:Wd X [] cv0:=fun _ _ _ H _ I h=>wpAny_tests_nil ⟨H,I,h⟩
theorem ah0 {X:Cx} {c:Expr} {t:TT} (h:PT X c t):Wd X [c] t:=fun pins s σ H Q I q=>wpAny_tests_one (h pins s σ H Q I q)
noncomputable def an0 (srcs:List (Option Nat)) (wi:TI) (g:TG) (tc:TT) (te:TE):TE:=fun σ H Q=>wi σ H fun J H1=>∀ D,H1 D=none ->
 ∃ W:Nat->Nat->St->Hp->Prop,(∃ m,W 0 m (Wj srcs σ) (upd H1 D (.lst []))) /\ ∀ i m σ' H',W i m σ' H' ->
  (J.stop i H'/\Q (.ref D) H')\/(J.go i H' /\ ∃ N:St->Hp->Prop,(∀ σ2 H2,N σ2 H2 -> ∃ m',m'<m/\W (i+1) m' σ2 H2) /\ ∀ x H2,J.yld i H' x H2->g x σ' H2 fun σ3 H3=>tc σ3 H3 fun b H4=>if b=true then
    te σ3 H4 fun v H5=>∃ ys,H5 D=some (.lst ys)/\ys.length<sizeLine/\N σ3 (upd H5 D (.lst (ys++[v])))
   else N σ3 H4)
section
variable {g:TG} {tc:TT} {te:TE} {D:Addr} {R:Hp->Prop} {σ:St} {H:Hp}
end
section
variable {prog:aH} {w:bh} {A:a_} {E:Value->ah->Prop} {R:jB->ah->Prop} {s:ah}
theorem Mx {elt target iter:Expr} {ifs:List Expr} {scope:Scope} {pos:Pos} {it acc:Value} {env:Env} (I:Nat->ah->Prop)
  (turn:∀ n s,I n s->aJ (model prog w) A (pyNext it) (fun r s₁=>match r with
   | none=>R (.ok .next) s₁
   | some v=>aJ (model prog w) A (fZ target it v) (fun _ s₀=>aJ (model prog w) A (jC target env v) (fun _ s₂=>
     aJ (model prog w) A (forIn ifs true fun c r=>if r=true then do let ok <- isTrue c env (eval c env);pure (dX ok) else pure (dX r)) (fun ok s₃=>
      if ok=true then aJ (model prog w) A (eval elt env) (fun x s₄=>
       aJ (model prog w) A (call (.builtin "list.append") [acc,x]) (fun _ s₅=>∃ m,m<n/\I m s₅) (jt (model prog w) A env fun e s'=>R (.error e) s') s₄) (jt (model prog w) A env fun e s'=>R (.error e) s') s₃
      else ∃ m,m<n/\I m s₃) (jt (model prog w) A env fun e s'=>R (.error e) s') s₂) (jt (model prog w) A env fun e s'=>R (.error e) s') s₀) (jt (model prog w) A env fun e s'=>R (.error e) s') s₁) (jt (model prog w) A env fun e s'=>R (.error e) s') s)
  (n:Nat) (h:I n s) :
  eB (model prog w) A (.compLoop (.ListComp elt [⟨target,iter,ifs,0⟩] scope pos) 0 it acc env) R s:=by
 refine codeAny_loop rfl I (fun n s hI=>?_) n h
 show aJ _ A ((compTurn (.ListComp elt [⟨target,iter,ifs,0⟩] scope pos) 0 it acc env).onRaise (fun x=>do jk x env;theTreesLotGoes x)) _ _ s
 refine wpAny_noted ?_
 rw [compTurn_list]
 refine af (c4 (af (bG (turn n s hI) (fun r s₁ h₁=>?_) fun _ _ h'=>h')))
 cases r with
 | none=>exact ar h₁
 | some v=>
  refine af (bG h₁ (fun _ s₀ h₀=>?_) fun _ _ h'=>h')
  refine af (bG h₀ (fun _ s₂ h₂=>af (bG h₂ (fun ok s₃ h₃=>?_) fun _ _ h'=>h')) fun _ _ h'=>h')
  cases ok with
  | false=>exact ar ⟨rfl,h₃⟩
  | true=>
   exact af (af (bG h₃ (fun x s₄ h₄=>af (bG h₄ (fun _ s₅ h₅=>ar (ar ⟨rfl,h₅⟩)) fun _ _ h'=>h')) fun _ _ h'=>h'))
end
section
variable {X:Cx} {elt tg iter:Expr} {ifs:List Expr} {scope:Scope} {pos:Pos} {N':List Str} {srcs:List (Option Nat)} {cl:List (Str×Addr)} {wi:TI} {g:TG} {tc:TT} {te:TE}
theorem Rn {xe:Value->ah->Prop} {pins:List (Addr×Obj)} {σ:St} {H:Hp} {s:ah} {fp:List Addr} {C D:Addr} {h₁:Heap} {tk:Nat} (S:Id X N' srcs scope cl) (I:Inv X pins σ H s) (f:∀ b∈fp,Ct X pins H b) (fo:∀ b∈fp,b<s.heap.objs.size)
  (hD:s.heap.objs.size<=D) (hC:s.heap.objs.size<=C) (hDC:C≠D) (hns:∃ m,h₁.Ns C m) (old:∀ b o,s.heap.get? b=some o->h₁.get? b=some o) (hacc:∃ n,h₁.get? D=some { cls:=.type "list", data:=.seq ([]:List Value).toArray n }) (ht:s.toks<=tk:=by first|exact ac _|exact bc _ _|assumption|omega|(dsimp only;omega)) :
  Inv (X.comp N' scope cl fp C s H xe) [] (Wj srcs σ) (upd H D (.lst [])) { s with heap:=h₁,toks:=tk }:=by
 have hfD:=I.hok.fresh hD
 have ok:(X.comp N' scope cl fp C s H xe).Ok:=by
  refine⟨I.ok.mod,S.kind,I.ok.glob,I.ok.blt,hC,fun x y c a b=>I.ok.inj x y c (S.sub x c a) (S.sub y c b),S.has,fun x c hf hl=>?_,I.ok.hd,I.ok.frames,.inl rfl,fun b hb=>⟨?_,fun x c hl=>?_⟩,I.bs,aR I.ok.bsz I.sz,fun b o e hb=>?_,fun b hb hfs=>?_,I.stack,I.stkFree,bv⟩
  ·have hl':cl.lookup x=some c:=hl
   have hf':(cl.lookup x).isNone=true:=hf
   rw [hl'] at hf'
   cases hf'
  ·exact aQ (aI (fo b hb) hC)
  ·exact (f b hb).2.2.2.2.1 x c (S.sub x c hl)
  ·rcases (f b hb).2.2.2.1 with z|z
   ·exact I.ok.noex b o e z
   ·exact absurd (aI (aC e) (aR I.ok.bsz z)) (eY _)
  ·rcases List.mem_cons.mp (I.stkSub b hfs) with z|z
   ·exact (f b hb).2.1 z
   ·exact (f b hb).2.2.1 z
 obtain⟨m0,hns⟩:=hns
 obtain⟨nn,hacc⟩:=hacc
 refine⟨ok,⟨rfl,ht⟩,I.bare,Un.laid old hD hfD,⟨m0,hns,fun k x v e1 e2 e3=>?_⟩,fun x c hl=>?_,?_,fun x c hl=>?_,fun p hp=>absurd (show p∈([]:List (Addr×Obj)) from hp) (by simp),I.hok.laid old hD ⟨bC _,[],nn,.nil,hacc⟩,?_⟩
 ·-- the captured names
  have e1:N'[k]? = some x:=e1
  have e2:(srcs.map fun o=>o.bind fun j=>(σ[j]?).join)[k]? = some (some v):=e2
  rw [aP] at e2
  cases hk:srcs[k]? with
  | none=>rw [hk] at e2;cases e2
  | some o=>
   rw [hk] at e2
   cases o with
   | none=>cases e2
   | some j=>
    have e2':(σ[j]?).join=some v:=aN e2
    have e3':σ[j]? = some (some v):=by
     cases hj:σ[j]? with
     | none=>rw [hj] at e2';cases e2'
     | some y=>rw [hj] at e2';exact congrArg some e2'
    obtain⟨a1,a2,a3⟩:=S.src k j x e1 hk
    obtain⟨m,hn,hl⟩:=I.loc
    obtain⟨u,r,l⟩:=hl j x v a1 e3' (a2.elim (fun z=>.inr (.inl z)) fun z=>.inr (.inr z))
    refine⟨u,r,.inr ⟨a3,?_⟩⟩
    obtain⟨c,hc⟩:=S.has x a3
    refine⟨c,hc,?_⟩
    rcases l with ⟨z,_⟩|⟨_,c',hc',o,ho,hd⟩
    ·have z':X.env.scope.names.lookup x=some .local:=z
     rcases a2 with q|q <;> rw [q] at z' <;> cases z'
    ·have e:=S.sub x c hc
     rw [hc'] at e
     cases e
     exact⟨o,old _ o ho,hd⟩
 ·obtain⟨v,o,ho,hd⟩:=I.cell x c (S.sub x c hl)
  exact⟨v,o,old _ o ho,hd⟩
 ·show upd H D (.lst []) C=none
  rw [Ak hDC]
  exact I.hok.fresh hC
 ·have hx:=S.sub x c hl
  obtain⟨v,o,ho,hd⟩:=I.cell x c hx
  rw [Ak (aQ (aI (aC ho) hD))]
  exact I.freeC x c hx
 ·show (Wj srcs σ).length=N'.length
  unfold Wj
  rw [aj,S.len]
noncomputable def Bd (X:Cx) (scope:Scope) (cl:List (Str×Addr)) (use:Option (Value->Sem Unit)) (Q2:Value->ah->Prop) (D C:Addr):Value->ah->Prop:=
 jt (model X.prog X.w) X.A (j2 scope cl C X.env) fun e s'=>compPost (model X.prog X.w) X.A X.xe use Q2 (.ref D) C (.error e) s'
theorem Lr {pins:List (Addr×Obj)} {s:ah} {σ:St} {H:Hp} {Q:VK} {use:Option (Value->Sem Unit)} {Q2:Value->ah->Prop} (hc:X.calm=true) (S:Id X N' srcs scope cl) (hi:PI X tg iter wi)
  (hb:∀ fp C D s2 H2,Inv X pins σ H2 s2->(∀ b∈fp,Ct X pins H2 b)->s2.heap.objs.size<=C->PG (X.comp N' scope cl fp C s2 H2 (Bd X scope cl use Q2 D C)) tg g/\Wd (X.comp N' scope cl fp C s2 H2 (Bd X scope cl use Q2 D C)) ifs tc/\PE (X.comp N' scope cl fp C s2 H2 (Bd X scope cl use Q2 D C)) elt te)
  (I:Inv X pins σ H s) (h:an0 srcs wi g tc te σ H Q)
  (fin:∀ (D C:Addr) (H':Hp) (s':ah),Inv X pins σ H' s'->(∃ m,s'.heap.Ns C m)->Ct X pins H' C->Q (.ref D) H'->compPost (model X.prog X.w) X.A X.xe use Q2 (.ref D) C (.ok .next) s')
  (hs:∀ x,d_ iter X.env x=pure x) :
  aJ (model X.prog X.w) X.A (comprehension (.ListComp elt [⟨tg,iter,ifs,0⟩] scope pos) scope X.env (firstIterPos [⟨tg,iter,ifs,0⟩] pos) (newList []) false (eval iter X.env) use) Q2 X.xe s:=by
 refine wpAny_comprehension_free rfl hs S.clos S.kind S.names (thn (hi pins s σ H _ I h) fun v s1 h1=>thn h1 fun itv s2 h2=>?_)
 obtain⟨it,fp,tn,J,H2,e,I2,T,st2,f2,q2⟩:=h2
 subst e
 refine dq (wpAny_newFunctionEnv S.nocell (by intro y hy;simp at hy) (fun h₁ hns₁ hsb₁=>?_) S.kind)
 dsimp only at hns₁ hsb₁ ⊢
 generalize hH2:s2.heap.push { cls:=.type "list", dict:=none,data:=.seq ([]:List Value).toArray }=G2 at hns₁ hsb₁ ⊢
 have hCe:G2.objs.size=s2.heap.objs.size+1:=by rw [<- hH2,dM]
 have hDC:G2.objs.size≠s2.heap.objs.size:=by rw [hCe];exact fE (cG _)
 have hCle:s2.heap.objs.size<=G2.objs.size:=by rw [hCe];exact cN _
 have old:∀ b o,s2.heap.get? b=some o->h₁.get? b=some o:=fun b o e=>
  hsb₁.extBut b o (aQ (aI (aC e) hCle)) (ag _ (hH2▸ag _ e))
 have hacc:∃ n,h₁.get? s2.heap.objs.size=some { cls:=.type "list", data:=.seq ([]:List Value).toArray n }:=⟨_,hsb₁.extBut _ _ (cz hDC) (ag _ (hH2▸aF _ rfl))⟩
 have fo:∀ b∈fp,b<s2.heap.objs.size:=fun b hb=>by
  obtain⟨o,ho,_⟩:=T.obj _ _ st2 b hb
  exact aC ho
 have st3:tn 0 h₁:=T.keep _ _ _ st2 fun b _ o e=>old b o e
 obtain⟨hg,ht,he⟩:=hb fp G2.objs.size s2.heap.objs.size s2 H2 I2 f2 hCle
 obtain⟨W,⟨m0,w0⟩,turn⟩:=q2 s2.heap.objs.size (I2.hok.fresh (ac _))
 have loop:∀ s3:ah,s3={ s2 with heap:=h₁,toks:=s2.toks+([]:List (Str×Value)).length } ->
   eB (model X.prog X.w) X.A (.compLoop (.ListComp elt [⟨tg,iter,ifs,0⟩] scope pos) 0 (.ref it) (.ref s2.heap.objs.size) (j2 scope cl G2.objs.size X.env))
    (compPost (model X.prog X.w) X.A X.xe use Q2 (.ref s2.heap.objs.size) G2.objs.size) s3:=by
  rintro s3 rfl
  have I3:Inv (X.comp N' scope cl fp G2.objs.size s2 H2 (Bd X scope cl use Q2 s2.heap.objs.size G2.objs.size)) [] (Wj srcs σ) (upd H2 s2.heap.objs.size (.lst [])) { s2 with heap:=h₁,toks:=s2.toks+([]:List (Str×Value)).length }:=
   Rn S I2 f2 fo (ac _) hCle hDC ⟨_,hns₁⟩ old hacc
  have stat:∀ {H':Hp},(∀ b∈fp,H' b=none) -> ∀ b∈fp,Ct (X.comp N' scope cl fp G2.objs.size s2 H2 (Bd X scope cl use Q2 s2.heap.objs.size G2.objs.size)) [] H' b:=fun hn b hb=>
   ⟨hn b hb,aQ (aI (fo b hb) hCle),(fun z=>(List.mem_cons.mp (I2.stkSub b z)).elim (f2 b hb).2.1 (f2 b hb).2.2.1),.inl hb,fun x c hl=>(f2 b hb).2.2.2.2.1 x c (S.sub x c hl),fun p hp=>absurd (show p∈([]:List (Addr×Obj)) from hp) (by simp)⟩
  refine Mx (fun n s'=>∃ i σ' H',Inv (X.comp N' scope cl fp G2.objs.size s2 H2 (Bd X scope cl use Q2 s2.heap.objs.size G2.objs.size)) [] σ' H' s'/\tn i s'.heap/\(∀ b∈fp,H' b=none)/\W i n σ' H') ?_ m0
   ⟨0,_,_,I3,st3,fun b hb=>by rw [Ak (aQ (fo b hb))];exact (f2 b hb).1,w0⟩
  rintro n s4 ⟨i,σ4,H4,I4,st4,fr4,w4⟩
  rcases turn i n σ4 H4 w4 with ⟨stop,qn⟩|⟨go,NN,hNN,step⟩
  ·refine thn (T.done (X.comp N' scope cl fp G2.objs.size s2 H2 (Bd X scope cl use Q2 s2.heap.objs.size G2.objs.size)) rfl rfl rfl hc i [] s4 σ4 H4 _ I4 (stat fr4) st4 stop) fun r s5 ⟨hr,I5⟩=>?_
   subst hr
   obtain⟨m5,hn5,_⟩:=id I5.loc
   have I6:Inv X pins σ H4 s5:=I2.call' (ch:=fp) I5.os I5.base I5.hok I5.bare fun b hb=>⟨(f2 b hb).2.2.2.1,(f2 b hb).2.1,(f2 b hb).2.2.2.2.1,(f2 b hb).2.2.2.2.2⟩
   exact fin _ _ H4 s5 I6 ⟨m5,hn5⟩ (I2.fpOk hCle I5.free) qn
  ·refine thn (T.item (X.comp N' scope cl fp G2.objs.size s2 H2 (Bd X scope cl use Q2 s2.heap.objs.size G2.objs.size)) rfl rfl rfl hc i [] s4 σ4 H4 _ I4 (stat fr4) st4 go) fun r s5 ⟨u,hr,h5⟩=>?_
   subst hr
   refine thn h5 fun _ s6 ⟨x,H6,I6,r6,y6,st6,fr6⟩=>?_
   have I6':=I6.pinned (stat fr6) (T.obj _ _ st6)
   refine thn (hg _ s6 σ4 H6 x u _ I6' r6 (step x H6 y6)) fun _ s7 ⟨σ7,H7,I7,q7⟩=>?_
   have again:∀ {s9:ah} {H9:Hp},Inv (X.comp N' scope cl fp G2.objs.size s2 H2 (Bd X scope cl use Q2 s2.heap.objs.size G2.objs.size)) ([]++G1 fp s6.heap) σ7 H9 s9->NN σ7 H9 ->
     ∃ m,m<n /\ ∃ i σ' H',Inv (X.comp N' scope cl fp G2.objs.size s2 H2 (Bd X scope cl use Q2 s2.heap.objs.size G2.objs.size)) [] σ' H' s9/\tn i s9.heap/\(∀ b∈fp,H' b=none)/\W i m σ' H':=fun {s9 H9} I9 n9=>by
    obtain⟨m',hm,w9⟩:=hNN σ7 H9 n9
    refine⟨m',hm,i+1,σ7,H9,I9.unpinned,T.keep _ _ _ st6 fun b hb o e=>(I9.pin (b,o) (aU _ (aU _ (Dz hb e)))).1,fun b hb=>?_,w9⟩
    obtain⟨o,e,d⟩:=T.obj _ _ st6 b hb
    exact (I9.pin (b,o) (aU _ (aU _ (Dz hb e)))).2.1
   refine thn (ht _ s7 σ7 H7 _ I7 q7) fun b s8 ⟨H8,I8,q8⟩=>?_
   cases b with
   | false=>
    rw [if_neg ak] at q8
    exact again I8 q8
   | true=>
    rw [if_pos rfl] at q8
    refine thn (he _ s8 σ7 H8 _ I8 q8) fun y s9 ⟨v9,H9,I9,r9,ys,hD,hlen,w9⟩=>?_
    refine thn (Ma (X:=X.comp N' scope cl fp G2.objs.size s2 H2 (Bd X scope cl use Q2 s2.heap.objs.size G2.objs.size)) ([]++G1 fp s6.heap) s9 σ7 H9 (.ref s2.heap.objs.size) [v9] (.ref s2.heap.objs.size) [y] (fun _ H'=>H'=upd H9 s2.heap.objs.size (.lst (ys++[v9]))) I9 rfl (.cons r9 .nil)
     ⟨_,ys,v9,rfl,rfl,hD,hlen,rfl⟩) fun _ s10 ⟨_,H10,I10,_,e10⟩=>?_
    subst e10
    exact again I10 w9
 exact codeAny_compStart_list (loop _ rfl) (T.self X.A 0 _ _ _ st3 (loop _ rfl))
theorem ab0 {pins:List (Addr×Obj)} {s:ah} {σ:St} {H:Hp} {Q:VK} (hc:X.calm=true) (S:Id X N' srcs scope cl) (hi:PI X tg iter wi)
  (hb:∀ Q2 fp C D s2 H2,Inv X pins σ H2 s2->(∀ b∈fp,Ct X pins H2 b)->s2.heap.objs.size<=C->PG (X.comp N' scope cl fp C s2 H2 (Bd X scope cl none Q2 D C)) tg g/\Wd (X.comp N' scope cl fp C s2 H2 (Bd X scope cl none Q2 D C)) ifs tc/\PE (X.comp N' scope cl fp C s2 H2 (Bd X scope cl none Q2 D C)) elt te)
  (I:Inv X pins σ H s) (h:an0 srcs wi g tc te σ H Q) (hs:∀ x,d_ iter X.env x=pure x) :
  aJ (model X.prog X.w) X.A (eval (.ListComp elt [⟨tg,iter,ifs,0⟩] scope pos) X.env) (EP X pins σ Q) X.xe s:=by
 rw [eval_ListComp]
 refine Lr (use:=none) hc S hi (fun fp C D s2 H2=>hb _ fp C D s2 H2) I h (fun D C H' s' I' ns fo q=>?_) hs
 obtain⟨m,hn⟩:=ns
 obtain⟨f0,f1,f2,f3,f4,f5⟩:=fo
 exact⟨m,hn,fun h' sb=>⟨.ref D,H',I'.turned (t':=s'.toks) (fun b o hb e=>(sb.2 b hb).trans e) f0 f1 f3 f4 f5,rfl,q⟩⟩
theorem aa9 {i:Nat} {x:Str} {pos' spos:Pos} {pins:List (Addr×Obj)} {s:ah} {σ:St} {H:Hp} {D:La} (hc:X.calm=true) (hN:X.N.Nodup) (hx:X.N[i]? = some x) (hl:X.env.scope.names.lookup x=some .local) (S:Id X N' srcs scope cl) (hi:PI X tg iter wi)
  (hb:∀ us Q2 fp C D s2 H2,Inv X pins σ H2 s2->(∀ b∈fp,Ct X pins H2 b)->s2.heap.objs.size<=C->PG (X.comp N' scope cl fp C s2 H2 (Bd X scope cl us Q2 D C)) tg g/\Wd (X.comp N' scope cl fp C s2 H2 (Bd X scope cl us Q2 D C)) ifs tc/\PE (X.comp N' scope cl fp C s2 H2 (Bd X scope cl us Q2 D C)) elt te)
  (I:Inv X pins σ H s) (h:by5 (an0 srcs wi g tc te) (ad0 i) D σ H)
  (hsw:gM (.ListComp elt [⟨tg,iter,ifs,0⟩] scope pos) (some (.Name x pos')) spos.line X.env=pure true) (hs:∀ x,d_ iter X.env x=pure x) :
  aJ (model X.prog X.w) X.A (exec (.Assign [.Name x pos'] (.ListComp elt [⟨tg,iter,ifs,0⟩] scope pos) spos) X.env) (SP X pins D) X.xe s:=by
 rw [exec_Assign_Name_used _ _ _ _ hsw]
 refine af (c4 (af ?_))
 show aJ _ X.A (do let _ <- comprehension (.ListComp elt [⟨tg,iter,ifs,0⟩] scope pos) scope X.env _ (newList []) false (eval iter X.env) (some (jC (.Name x pos') X.env))) _ _ s
 refine af (thn (Lr (use:=some (jC (.Name x pos') X.env)) (Q:=fun v H'=>D.nx (σ.set i (some v)) H') (Q2:=fun _ s'=>SP X pins D .next s') hc S hi (fun fp C D s2 H2=>hb _ _ fp C D s2 H2) I h (fun L C H' s' I' ns fo q=>?_) hs) fun _ s' hq=>ar (ar hq))
 obtain⟨m,hn⟩:=ns
 obtain⟨f0,f1,f2,f3,f4,f5⟩:=fo
 obtain⟨oC,es,ep,hoC,hd,hr⟩:=id hn
 have I2:Inv X (pins++[(C,oC)]) σ H' s':=I'.pins_of fun p hp=>(List.mem_append.mp hp).elim (fun z=>I'.pin p (aU _ z)) fun z=>by
  have z':p=(C,oC):=by simpa using z
  subst z'
  exact⟨hoC,f0,f1,f2,fun v e=>by rw [hd] at e;cases e⟩
 refine wpAny_assign_Name (Gi (i:=i) (v:=.ref L) I2 hN hx (.inl hl) rfl (fun s2 I3=>?_) (.inr hl))
 have hoC':=(I3.pin (C,oC) (aU _ (aU _ (by simp)))).1
 refine⟨m,⟨oC,es,ep,hoC',hd,hr⟩,fun h' sb=>?_⟩
 exact⟨_,H',(I3.unpinned).turned (t':=s2.toks) (fun b o hb e=>(sb.2 b hb).trans e) f0 f1 f3 f4 f5,q⟩
end
noncomputable def Its (x:Str):It:=⟨fun i _=>i<x.cps.size,fun i H v H'=>H'=H /\ ∃ c,x.cps[i]? = some c/\v=.str ⟨#[c]⟩,fun i _=>i=x.cps.size⟩
theorem an5 {P:aH} {w:bh} {K:aa} {tg:Expr} (it:Addr) (x:Str) (t:Tok) (ty:String) (hty:ty = "str_ascii_iterator" \/ ty = "str_iterator") :
  P3 P w K tg (Its x) [it] it (fun i h=>h.IsStrIter it ty x t i) where
 mem:=by simp
 obj:=fun i h st b hb=>by
  have e:b=it:=by simpa using hb
  subst e
  obtain⟨o,e,c,d⟩:=st
  exact⟨o,e,fun v z=>by rw [d] at z;cases z⟩
 keep:=fun i h h' st k=>by
  obtain⟨o,e,r⟩:=st
  exact⟨o,k it (by simp) o e,r⟩
 item:=by
  intro X hP hw hK hc i pins s σ H E I hf st hg
  subst hP hw hK
  obtain⟨f0,f1,f2,f3,f4,f5⟩:=hf it (by simp)
  have W:j9 X.prog X.w X.A it [it] [it] x.cps.size (SignAt x) (fun i h=>h.IsStrIter it ty x t i):=by
   rcases hty with rfl|rfl
   ·exact Walks.strAscii (I.ok.hd hc) it x t
   ·exact Walks.strWide (I.ok.hd hc) it x t
  refine bt (ac _) (W.item i s _ _ hg st fun v h' tk hv st' kk htk=>?_)
  obtain⟨c,u,hcp,rfl⟩:=hv
  have I1:Inv X pins σ H { s with heap:=h',toks:=tk }:=I.turned (fun b o hb e=>kk b o (by simpa using hb) e) f0 f1 f3 f4 f5
  obtain⟨o,e,cc,d⟩:=id st'
  exact⟨_,rfl,Ir (s:={ s with heap:=h',toks:=tk }) e cc d (by rcases hty with rfl|rfl <;> decide) ⟨.str ⟨#[c]⟩,H,I1,⟨_,rfl⟩,⟨rfl,c,hcp,rfl⟩,st',fun b hb=>(hf b hb).1⟩⟩
 done:=by
  intro X hP hw hK hc i pins s σ H E I hf st hg
  subst hP hw hK
  obtain⟨f0,f1,f2,f3,f4,f5⟩:=hf it (by simp)
  have hg:i=x.cps.size:=hg
  subst hg
  have W:j9 X.prog X.w X.A it [it] [it] x.cps.size (SignAt x) (fun i h=>h.IsStrIter it ty x t i):=by
   rcases hty with rfl|rfl
   ·exact Walks.strAscii (I.ok.hd hc) it x t
   ·exact Walks.strWide (I.ok.hd hc) it x t
  exact bt (ac _) (W.done s _ _ st fun h' tk kk htk=>⟨rfl,I.turned (fun b o hb e=>kk b o (by simpa using hb) e) f0 f1 f3 f4 f5⟩)
 self:=by
  intro A i s Q E st h
  rcases hty with rfl|rfl
  ·exact wpAny_pyIter_striter_ascii st h
  ·exact wpAny_pyIter_striter_wide st h
section
variable {X:Cx} {tg:Expr}
end
section
variable {X:Cx} {pins:List (Addr×Obj)} {σ:St} {H:Hp} {s:ah} {h':Heap} {ch:List Addr} {t':Nat}
end
section
variable {X:Cx}
end
theorem Xj {bs:List Bool}:(cQ bs.length).all (fun i=>bs.getD i true)=bs.all fun b=>b:=by
 rw [dU,bO,bO]
 constructor
 ·intro h b hb
  obtain⟨i,hi,e⟩:=List.mem_iff_getElem.mp hb
  have q:=h i (List.mem_range.mpr hi)
  rw [aA,au hi,e] at q
  exact q
 ·intro h i hi
  have hi:=List.mem_range.mp hi
  rw [aA,au hi]
  exact h _ (dI hi)
section
variable {X:Cx}
theorem aa1 (hc:X.calm=true):Db X (.builtin "all") (fun xs H Q=>∃ (p:Addr) (bs:List Bool),xs=[.ref p]/\SqL X.K H p (bs.map V.bl)/\Q (.bl (bs.all fun b=>b)) H):=by
 intro pins s σ H xs us Q I r h
 obtain⟨p,bs,rfl,hq,q⟩:=h
 obtain⟨u,rfl,ru⟩:=r.one
 cases ru
 obtain⟨its,rv,pl,hz⟩:=I.list hq
 have hlen:=rv.length
 rw [aj] at hlen
 obtain⟨o,n,e,c,hd,ds⟩:=id pl
 have plt:=aC e
 refine bt (ac _) (call_all_walk (wpAny_pyIter_list pl.isList ?_))
 refine⟨s.heap.objs.size,_,_,_,_,_,(fun i=>bs.getD i true),rfl,Walks.list (A:=X.A.in1) (show X.A.in1.handled=none from I.ok.hd hc) s.heap.objs.size p (aQ plt) its.toArray,⟨⟨_,aF _ rfl,rfl,rfl⟩,pl.isList.push _⟩,?_,fun h' tk kk htk=>?_⟩
 ·intro i v s' Q' E' hv hq'
  have hv:its[i]? = some v:=by simpa using hv
  have hi:i<bs.length:=by rw [hlen];exact (List.getElem?_eq_some_iff.mp hv).1
  have e1:(bs.map V.bl)[i]? = some (.bl bs[i]):=by simp [hi]
  obtain⟨u',hu',ru'⟩:=rv.get e1
  rw [hv] at hu'
  cases hu'
  cases ru'
  have e2:bs.getD i true=bs[i]:=by simp [aA,hi]
  have hq':Q' (bs.getD i true) s':=hq'
  rw [e2] at hq'
  exact cM hq'
 ·have e3:(cQ its.toArray.size).all (fun i=>bs.getD i true)=bs.all fun b=>b:=by
   rw [am,<- hlen]
   exact Xj
  rw [e3]
  refine⟨.bl _,H,I.kept (t':=tk) fun b o' eb=>kk b o' ?_ (ag _ eb),rfl,q⟩
  have hb:b≠s.heap.objs.size:=aQ (aC eb)
  simpa using hb
theorem aa2:Db X (.builtin "isinstance") (fun xs H Q=>∃ x T t b,xs=[x,.ty T]/\TyOf X.K H x t/\cj X.K t (.type T)=some b/\Q (.bl b) H):=by
 intro pins s σ H xs us Q I r h
 obtain⟨x,T,t,b,rfl,ty,e,q⟩:=h
 obtain⟨u,v,rfl,ru,rv⟩:=r.two
 cases rv
 exact bt (ac _) (Lz I ru ty e fun tk htk=>⟨.bl b,H,I.tok tk htk,rfl,q⟩)
theorem Xb:OpR X (b7 .LtE) (fun x y H Q=>∃ i j,x=.str i/\y=.str j/\Q (.bl (!decide (j.cps.toList<i.cps.toList))) H):=by
 intro pins s σ H x y v u Q I rx ry h
 obtain⟨i,j,rfl,rfl,q⟩:=h
 obtain⟨t,rfl⟩:=rx
 obtain⟨t',rfl⟩:=ry
 exact PySem.P.le_str ⟨.bl _,H,I,rfl,q⟩
end
noncomputable def Qb (xs ys:List V):Bool:=decide (xs.length=ys.length)&&(cQ xs.length).all fun j=>eqV (xs.getD j .non) (ys.getD j .non)
theorem Qc {xs ys:List V} (h:xs.length≠ys.length):Qb xs ys=false:=by
 unfold Qb
 rw [decide_eq_false h]
 rfl
noncomputable def bn5 (K:aa) (neg:Bool):R2:=fun x y H Q=>∃ a b xs ys,x=.ref a/\y=.ref b/\SqL K H a xs/\SqL K H b ys/\xs.all Bj=true/\ys.all Bj=true/\Q (.bl (if neg then !Qb xs ys else Qb xs ys)) H
section
variable {X:Cx}
theorem Iz {A:a_} {s:ah} {xs ys:List V} {us ws:List Value} (rx:Vals xs us) (ry:Vals ys ws) (fx:xs.all Bj=true) (fy:ys.all Bj=true) (j:Nat) (h1:j<us.toArray.size) (h2:j<ws.toArray.size) :
  aZ A s us.toArray[j] ws.toArray[j] (eqV (xs.getD j .non) (ys.getD j .non)):=by
 have e1:=rx.length
 have e2:=ry.length
 have h1':j<us.length:=by simpa using h1
 have h2':j<ws.length:=by simpa using h2
 have a1:xs[j]? = some (xs[j]'(by omega)):=by simp
 have a2:ys[j]? = some (ys[j]'(by omega)):=by simp
 obtain⟨u,hu,ru⟩:=rx.get a1
 obtain⟨v,hv,rv⟩:=ry.get a2
 have b1:us.toArray[j]=u:=by
  have:us[j]? = some us[j]:=by simp
  rw [this] at hu
  simpa using aN hu
 have b2:ws.toArray[j]=v:=by
  have:ws[j]? = some ws[j]:=by simp
  rw [this] at hv
  simpa using aN hv
 have c1:xs.getD j .non=xs[j]'(by omega):=by rw [aA,a1];rfl
 have c2:ys.getD j .non=ys[j]'(by omega):=by rw [aA,a2];rfl
 rw [b1,b2,c1,c2]
 exact M3 ru rv (List.all_eq_true.mp fx _ (dI _)) (List.all_eq_true.mp fy _ (dI _))
theorem bh9 (hu:X.A.units<cLine):OpR X (b7 .Eq) (bn5 X.K false):=by
 intro pins s σ H x y v u Q I rx ry h
 obtain⟨a,b,xs,ys,rfl,rfl,qa,qb,fx,fy,q⟩:=h
 cases rx
 cases ry
 obtain⟨its,r,pl,hz⟩:=I.list qa
 obtain⟨its2,r2,pl2,hz2⟩:=I.list qb
 have e1:=r.length
 have e2:=r2.length
 by_cases hl:xs.length=ys.length
 ·refine SeqAt.eq_listAt (e:=fun j=>eqV (xs.getD j .non) (ys.getD j .non)) pl.isList pl2.isList (by simp;omega) hu (fun j h1 h2=>Iz r r2 fx fy j h1 h2) ⟨.bl _,H,I,rfl,?_⟩
  have e:Qb xs ys=(cQ its.toArray.size).all fun j=>eqV (xs.getD j .non) (ys.getD j .non):=by
   unfold Qb
   rw [decide_eq_true hl,am,<- e1]
   rfl
  rw [<- e]
  exact q
 ·refine SeqAt.eq_list_lengthsAt pl.isList pl2.isList (by simp;omega) hu ⟨.bl _,H,I,rfl,?_⟩
  rw [Qc hl] at q
  exact q
theorem bi3 (hu:X.A.units<cLine):OpR X (b7 .NotEq) (bn5 X.K true):=by
 intro pins s σ H x y v u Q I rx ry h
 obtain⟨a,b,xs,ys,rfl,rfl,qa,qb,fx,fy,q⟩:=h
 cases rx
 cases ry
 obtain⟨its,r,pl,hz⟩:=I.list qa
 obtain⟨its2,r2,pl2,hz2⟩:=I.list qb
 have e1:=r.length
 have e2:=r2.length
 by_cases hl:xs.length=ys.length
 ·refine SeqAt.RcNeAt.lists (e:=fun j=>eqV (xs.getD j .non) (ys.getD j .non)) pl.isList pl2.isList (by simp;omega) hu (fun j h1 h2=>Iz r r2 fx fy j h1 h2) _ _ _ _ ⟨.bl _,H,I,rfl,?_⟩
  have e:Qb xs ys=(cQ its.toArray.size).all fun j=>eqV (xs.getD j .non) (ys.getD j .non):=by
   unfold Qb
   rw [decide_eq_true hl,am,<- e1]
   rfl
  rw [<- e]
  exact q
 ·refine SeqAt.RcNeAt.lists_lengths pl.isList pl2.isList (by simp;omega) hu _ _ _ _ ⟨.bl _,H,I,rfl,?_⟩
  rw [Qc hl] at q
  exact q
end
theorem ae8 {cl:List (Str×Addr)} {x:Str} (h:x∈cl.map (·.1)):∃ c,cl.lookup x=some c:=by
 induction cl with
 | nil=>simp at h
 | cons p r ih=>
  obtain⟨n,a⟩:=p
  rw [List.lookup_cons]
  cases e:x==n with
  | true=>exact⟨a,rfl⟩
  | false=>
   refine ih ?_
   rcases List.mem_cons.mp h with q|q
   ·rw [show x=n from q] at e;simp at e
   ·exact q
section
variable {X:Cx} {e:Expr} {te:TE} {lo hi:Option Expr} {tl th:TO} {pos p2:Pos}
theorem Ui {ys:List Str}:∀ {us:List Value},Vals (ys.map V.str) us->StrsAre us ys:=by
 induction ys with
 | nil=>intro us r;rw [fB] at r;cases r;exact .nil
 | cons y ys ih=>
  intro us r
  rw [aM] at r
  cases r with
  | cons r1 r2=>
   obtain⟨t,e⟩:=r1
   subst e
   exact .cons y t (ih r2)
theorem ar2:MtR X "str.join" (fun x xs H Q=>∃ z p ys,x=.str z/\xs=[.ref p]/\SqL X.K H p (ys.map V.str)/\(ys.map (·.length)).sum+ys.length * z.length<=16777216/\Q (.str (Txt.join z ys)) H):=by
 intro pins s σ H x xs v us Q I rx rs h
 obtain⟨z,p,ys,rfl,rfl,hq,hz,q⟩:=h
 obtain⟨t,rfl⟩:=rx
 obtain⟨u,rfl,ru⟩:=rs.one
 cases ru
 obtain⟨its,rv,pl,_⟩:=I.list hq
 exact bt (ac _) (PyProof.Rows.join_list pl.isList (by simpa using Ui rv) hz fun t' k htk=>⟨.str _,H,I.tok k htk,⟨_,rfl⟩,q⟩)
end
end L2
set_option maxHeartbeats 4000000
namespace L2
open PySem PySem.Spec PyProof.Rows
section
variable {κ:Type} [DecidableEq κ]
noncomputable def A9 (kvs:List (κ×V)) (k:κ):Option V:=(kvs.find? fun kv=>decide (kv.1=k)).map (·.2)
noncomputable def C9 (kvs:List (κ×V)) (k:κ) (v:V):List (κ×V):=
 if (kvs.any fun kv=>decide (kv.1=k))=true then kvs.map (fun kv=>if kv.1=k then (kv.1,v) else kv) else kvs++[(k,v)]
noncomputable def Ha (kvs:List (κ×V)) (k:κ):List (κ×V):=kvs.filter fun kv=>decide (kv.1≠k)
theorem an7 {k:κ}:A9 ([]:List (κ×V)) k=none:=rfl
theorem Bm {p:κ×V} {r:List (κ×V)} {k:κ} (e:p.1=k):A9 (p::r) k=some p.2:=by simp [A9,cx,e]
theorem Bl {p:κ×V} {r:List (κ×V)} {k:κ} (e:¬ p.1=k):A9 (p::r) k=A9 r k:=by simp [A9,cx,e]
theorem Es (k:κ):∀ kvs:List (κ×V),(kvs.any fun kv=>decide (kv.1=k))=(A9 kvs k).isSome
 | []=>rfl
 | p::r=>by
  rw [cT]
  by_cases e:p.1=k
  ·simp only [Bm e,decide_eq_true e,jw,Option.isSome_some]
  ·rw [Bl e,decide_eq_false e,gO];exact Es k r
theorem Ra (k j:κ) (y:V):∀ kvs:List (κ×V),A9 (kvs.map fun kv=>if kv.1=k then (kv.1,y) else kv) j=(A9 kvs j).map fun x=>if j=k then y else x
 | []=>rfl
 | p::r=>by
  have ih:=Ra k j y r
  rw [aM]
  by_cases h:p.1=k
  ·rw [if_pos h]
   by_cases e:p.1=j
   ·rw [Bm (p:=(p.1,y)) e,Bm e,eZ,if_pos (e.symm.trans h)]
   ·rw [Bl (p:=(p.1,y)) e,Bl e,ih]
  ·rw [if_neg h]
   by_cases e:p.1=j
   ·rw [Bm (p:=p) e,Bm e,eZ,if_neg (fun z=>h (e.trans z))]
   ·rw [Bl (p:=p) e,Bl e,ih]
theorem Mo (k j:κ) (y:V):∀ kvs:List (κ×V),A9 kvs k=none->A9 (kvs++[(k,y)]) j=if j=k then some y else A9 kvs j
 | [],_=>by
  by_cases e:k=j
  ·rw [if_pos e.symm];exact Bm (p:=(k,y)) e
  ·rw [if_neg (fun z=>e z.symm)];exact Bl (p:=(k,y)) e
 | p::r,hn=>by
  rw [eG]
  have hk:¬ p.1=k:=fun z=>by rw [Bm z] at hn;cases hn
  rw [Bl hk] at hn
  have ih:=Mo k j y r hn
  by_cases e:p.1=j
  ·rw [Bm e,Bm e,if_neg (fun z=>hk (e.trans z))]
  ·rw [Bl e,Bl e,ih]
theorem K8 (kvs:List (κ×V)) (k j:κ) (y:V):A9 (C9 kvs k y) j=if j=k then some y else A9 kvs j:=by
 unfold C9
 by_cases a:(kvs.any fun kv=>decide (kv.1=k))=true
 ·rw [if_pos a,Ra]
  rw [Es] at a
  by_cases e:j=k
  ·obtain⟨x,hx⟩:=Option.isSome_iff_exists.mp a
   rw [if_pos e,e,hx,eZ,if_pos rfl]
  ·rw [if_neg e]
   cases A9 kvs j with
   | none=>rfl
   | some x=>rw [eZ,if_neg e]
 ·rw [if_neg a]
  refine Mo k j y kvs ?_
  rw [Es] at a
  cases q:A9 kvs k with
  | none=>rfl
  | some x=>rw [q] at a;exact (a rfl).elim
theorem Co (kvs:List (κ×V)) (k:κ) (v:V):(C9 kvs k v).length<=kvs.length+1:=by
 unfold C9
 split
 ·rw [aj];omega
 ·rw [ay,aE,List.length_nil];omega
theorem RelO.isSome_eq {o:Option V} {u:Option Value} (r:RelO o u):o.isSome=u.isSome:=by
 cases o with
 | none=>cases u with
  | none=>rfl
  | some _=>exact (show False from r).elim
 | some _=>cases u with
  | none=>exact (show False from r).elim
  | some _=>rfl
theorem RelO.getD {o:Option V} {u:Option Value} {d:V} {d':Value} (r:RelO o u) (rd:RelV d d'):RelV (o.getD d) (u.getD d'):=by
 cases o with
 | none=>cases u with
  | none=>exact rd
  | some _=>exact (show False from r).elim
 | some _=>cases u with
  | none=>exact (show False from r).elim
  | some _=>exact r
theorem KV.val {kvs:List (κ×V)} {vs:List (κ×Value)} (r:KV kvs vs) (k:κ):RelO (A9 kvs k) (gB vs k):=by
 unfold KV at r
 induction r with
 | nil=>exact bv
 | @cons p q ps qs h t ih=>
  obtain⟨h1,h2⟩:=h
  by_cases e:p.1=k
  ·have e':q.1=k:=h1.symm.trans e
   have b:gB (q::qs) k=some q.2:=by simp [gB,cx,e']
   rw [Bm e,b];exact h2
  ·have e':¬ q.1=k:=fun z=>e (h1.trans z)
   have b:gB (q::qs) k=gB qs k:=by simp [gB,cx,e']
   rw [Bl e,b];exact ih
theorem KV.any {kvs:List (κ×V)} {vs:List (κ×Value)} (r:KV kvs vs) (k:κ):(kvs.any fun kv=>decide (kv.1=k))=vs.any fun kv=>decide (kv.1=k):=by
 unfold KV at r
 induction r with
 | nil=>rfl
 | cons h t ih=>rw [cT,cT,ih,h.1]
theorem KV.repl {kvs:List (κ×V)} {vs:List (κ×Value)} (r:KV kvs vs) (k:κ) {y:V} {u:Value} (ry:RelV y u) :
  KV (kvs.map fun kv=>if kv.1=k then (kv.1,y) else kv) (vs.map fun kv=>if kv.1=k then (kv.1,u) else kv):=by
 unfold KV at r ⊢
 induction r with
 | nil=>exact .nil
 | @cons p q ps qs h t ih=>
  rw [aM,aM]
  refine .cons ?_ ih
  obtain⟨h1,h2⟩:=h
  by_cases e:p.1=k
  ·rw [if_pos e,if_pos (h1.symm.trans e)];exact⟨h1,ry⟩
  ·rw [if_neg e,if_neg (fun z=>e (h1.trans z))];exact⟨h1,h2⟩
theorem KV.put {kvs:List (κ×V)} {vs:List (κ×Value)} (r:KV kvs vs) (k:κ) {y:V} {u:Value} (ry:RelV y u):KV (C9 kvs k y) (stored vs k u):=by
 unfold C9 stored
 rw [r.any k]
 by_cases e:(vs.any fun kv=>decide (kv.1=k))=true
 ·rw [if_pos e,if_pos e];exact r.repl k ry
 ·rw [if_neg e,if_neg e];exact Paired.snoc r ⟨rfl,ry⟩
theorem KV.drop {kvs:List (κ×V)} {vs:List (κ×Value)} (r:KV kvs vs) (k:κ):KV (Ha kvs k) (without vs k):=by
 unfold KV at r ⊢
 unfold Ha without
 induction r with
 | nil=>exact .nil
 | @cons p q ps qs h t ih=>
  obtain⟨h1,h2⟩:=h
  rw [List.filter_cons,List.filter_cons]
  by_cases e:p.1=k
  ·have a:¬ decide (p.1≠k)=true:=by simp [e]
   have b:¬ decide (q.1≠k)=true:=by simp [h1.symm.trans e]
   rw [if_neg a,if_neg b];exact ih
  ·have e':¬ q.1=k:=fun z=>e (h1.trans z)
   have a:decide (p.1≠k)=true:=by simp [e]
   have b:decide (q.1≠k)=true:=by simp [e']
   rw [if_pos a,if_pos b];exact .cons ⟨h1,h2⟩ ih
theorem KV.keys {kvs:List (κ×V)} {vs:List (κ×Value)} (r:KV kvs vs):kvs.map (·.1)=vs.map (·.1):=by
 unfold KV at r
 induction r with
 | nil=>rfl
 | cons h t ih=>rw [aM,aM,ih,h.1]
theorem KV.length {kvs:List (κ×V)} {vs:List (κ×Value)} (r:KV kvs vs):kvs.length=vs.length:=fO r
theorem ab8 (kvs:List (κ×V)) (k:κ):(Ha kvs k).length<=kvs.length:=dZ _ _
end
theorem D3 {P:aH} {w:bh} {k:Key} {u:Value} (r:RelV (kV k) u):(As P w).is k u=true:=by
 cases k with
 | inl i=>obtain⟨t,e⟩:=(show ∃ t,u=ir i t from r);subst e;exact Qr P w i t
 | inr x=>obtain⟨t,e⟩:=(show ∃ t,u=fH x t from r);subst e;exact Qs P w x t
theorem L5 {P:aH} {w:bh}:∀ {ks:List Key} {us:List Value},Vals (ks.map kV) us->ItemsAre (As P w) ks us
 | [],_,r=>by rw [fB] at r;cases r;exact .nil
 | k::ks,_,r=>by
  rw [aM] at r
  cases r with
  | cons h t=>exact .cons (D3 h) (L5 t)
noncomputable abbrev KT (H:Hp):List (List Key×V)->List (List Key×Addr×Value)->Prop:=fN fun p q=>p.1=q.1/\H q.2.1=some (.tup (p.1.map kV))/\RelV p.2 q.2.2
theorem KT.val {H:Hp} {kvs:List (List Key×V)} {xs:List (List Key×Addr×Value)} (r:KT H kvs xs) (k:List Key):RelO (A9 kvs k) ((jI xs k).map (·.2)):=by
 induction r with
 | nil=>exact bv
 | @cons p q ps qs h t ih=>
  obtain⟨h1,_,h2⟩:=h
  by_cases e:p.1=k
  ·have e':q.1=k:=h1.symm.trans e
   have b:jI (q::qs) k=some q.2:=by simp [jI,cx,e']
   rw [Bm e,b];exact h2
  ·have e':¬ q.1=k:=fun z=>e (h1.trans z)
   have b:jI (q::qs) k=jI qs k:=by simp [jI,cx,e']
   rw [Bl e,b];exact ih
theorem KT.repl {H:Hp} {kvs:List (List Key×V)} {xs:List (List Key×Addr×Value)} (r:KT H kvs xs) (k:List Key) {y:V} {u:Value} (ry:RelV y u) :
  KT H (kvs.map fun kv=>if kv.1=k then (kv.1,y) else kv) (xs.map (putAt k u)):=by
 induction r with
 | nil=>exact .nil
 | @cons p q ps qs h t ih=>
  rw [aM,aM]
  refine .cons ?_ ih
  obtain⟨h1,h2,h3⟩:=h
  unfold putAt
  by_cases e:p.1=k
  ·rw [if_pos e,if_pos (h1.symm.trans e)];exact⟨h1,h2,ry⟩
  ·rw [if_neg e,if_neg (fun z=>e (h1.trans z))];exact⟨h1,h2,h3⟩
theorem KT.put {H:Hp} {kvs:List (List Key×V)} {xs:List (List Key×Addr×Value)} (r:KT H kvs xs) (k:List Key) {b:Addr} {y:V} {u:Value} (hb:H b=some (.tup (k.map kV))) (ry:RelV y u) :
  KT H (C9 kvs k y) (storedH xs k b u):=by
 have e:(kvs.any fun kv=>decide (kv.1=k))=(jI xs k).isSome:=by
  rw [Es,(r.val k).isSome_eq,gJ]
 unfold C9 storedH
 rw [e]
 by_cases q:(jI xs k).isSome=true
 ·rw [if_pos q,if_pos q];exact r.repl k ry
 ·rw [if_neg q,if_neg q];exact Paired.snoc r ⟨rfl,hb,ry⟩
theorem KT.keeps {H H':Hp} {kvs:List (List Key×V)} {xs:List (List Key×Addr×Value)} (r:KT H kvs xs) (ht:∀ b ys,H b=some (.tup ys)->H' b=some (.tup ys)):KT H' kvs xs:=
 Paired.mapP r fun _ _ z=>⟨z.1,ht _ _ z.2.1,z.2.2⟩
section
variable {P:aH} {w:bh} {H:Hp} {h:Heap} {a:Addr}
theorem a28 {u:HO} (ok:HOk P w H h) (e:Rd H a u):ObjOk P w H h a u:=e.ok ok
theorem D2 {kvs:List (Key×V)} (ok:HOk P w H h) (e:Rd H a (.dK kvs)):kvs.length<=sizeLine/\(a==cE)=false /\ ∃ vs,KV kvs vs/\h.DictOf (As P w) a vs:=
 show ObjOk P w H h a (.dK kvs) from a28 ok e
theorem ab7 {kvs:List (Key×V)} (ok:HOk P w H h) (e:H a=some (.dK kvs)):kvs.length<=sizeLine/\(a==cE)=false /\ ∃ vs,KV kvs vs/\h.DictOf (As P w) a vs:=D2 ok (.inl e)
theorem Eh {ks:List Key} (ok:HOk P w H h) (e:H a=some (.tup (ks.map kV))):(f9 (As P w)).is h ks a:=by
 obtain⟨_,its,r,o,h1,h2,n,h3⟩:=(show ObjOk P w H h a (.tup (ks.map kV)) from ok a _ e)
 exact⟨o,its.toArray,n,h1,h2,h3,by simpa using L5 r⟩
theorem Im {kvs:List (List Key×V)} (ok:HOk P w H h) (e:Rd H a (.dT kvs)):kvs.length<=sizeLine/\(a==cE)=false /\
  ∃ xs,KT H kvs xs/\h.DictOfH (f9 (As P w)) a xs:=by
 obtain⟨z,y,xs,r,o,es,ep,h1,h2,h3,h4,h5⟩:=(show ObjOk P w H h a (.dT kvs) from a28 ok e)
 refine⟨z,y,xs,r,o,es,ep,h1,h2,h3,h4,fun x hx=>?_,h5⟩
 have all:∀ {l:List (List Key×V)} {m:List (List Key×Addr×Value)},KT H l m -> ∀ x∈m,(f9 (As P w)).is h x.1 x.2.1:=by
  intro l m q
  induction q with
  | nil=>intro x hx;exact nomatch hx
  | @cons p q ps qs hq t ih=>
   intro x hx
   rcases List.mem_cons.mp hx with e|hx
   ·subst e
    exact Eh ok (by rw [<- hq.1];exact hq.2.1)
   ·exact ih x hx
 exact all r x hx
theorem ax3 {kvs:List (List Key×V)} (ok:HOk P w H h) (e:H a=some (.dT kvs)):kvs.length<=sizeLine/\(a==cE)=false /\
  ∃ xs,KT H kvs xs/\h.DictOfH (f9 (As P w)) a xs:=Im ok (.inl e)
end
noncomputable def D9 (H:Hp) (a:Addr) (y:V) (r:Option V):Prop:=
 (∃ kvs k,Rd H a (.dK kvs)/\y=kV k/\r=A9 kvs k) \/ ∃ kvs k b,Rd H a (.dT kvs)/\y=.ref b/\H b=some (.tup (k.map kV))/\r=A9 kvs k
noncomputable def DPut (H:Hp) (a:Addr) (y v:V) (H':Hp):Prop:=
 (∃ kvs k,H a=some (.dK kvs)/\y=kV k/\kvs.length<sizeLine/\H'=upd H a (.dK (C9 kvs k v))) \/
 ∃ kvs k b,H a=some (.dT kvs)/\y=.ref b/\H b=some (.tup (k.map kV))/\kvs.length<sizeLine/\H'=upd H a (.dT (C9 kvs k v))
theorem DPut.k {H:Hp} {a:Addr} {kvs:List (Key×V)} {k:Key} {v:V} (e:H a=some (.dK kvs)) (hl:kvs.length<sizeLine):DPut H a (kV k) v (upd H a (.dK (C9 kvs k v))):=.inl ⟨kvs,k,e,rfl,hl,rfl⟩
section
variable {X:Cx} {pins:List (Addr×Obj)} {σ:St} {H:Hp} {s:ah} {a:Addr} {y v:V} {u r:Value} {o:Option V} {A:a_} {E:Value->ah->Prop}
theorem Inv.big (I:Inv X pins σ H s):cE<s.heap.objs.size:=by
 have h:aG<s.heap.objs.size:=(I.mod.glob.keeps I.bk).lt
 exact ij (by decide) h
theorem Wm {Q:Value->ah->Prop} (hu:A.units+1<cLine) (I:Inv X pins σ H s) (g:D9 H a y (some v)) (ry:RelV y u) (h:∀ w' s',Inv X pins σ H s'->RelV v w'->Q w' s') :
  aJ (model X.prog X.w) A (i8 (.ref a) u) Q E s:=by
 rcases g with ⟨kvs,k,e,ey,l⟩|⟨kvs,k,b,e,ey,eb,l⟩
 ·subst ey
  obtain⟨z,hd,vs,rel,dd⟩:=D2 I.hok e
  obtain⟨w',hw,rw'⟩:=RelO.some_of (v:=v) (o:=gB vs k) (by rw [l];exact rel.val k)
  exact wpAny_getItem_of (D3 ry) dd.mapOf hw (h w' _ (I.tok _) rw')
 ·subst ey
  cases (show u=az b from ry)
  obtain⟨z,hd,xs,rel,dd⟩:=Im I.hok e
  obtain⟨w',hw,rw'⟩:=RelO.some_of (v:=v) (o:=(jI xs k).map (·.2)) (by rw [l];exact rel.val k)
  obtain⟨p,hp,hp2⟩:=Option.map_eq_some_iff.mp hw
  refine wpAny_getItem_heap (cF hu) (Eh I.hok eb) dd hp ?_
  rw [hp2]
  exact h w' _ (I.tok _) rw'
theorem cs0 {Q:Value->ah->Prop} (hu:A.units+1<cLine) (I:Inv X pins σ H s) (g:D9 H a y o) (ry:RelV y u) (h:∀ s',Inv X pins σ H s'->Q (.bool o.isSome) s') :
  aJ (model X.prog X.w) A (b7 .In u (.ref a)) Q E s:=by
 rcases g with ⟨kvs,k,e,ey,l⟩|⟨kvs,k,b,e,ey,eb,l⟩
 ·subst ey
  obtain⟨z,hd,vs,rel,dd⟩:=D2 I.hok e
  refine jW (D3 ry) hd dd.mapOf ?_
  rw [<- (rel.val k).isSome_eq,<- l]
  exact h _ (I.tok _)
 ·subst ey
  cases (show u=az b from ry)
  obtain⟨z,hd,xs,rel,dd⟩:=Im I.hok e
  refine wpAny_in_heap (cF hu) (Eh I.hok eb) hd dd ?_
  have q:=(rel.val k).isSome_eq
  rw [gJ] at q
  rw [<- q,<- l]
  exact h _ (I.tok _)
theorem ap4 {Q:Value->ah->Prop} (hu:A.units+1<cLine) (I:Inv X pins σ H s) (g:D9 H a y o) (ry:RelV y u) (h:∀ s',Inv X pins σ H s'->Q (.bool (!o.isSome)) s') :
  aJ (model X.prog X.w) A (b7 .NotIn u (.ref a)) Q E s:=by
 rcases g with ⟨kvs,k,e,ey,l⟩|⟨kvs,k,b,e,ey,eb,l⟩
 ·subst ey
  obtain⟨z,hd,vs,rel,dd⟩:=D2 I.hok e
  refine iP (D3 ry) hd dd.mapOf ?_
  rw [<- (rel.val k).isSome_eq,<- l]
  exact h _ (I.tok _)
 ·subst ey
  cases (show u=az b from ry)
  obtain⟨z,hd,xs,rel,dd⟩:=Im I.hok e
  refine wpAny_notIn_heap (cF hu) (Eh I.hok eb) hd dd ?_
  have q:=(rel.val k).isSome_eq
  rw [gJ] at q
  rw [<- q,<- l]
  exact h _ (I.tok _)
theorem Fp {h':Heap} {t':Nat} {ob:HO} (I:Inv X pins σ H s) (mu:Mut (H a)) (hs:bA a s.heap h') (he:∃ q,h'.get? a=some q) (new:ObjOk X.prog X.w (upd H a ob) h' a ob) (ht:s.toks<=t':=by first|exact ac _|exact bc _ _|assumption|omega|(dsimp only;omega)) :
  Inv X pins σ (upd H a ob) { s with heap:=h',toks:=t' }:=
 I.write (x:=a) (e:=a) mu (.inl rfl) (fun b q hb z=>(hs.2 b hb).trans z) he new
theorem Ro {P:aH} {w:bh} {H':Hp} {h':Heap} {kvs:List (Key×V)} {vs:List (Key×Value)} (z:kvs.length<=sizeLine) (hd:(a==cE)=false) (rel:KV kvs vs) (dd:h'.DictOf (As P w) a vs) :
  ObjOk P w H' h' a (.dK kvs):=⟨z,hd,vs,rel,dd⟩
theorem Wn {H':Hp} {Q:Unit->ah->Prop} (hu:A.units+1<cLine) (I:Inv X pins σ H s) (g:DPut H a y v H') (ry:RelV y u) (rv:RelV v r) (h:∀ s',Inv X pins σ H' s'->Q () s') :
  aJ (model X.prog X.w) A (setItem (.ref a) u r) Q E s:=by
 rcases g with ⟨kvs,k,e,ey,l,eH⟩|⟨kvs,k,b,e,ey,eb,l,eH⟩
 ·subst ey eH
  obtain⟨z,hd,vs,rel,dd⟩:=ab7 I.hok e
  have hz:vs.length<=sizeLine:=by rw [<- rel.length];exact z
  have hl:(C9 kvs k v).length<=sizeLine:=by have:=Co kvs k v;omega
  refine wpAny_setItem_pairs (hsz:=hz) (D3 ry) dd fun h' dd' hs=>h _ ?_
  have he:∃ q,h'.get? a=some q:=let ⟨q,_,_,hq,_⟩:=dd';⟨q,hq⟩
  exact Fp I (by rw [e];exact bv) hs he (Ro hl hd (rel.put k rv) dd')
 ·subst ey eH
  cases (show u=az b from ry)
  obtain⟨z,hd,xs,rel,dd⟩:=ax3 I.hok e
  have hz:xs.length<=sizeLine:=by rw [<- fO rel];exact z
  have hl:(C9 kvs k v).length<=sizeLine:=by have:=Co kvs k v;omega
  refine wpAny_setItem_heap (hsz:=hz) (cF hu) (Eh I.hok eb) dd fun h' dd' hs=>h _ ?_
  obtain⟨q,es,ep,hq,h2,h3,h4,_,h5⟩:=dd'
  refine Fp I (by rw [e];exact bv) hs ⟨q,hq⟩ ⟨hl,hd,_,(rel.put k eb rv).keeps fun c ys ec=>?_,q,es,ep,hq,h2,h3,h4,h5⟩
  rw [Ak (a15 ec e (fun z=>nomatch z))]
  exact ec
end
section
variable {X:Cx} {pins:List (Addr×Obj)} {σ:St} {H:Hp} {s:ah} {a:Addr} {kvs:List (Key×V)} {k:Key} {u:Value} {A:a_} {E:Value->ah->Prop}
theorem b63 {v:V} {more:List Value} {Q:Value->ah->Prop} (I:Inv X pins σ H s) (e:H a=some (.dK kvs)) (ry:RelV (kV k) u) (l:A9 kvs k=some v) (hm:more=[] \/ ∃ x,more=[x])
  (h:∀ w' s',Inv X pins σ (upd H a (.dK (Ha kvs k))) s'->RelV v w'->Q w' s'):aJ (model X.prog X.w) A (call (.builtin "dict.pop") (.ref a::u::more)) Q E s:=by
 obtain⟨z,hd,vs,rel,dd⟩:=ab7 I.hok e
 obtain⟨w',hw,rw'⟩:=RelO.some_of (v:=v) (o:=gB vs k) (by rw [<- l];exact rel.val k)
 have hp:(keyPart u).isSome=true:=by
  cases k with
  | inl i=>obtain⟨t,q⟩:=(show ∃ t,u=ir i t from ry);subst q;rfl
  | inr x=>obtain⟨t,q⟩:=(show ∃ t,u=fH x t from ry);subst q;rfl
 have ha:argsOk "dict.pop" ⟨.ref a::u::more,[]⟩:=by
  rcases hm with q|⟨x,q⟩
  ·subst q;exact PySem.F.args_dict_pop_2 _ _
  ·subst q;exact PySem.F.args_dict_pop_3 _ _ _
 refine eT ik dd.typeIs PySem.F.entry_dict_pop ha (meets_dict_pop_there (As X.prog X.w) a (D3 ry) more hm hp)
  ⟨vs,w',dd,by rw [<- rel.length];exact z,hw,fun h' dd' hs=>h w' _ ?_ rw'⟩
 have he:∃ q,h'.get? a=some q:=let ⟨q,_,_,hq,_⟩:=dd';⟨q,hq⟩
 exact Fp I (by rw [e];exact bv) hs he (Ro (aR (ab8 kvs k) z) hd (rel.drop k) dd')
theorem b62 {Q:Value->ah->Prop} (I:Inv X pins σ H s) (e:Rd H a (.dK kvs)) (h:∀ t s',Inv X pins σ H s'->Q (.int kvs.length t) s'):aJ (model X.prog X.w) A (call (.builtin "len") [.ref a]) Q E s:=by
 obtain⟨z,hd,vs,rel,dd⟩:=D2 I.hok e
 refine call_len_dict hd dd (by rw [<- rel.length];rw [bj] at z;omega) ?_
 rw [<- rel.length]
 exact h _ _ (I.tok _)
end
theorem Qa {X:Cx} {pins:List (Addr×Obj)} {σ:St} {H:Hp} {s:ah} {a:Addr} {y:V} {o:Option V} (I:Inv X pins σ H s) (g:D9 H a y o):s.TypeIs (.ref a) "dict" := by
 rcases g with ⟨kvs,k,e,_,_⟩|⟨kvs,k,b,e,_,_,_⟩
 ·obtain⟨_,_,vs,_,dd⟩:=D2 I.hok e
  exact dd.typeIs
 ·obtain⟨_,_,xs,_,dd⟩:=Im I.hok e
  exact dd.typeIs
section
variable {X:Cx} {o i e value:Expr} {pos pos' tpos:Pos} {td ty tv:TE}
end
theorem ab6 {P:aH} {w:bh} {H:Hp} (h:Heap) (hb:cE<h.objs.size):ObjOk P w H (h.push { cls:=.type "dict", data:=.dict #[] }) h.objs.size (.dK []):=
 ⟨bC _,beq_eq_false_iff_ne.mpr (cz (aQ hb)),[],.nil,Heap.DictOf.new h⟩
theorem ab9 {P:aH} {w:bh} {H:Hp} (h:Heap) (hb:cE<h.objs.size):ObjOk P w H (h.push { cls:=.type "dict", data:=.dict #[] }) h.objs.size (.dT []):=
 ⟨bC _,beq_eq_false_iff_ne.mpr (cz (aQ hb)),[],.nil,_,#[],0,aF _ rfl,⟨rfl,rfl,rfl⟩,rfl,rfl,iJ⟩
section
variable {X:Cx} {pos:Pos}
end
section
variable {X:Cx} {pins:List (Addr×Obj)} {σ:St} {H:Hp} {s:ah} {a:Addr} {y d:V} {u r:Value} {o:Option V} {A:a_} {E:Value->ah->Prop}
theorem a97 {Q:Value->ah->Prop} (hu:A.units+1<cLine) (I:Inv X pins σ H s) (g:D9 H a y o) (ry:RelV y u) (h:∀ w' s',Inv X pins σ H s'->RelV (o.getD .non) w'->Q w' s') :
  aJ (model X.prog X.w) A (call (.builtin "dict.get") [.ref a,u]) Q E s:=by
 rcases g with ⟨kvs,k,e,ey,l⟩|⟨kvs,k,b,e,ey,eb,l⟩
 ·subst ey
  obtain⟨z,hd,vs,rel,dd⟩:=D2 I.hok e
  refine eT cX dd.typeIs dN (gR _ _) (meets_dict_get (As X.prog X.w) a (D3 ry) hd) ⟨_,dd.mapOf,h _ _ (I.tok _) ?_⟩
  rw [l]
  exact (rel.val k).getD rfl
 ·subst ey
  cases (show u=az b from ry)
  obtain⟨z,hd,xs,rel,dd⟩:=Im I.hok e
  refine eT cX dd.typeIs dN (gR _ _) (meetsH_dict_get (f9 (As X.prog X.w)) a b hd) ⟨cF hu,k,xs,Eh I.hok eb,dd,h _ _ (I.tok _) ?_⟩
  rw [l]
  exact (rel.val k).getD rfl
theorem a98 {Q:Value->ah->Prop} (hu:A.units+1<cLine) (I:Inv X pins σ H s) (g:D9 H a y o) (ry:RelV y u) (rd:RelV d r) (h:∀ w' s',Inv X pins σ H s'->RelV (o.getD d) w'->Q w' s') :
  aJ (model X.prog X.w) A (call (.builtin "dict.get") [.ref a,u,r]) Q E s:=by
 rcases g with ⟨kvs,k,e,ey,l⟩|⟨kvs,k,b,e,ey,eb,l⟩
 ·subst ey
  obtain⟨z,hd,vs,rel,dd⟩:=D2 I.hok e
  refine eT cX dd.typeIs dN (gS _ _ _) (meets_dict_get_default (As X.prog X.w) a (D3 ry) hd r) ⟨_,dd.mapOf,h _ _ (I.tok _) ?_⟩
  rw [l]
  exact (rel.val k).getD rd
 ·subst ey
  cases (show u=az b from ry)
  obtain⟨z,hd,xs,rel,dd⟩:=Im I.hok e
  refine eT cX dd.typeIs dN (gS _ _ _) (meetsH_dict_get_default (f9 (As X.prog X.w)) a b hd r) ⟨cF hu,k,xs,Eh I.hok eb,dd,h _ _ (I.tok _) ?_⟩
  rw [l]
  exact (rel.val k).getD rd
end
section
variable {X:Cx} {o e f:Expr} {apos cpos:Pos} {td ty tx:TE}
end
section
variable {X:Cx} {pins:List (Addr×Obj)} {σ:St} {H:Hp} {s:ah} {a:Addr} {kvs:List (Key×V)} {A:a_} {E:Value->ah->Prop}
end
section
variable {X:Cx} {pins:List (Addr×Obj)} {σ:St} {H:Hp} {s:ah} {a:Addr} {y:V} {u:Value} {A:a_} {E:Value->ah->Prop}
end
noncomputable abbrev EK:=Addr->Hp->Prop
noncomputable abbrev DE:=St->Hp->VK->EK->Prop
noncomputable abbrev DT:=St->Hp->(Bool->Hp->Prop)->EK->Prop
noncomputable abbrev DA:=St->Hp->(List V->Hp->Prop)->EK->Prop
structure Oj where
 nx:St->Hp->Prop
 rt:VK
 bk:St->Hp->Prop
 ct:St->Hp->Prop
 ex:St->EK
noncomputable abbrev DS:=Oj->St->Hp->Prop
noncomputable abbrev Av (C:Addr) (dx:Option Addr) (vs:Array Value):Obj:={ cls:=.ref C,dict:=dx,data:=.fields vs }
noncomputable def D4 (a C:Addr) (dx:Option Addr):HO:=.ext fun h=>∃ vs:Array Value,h.get? a=some (Av C dx vs)/\vs.size=6/\vs[1]? = some .none/\vs[2]? = some .none
noncomputable def flO (a C:Addr) (dx:Option Addr):HO:=.ext fun h=>∃ vs:Array Value,h.get? a=some (Av C dx vs)/\vs.size=6/\vs[2]? = some .none
noncomputable def fcO (a C:Addr) (dx:Option Addr):HO:=.ext fun h=>∃ vs:Array Value,h.get? a=some (Av C dx vs)/\vs.size=6
noncomputable def FlO (H:Hp) (a C:Addr) (dx:Option Addr):Prop:=H a=some (flO a C dx)\/H a=some (fcO a C dx)
noncomputable def xdO (dx:Addr) (fs:List (Str×V)):HO:=.ext fun h=>fs.length<=1000 /\ ∃ mA,h.Ns1 dx mA/\(∀ f,RelO (fs.lookup f) (mA f))/\dw mA (fs.map (·.1))
noncomputable def E5 (X:Cx) (pins:List (Addr×Obj)) (H:Hp) (a:Addr) (s:ah):Prop:=
 ∃ (C:Addr) (dx:Option Addr) (vs:Array Value),FlO H a C dx/\s.heap.get? a=some (Av C dx vs)/\vs.size=6 /\
  (vs[1]? = some .none \/ ∃ (T:Addr) (oT:Obj) (ts:Array Value),vs[1]? = some (.ref T)/\T≠a/\s.heap.get? T=some oT/\oT.data=.fields ts/\(∃ z,ts[3]? = some z)/\Ct X pins H T)
noncomputable def Meets (X:Cx) (Ex:St->EK):Prop:=
 ∀ (pins:List (Addr×Obj)) (σ:St) (H:Hp) (s:ah) (a:Addr),Inv X pins σ H s->E5 X pins H a s->Ex σ a H->X.xe (.ref a) s
noncomputable def QE (X:Cx) (e:Expr) (t:DE):Prop:=∀ Ex,Meets X Ex->PE X e (fun σ H Q=>t σ H Q (Ex σ))
noncomputable def QT (X:Cx) (e:Expr) (t:DT):Prop:=∀ Ex,Meets X Ex->PT X e (fun σ H Q=>t σ H Q (Ex σ))
noncomputable def QW (X:Cx) (e:Expr) (t:DT):Prop:=∀ Ex,Meets X Ex->PW X e (fun σ H Q=>t σ H Q (Ex σ))
noncomputable def QA (X:Cx) (es:List Expr) (t:DA):Prop:=∀ Ex,Meets X Ex->PA X es (fun σ H Q=>t σ H Q (Ex σ))
noncomputable def as1 (Ex:St->EK) (D:La):Oj:=⟨D.nx,D.rt,D.bk,D.ct,Ex⟩
noncomputable def QS (X:Cx) (st:Stmt) (t:DS):Prop:=∀ Ex,Meets X Ex->PS X st (fun D σ H=>t (as1 Ex D) σ H)
noncomputable def QSs (X:Cx) (st:List Stmt) (t:DS):Prop:=∀ Ex,Meets X Ex->PSs X st (fun D σ H=>t (as1 Ex D) σ H)
noncomputable def dNo:DE:=fun _ _ _ _=>False
noncomputable def Ac (i:Nat):DE:=fun σ H Q _=>match σ[i]? with
 | some (some v)=>Q v H
 | _=>False
noncomputable def dC (v:V):DE:=fun _ H Q _=>Q v H
noncomputable def Ah (r:R2) (a b:DE):DE:=fun σ H Q E=>a σ H (fun x H1=>b σ H1 (fun y H2=>r x y H2 Q) E) E
noncomputable def dUn (r:V->Hp->VK->Prop) (a:DE):DE:=fun σ H Q E=>a σ H (fun x H1=>r x H1 Q) E
noncomputable def C2 (r r':R2) (a b c:DE):DE:=fun σ H Q E=>a σ H (fun x H1=>b σ H1 (fun y H2=>r x y H2 fun z H3=>match z with
 | .bl k=>if k=true then c σ H3 (fun w H4=>r' y w H4 Q) E else Q (.bl false) H3
 | _=>False) E) E
noncomputable def E8 (a b:DT):DT:=fun σ H Q E=>a σ H (fun k H1=>if k=true then b σ H1 Q E else Q false H1) E
noncomputable def dOr (a b:DT):DT:=fun σ H Q E=>a σ H (fun k H1=>if k=true then Q true H1 else b σ H1 Q E) E
noncomputable def Hi (a:DT):DT:=fun σ H Q E=>a σ H (fun k H1=>Q (!k) H1) E
noncomputable def b61 (t:DT) (a b:DE):DE:=fun σ H Q E=>t σ H (fun k H1=>if k=true then a σ H1 Q E else b σ H1 Q E) E
noncomputable def an3 (K:aa) (x:V) (H:Hp) (Q:Bool->Hp->Prop):Prop:=match x with
 | .bl k=>Q k H
 | .non=>Q false H
 | .int i=>Q (i != 0) H
 | .str y=>y.length<=sizeLine/\Q ((y.length:Int) != 0) H
 | .ref p=>∃ k,b57 K (.ref p) H k/\Q k H
 | _=>False
noncomputable def Cu (K:aa) (a b:DE):DE:=fun σ H Q E=>a σ H (fun x H1=>an3 K x H1 fun k H2=>if k=true then b σ H2 Q E else Q x H2) E
noncomputable def ab2 (K:aa) (a b:DE):DE:=fun σ H Q E=>a σ H (fun x H1=>an3 K x H1 fun k H2=>if k=true then Q x H2 else b σ H2 Q E) E
noncomputable def ab1 (K:aa) (a:DE):DE:=fun σ H Q E=>a σ H (fun x H1=>an3 K x H1 fun k H2=>Q (.bl (!k)) H2) E
noncomputable def Fo (K:aa) (a:DE):DT:=fun σ H Q E=>a σ H (fun x H1=>an3 K x H1 Q) E
noncomputable def A0 (a:DE):DT:=fun σ H Q E=>a σ H (fun x H1=>match x with
 | .bl k=>Q k H1
 | _=>False) E
noncomputable def Ai:DA:=fun _ H Q _=>Q [] H
noncomputable def Ab (a:DE) (r:DA):DA:=fun σ H Q E=>a σ H (fun x H1=>r σ H1 (fun xs H2=>Q (x::xs) H2) E) E
noncomputable def Cl (t:DA):DE:=fun σ H Q E=>t σ H (fun xs H1=>xs.length<=sizeLine /\ ∀ p,H1 p=none->Q (.ref p) (upd H1 p (.tup xs))) E
noncomputable def Dj (t:DA):DE:=fun σ H Q E=>t σ H (fun xs H1=>xs.length<=sizeLine /\ ∀ p,H1 p=none->Q (.ref p) (upd H1 p (.lst xs))) E
noncomputable def dFn (r:List V->Hp->VK->EK->Prop) (t:DA):DE:=fun σ H Q E=>t σ H (fun vs H1=>r vs H1 Q E) E
noncomputable def dMt (r:V->Hp->(Hp->(List V->Hp->Prop)->Prop)->VK->Prop) (o:DE) (t:DA):DE:=fun σ H Q E=>o σ H (fun x H1=>r x H1 (fun H2 R=>t σ H2 R E) Q) E
noncomputable def Ae:DS:=fun D σ H=>D.nx σ H
noncomputable def B3:DS:=fun _ _ _=>False
noncomputable def Af (t u:DS):DS:=fun D σ H=>t { D with nx:=u D } σ H
noncomputable def Ar (e:DE):DS:=fun D σ H=>e σ H D.rt (D.ex σ)
noncomputable def ax2:DS:=fun D _ H=>D.rt .non H
noncomputable def A3 (e:DE):DS:=fun D σ H=>e σ H (fun _ H1=>D.nx σ H1) (D.ex σ)
noncomputable def dIf (c:DT) (t u:DS):DS:=fun D σ H=>c σ H (fun b H1=>if b=true then t D σ H1 else u D σ H1) (D.ex σ)
noncomputable def b58:DS:=fun D σ H=>D.bk σ H
noncomputable def b60:DS:=fun D σ H=>D.ct σ H
noncomputable def A6 (i:Nat) (e:DE):DS:=fun D σ H=>e σ H (fun v H1=>D.nx (σ.set i (some v)) H1) (D.ex σ)
noncomputable abbrev DG:=TG
noncomputable def Lc (e:DE) (g:DG):DS:=fun D σ H=>e σ H (fun v H1=>g v σ H1 D.nx) (D.ex σ)
noncomputable abbrev DI:=St->Hp->(It->Hp->Prop)->EK->Prop
noncomputable def Go (c:DT) (tb:DS):DS:=fun D σ H=>∃ W:Nat->St->Hp->Prop,(∃ m,W m σ H) /\ ∀ m σ H,W m σ H ->
 c σ H (fun b H1=>if b=true then ∃ N:St->Hp->Prop,(∀ σ' H',N σ' H' -> ∃ m',m'<m/\W m' σ' H')/\tb { D with nx:=N,ct:=N,bk:=D.nx } σ H1 else D.nx σ H1) (D.ex σ)
noncomputable def b52 (J:It) (g:DG) (tb:DS) (D:Oj) (σ:St) (H:Hp):Prop:=∃ W:Nat->Nat->St->Hp->Prop,(∃ m,W 0 m σ H) /\ ∀ i m σ H,W i m σ H ->
 (J.stop i H/\D.nx σ H)\/(J.go i H /\ ∃ N:St->Hp->Prop,(∀ σ' H',N σ' H' -> ∃ m',m'<m/\W (i+1) m' σ' H') /\ ∀ x H',J.yld i H x H'->g x σ H' (fun σ2 H2=>tb { D with nx:=N,ct:=N,bk:=D.nx } σ2 H2))
noncomputable def Thaw (H0 H:Hp) (P:Hp->Prop):Prop:=P H \/ ∃ p o kvs,H0 p=some (.dK kvs)/\H p=some (.frz o (.dK kvs))/\P (upd H p (.dK kvs))
noncomputable def M0 (wi:DI) (g:DG) (tb:DS):DS:=fun D σ H=>wi σ H (fun J H1=>b52 J g tb { D with nx:=fun σ' H'=>Thaw H H' (D.nx σ') } σ H1) (D.ex σ)
noncomputable def Wc (J:It) (g:DG) (tc:DT) (te:DE) (D:Addr) (R:Hp->Prop) (σ:St) (H:Hp) (E:EK):Prop:=
 ∃ W:Nat->Nat->St->Hp->Prop,(∃ m,W 0 m σ H) /\ ∀ i m σ' H',W i m σ' H' ->
  (J.stop i H'/\R H')\/(J.go i H' /\ ∃ N:St->Hp->Prop,(∀ σ2 H2,N σ2 H2 -> ∃ m',m'<m/\W (i+1) m' σ2 H2) /\ ∀ x H2,J.yld i H' x H2->g x σ' H2 (fun σ3 H3=>tc σ3 H3 (fun b H4=>if b=true then
    te σ3 H4 (fun v H5=>∃ ys,H5 D=some (.lst ys)/\ys.length<sizeLine/\N σ3 (upd H5 D (.lst (ys++[v])))) E
   else N σ3 H4) E))
noncomputable def C3 (srcs:List (Option Nat)) (wi:DI) (g:DG) (tc:DT) (te:DE):DE:=fun σ H Q E=>wi σ H (fun J H1=>∀ D,H1 D=none->Wc J g tc te D (fun H'=>Q (.ref D) H') (Wj srcs σ) (upd H1 D (.lst [])) E) E
noncomputable def Eb:DT:=fun _ H Q _=>Q true H
noncomputable def gdN (i:Nat):DG:=fun v σ H Q=>Q (σ.set i (some v)) H
end L2
namespace L2
open PySem PySem.Spec PyProof.Rows PySem.W
section
variable {prog:aH} {w:bh} {A:a_} {E:Value->ah->Prop} {s:ah} {K:aa} {x C:Addr} {ox:Obj} {od:Option Obj} {name:Str} {expr:Bool} {Q:Value->ah->Prop}
theorem P5 (self:Value):gX (.builtin "BaseException.__getattribute__") self=pure (.builtin "BaseException.__getattribute__", [self]):=by
 have hop:withoutEnding? "BaseException.__getattribute__" "#opaque" = none:=by decide +kernel
 have hdat:withoutEnding? "BaseException.__getattribute__" "#data" = none:=by decide +kernel
 have hk:builtinKind "BaseException.__getattribute__" = some .slot:=by decide +kernel
 simp only [gX,typeOf,builtinType,hop,hdat,hk];rfl
theorem aq0 {v:Value} (X:K.In s.heap) (I:eF s.heap x ox C od) (hga:ae K (.ref C) "__getattribute__" = some (some (.builtin "BaseException.__getattribute__"))) (hgt:ae K (.ref C) "__getattr__" = some none)
  (hB:bb K C (.type "BaseException")=some true) (hf:PySem.W.findObj K C od name=some (.value v)) (hh:eJ v=true) (h:Q v { s with toks:=s.toks+1 }) :
  aJ (model prog w) A (i7 (.ref x) name expr) Q E s:=by
 obtain⟨hp,g,d,t,os⟩:=s
 have L0:=I.type (M:=model prog w)
 have L1:=cH (M:=model prog w) X hga
 have L2:=cH (M:=model prog w) X hgt
 have L3:=jd (M:=model prog w) X I hf
 have L4:=iW (M:=model prog w) X hB
 unfold i7 getAttrBy
 refine af (wpAny_mkText (bq (af (L0.at (af (L1.at ?_))))))
 have hx2:(cJ "BaseException.__getattribute__" == cJ "object.__getattribute__")=false:=by decide +kernel
 have hx1:(jQ (az C)&&cJ "BaseException.__getattribute__" == cJ "object.__getattribute__")=false:=by rw [hx2];rfl
 dsimp only
 rw [hx1,if_neg ak]
 unfold getAttrByItsOwn
 refine af (show aJ _ _ (eV (.ref C) "__getattr__") _ _ _ from L2.at ?_)
 refine af (gZ (bq ?_))
 have hx0:(expr&&jQ (cJ "BaseException.__getattribute__"))=false:=by cases expr <;> rfl
 unfold callGetattribute
 rw [hx0,if_neg ak]
 unfold boundAndCalled
 rw [P5]
 refine af (ar ?_)
 refine dm (c7 (by decide +kernel) F.entry_bexc_ga (check_slot (i := "BaseException.__getattribute__") (owner := "BaseException") (n := "__getattribute__") (by decide +kernel) (by decide +kernel) (L0.andThen L4) (F.args_bexc_ga _ _) ?_))
 unfold bg.«object.__getattribute__»
 refine af (ar (af (ar (af (L0.at (af (L3.at ?_)))))))
 refine ar ?_
 show aJ _ _ (handedOut v) _ _ _
 rw [iH hh]
 exact ar h
end
end L2
namespace L2
open PySem PySem.Spec PyProof.Rows PySem.W Builtin Builtin.ObjectAttr
noncomputable def A1:List Value->Bool
 | [.type a,.type b,.type c,.type d]=>a == "ValueError" && b == "Exception" && c == "BaseException" && d == "object"
 | .ref _::r=>A1 r
 | _=>false
noncomputable def valTail:List Value:=[.type "ValueError", .type "Exception", .type "BaseException", .type "object"]
theorem So (self:Value):refuseLoop self "__setattr__" valTail=pure ():=by kernel_rfl
theorem C5:∀ {l:List Value},A1 l=true -> ∃ rs:List Addr,l=rs.map az++valTail
 | [.type a,.type b,.type c,.type d],e=>by
  have e:(a == "ValueError" && b == "Exception" && c == "BaseException" && d == "object")=true:=e
  simp only [aw,beq_iff_eq] at e
  obtain⟨⟨⟨rfl,rfl⟩,rfl⟩,rfl⟩:=e
  exact⟨[],rfl⟩
 | .ref a::r,e=>by
  have e:A1 r=true:=by cases r <;> first|exact e|cases e
  obtain⟨rs,h⟩:=C5 e
  exact⟨a::rs,by rw [h];rfl⟩
theorem Sn (self:Value) (rs:List Addr):refuseLoop self "__setattr__" (rs.map az++valTail)=pure ():=by
 induction rs with
 | nil=>exact So self
 | cons a r ih=>rw [aM,eG,refuseLoop_ref];exact ih
theorem Q8 (rs:List Addr) {T:String} (h:valTail.contains (.type T)=true):(rs.map az++valTail).contains (.type T)=true:=by
 induction rs with
 | nil=>exact h
 | cons a r ih=>rw [aM,eG,bn,ih,eP]
section
variable {prog:aH} {w:bh} {A:a_} {s:ah} {K:aa} {x C:Addr} {R:jB->ah->Prop}
theorem Md {ox:Obj} {od:Option Obj} {name:Str} {tk:Tok} {v:Value} {cd:ClassData} (X:K.In s.heap) (I:eF s.heap x ox C od) (hc:clsIn K C=some cd) (hp:A1 cd.mro=true) (ht:findIn K (.ref C) name=some none)
  (h:aJ (model prog w) A.in1 (storeInOwnDict (.ref x) (.ref C) (.str name tk) name v false)
   (fun fin s'=>match fin with | .done f=>R (.ok f) s' | .again c'=>c'.quiet=true/\eB (model prog w) A c' R s') (fun e s'=>R (.error e) s') s) :
  eB (model prog w) A (.call (.builtin "object.__setattr__") ⟨[.ref x,.str name tk,v],[]⟩) R s:=by
 have SF:=PySem.F.store_object
 obtain⟨rs,hm⟩:=C5 hp
 have ne:cd.mro.isEmpty=false:=by rw [hm];cases rs <;> rfl
 have sub:Looks (model prog w) s.heap (js (.ref x) (.type "object")) true:=I.type.andThen (looks_mroIn X (by unfold mroIn;rw [hc,cf,if_neg (by rw [ne];decide),hm,Q8 rs (by decide +kernel)]))
 refine c7 SF.slot.plain SF.entry (@check_slot (model prog w) _ _ s "object.__setattr__" "object" "__setattr__" (.ref x) [.str name tk,v] [] _ SF.kind SF.split sub (SF.args (.ref x) (.str name tk) v) ?_)
 have hmr:Looks (model prog w) s.heap (mroOf (.ref C)) cd.mro:=(looks_clsIn X hc).andThen .now
 rw [osa_eq,refuse_eq]
 refine af (af (I.type.here (af (hmr.here ?_))))
 rw [hm,Sn]
 refine ar (af (I.type.here (af ((looks_findIn X ht).here (af (ar ?_))))))
 exact h
end
section
variable {prog:aH} {w:bh} {A:a_} {E:Value->ah->Prop} {s:ah} {K:aa} {x dx C f:Addr} {mA:Str->Option Value} {name:Str} {v:Value} {vs:Array Value}
theorem av4 {ns:List Str} {Q:Unit->ah->Prop} {cd:ClassData} (X:K.In s.heap) (hx:s.heap.get? x=some (Av C (some dx) vs)) (hn:s.heap.Ns1 dx mA) (hne:dx≠x)
  (hs:findIn K (.ref C) "__setattr__" = some (some (.builtin "object.__setattr__"))) (hc:clsIn K C=some cd) (hp:A1 cd.mro=true) (hd':cd.hasDict=true) (ht:findIn K (.ref C) name=some none)
  (hw:dw mA ns) (hsz:ns.length<=sizeLine)
  (h:∀ h',h'.get? x=some (Av C (some dx) vs)->h'.Ns1 dx (fun y=>if y=name then some v else mA y)->bA dx s.heap h'->Q () { s with heap:=h',toks:=s.toks+2 }) :
  aJ (model prog w) A (jU (.ref x) name v) Q E s:=by
 obtain⟨od,ho,hl⟩:=Gx hn
 have J:eF s.heap x (Av C (some dx) vs) C (some od):=⟨hx,rfl,rfl,ho⟩
 refine set_plain X J hs (Md (s:={ s with toks:=s.toks+1 }) X J hc hp ht ?_)
 refine af (ar (af (af (gE hx (af (Looks.here (s:={ s with toks:=s.toks+1 }) (looks_clsIn X hc) ?_))))))
 rw [hd']
 refine ar (a:=some dx) (af (ar (af ?_)))
 refine jG (s:={ s with toks:=s.toks+1 }) hn fun h' hn2 hs2=>?_
 obtain⟨oD,esD,epD,hoD,hdD,hcD⟩:=hn2.count (PySem.Within.cons name v hw)
 refine af (hJ hoD (by rw [hdD];exact g_ (aR hcD (by rw [aE];omega))) ?_)
 exact ar (h _ ((hs2.2 _ (cz hne)).trans hx) hn2 hs2)
theorem aj9 {Q:Unit->ah->Prop} {cd:ClassData} (X:K.In s.heap) (hx:s.heap.get? x=some (Av C none vs))
  (hs:findIn K (.ref C) "__setattr__" = some (some (.builtin "object.__setattr__"))) (hc:clsIn K C=some cd) (hp:A1 cd.mro=true) (hd':cd.hasDict=true) (ht:findIn K (.ref C) name=some none)
  (h:∀ h',h'.get? x=some (Av C (some s.heap.objs.size) vs)->h'.Ns1 s.heap.objs.size (fun y=>if y=name then some v else none)->(∀ b o,b≠x->s.heap.get? b=some o->h'.get? b=some o)->Q () { s with heap:=h',toks:=s.toks+2 }) :
  aJ (model prog w) A (jU (.ref x) name v) Q E s:=by
 have J:eF s.heap x (Av C none vs) C none:=⟨hx,rfl,rfl,bv⟩
 refine set_plain X J hs (Md (s:={ s with toks:=s.toks+1 }) X J hc hp ht ?_)
 refine af (ar (af (af (gE hx (af (Looks.here (s:={ s with toks:=s.toks+1 }) (looks_clsIn X hc) ?_))))))
 rw [hd']
 rw [if_neg (by decide)]
 refine af (wpAny_alloc (af (wpAny_update (ag _ hx) ?_)))
 refine ar (a:=some s.heap.objs.size) (af (ar (af ?_)))
 have e1:(s.heap.push emptyDict).get? s.heap.objs.size=some emptyDict:=aF s.heap rfl
 have hne:x≠s.heap.objs.size:=aQ (aC hx)
 have e2:((s.heap.push emptyDict).update x fun o=>{ o with dict:=some s.heap.objs.size }).get? s.heap.objs.size=some emptyDict:=by rw [aY _ _ hne];exact e1
 have e3:((s.heap.push emptyDict).update x fun o=>{ o with dict:=some s.heap.objs.size }).get? x=some (Av C (some s.heap.objs.size) vs):=bM _ (ag _ hx) rfl
 have n0:((s.heap.push emptyDict).update x fun o=>{ o with dict:=some s.heap.objs.size }).Ns s.heap.objs.size (fun _=>none):=⟨emptyDict,#[],_,e2,rfl,(fun e he=>absurd he (by simp)),fun _=>rfl⟩
 refine jG (s:={ s with heap:=(s.heap.push emptyDict).update x fun o=>{ o with dict:=some s.heap.objs.size },toks:=s.toks+1 }) (Heap.Ns1.of_empty n0) fun h' hn2 hs2=>?_
 obtain⟨oD,esD,epD,hoD,hdD,hcD⟩:=hn2.count (ns:=[name]) (fun y hy=>by
  by_cases e:y=name
  ·rw [e];simp
  ·exact absurd (by rw [if_neg e]) hy)
 refine af (hJ hoD (by rw [hdD];exact g_ (aR hcD (by show 1<=sizeLine+1;decide))) ?_)
 refine ar (h _ ((hs2.2 _ hne).trans e3) hn2 fun b o hb e=>?_)
 have hbs:b≠s.heap.objs.size:=aQ (aC e)
 refine (hs2.2 b hbs).trans ?_
 show ((s.heap.push emptyDict).update x _).get? b=some o
 rw [aY _ _ (cz hb)]
 exact ag _ e
end
end L2
namespace L2
open PySem PySem.Spec PySem.W Builtin Builtin.ObjectAttr
open Sem (wp)
structure ECls (K:aa) (C:Addr):Prop where
 obj:∃ nm q N bs bm hdct sn sub ab col dd k0 k1 k2 k3 k5,K.lookup C=some (dG nm q C N bs bm hdct sn sub ab col dd k0 k1 k2 k3 k5 "ValueError.__new__")/\A1 bm=true/\hdct=true
 sa:findIn K (.ref C) "__setattr__" = some (some (.builtin "object.__setattr__"))
 ga:findIn K (.ref C) "__getattribute__" = some (some (.builtin "BaseException.__getattribute__"))
 gt:findIn K (.ref C) "__getattr__" = some none
 ca:findIn K (.ref C) "__class__" = some (some (.builtin "object.__class__"))
 hn:specialIn K (.builtin "object.__class__") "__get__" = some (some (.builtin "getset_descriptor.__get__"))
 htk:takesIn K (.builtin "object.__class__")=some true
theorem Bi {bm:List Value} (h:A1 bm=true) {T:String} {b:Bool} (hb:valTail.contains (.type T)=b):bm.contains (.type T)=b:=by
 obtain⟨rs,rfl⟩:=C5 h
 induction rs with
 | nil=>exact hb
 | cons a r ih=>
  have h':A1 (r.map az++valTail)=true:=by
   cases r <;> exact h
  rw [aM,eG,bn,ih h']
  rfl
section
variable {M:Model} {A:a_} {E:Value->ah->Prop} {h:Heap} {g:Array jJ} {d:Drawn} {t:Nat} {os:OsState}
variable {nm q:Str} {C N:Addr} {bs bm:List Value} {hdct:Bool} {sn:List Str} {sub:List Value} {ab:Bool} {col:Option Bool} {dd:Option Addr} {k0 k1 k2 k3 k5:Option Value}
theorem De (T:A1 bm=true) {rest:List Value} {Q:Unit->ah->Prop} (hC:h.get? C=some (dG nm q C N bs bm hdct sn sub ab col dd k0 k1 k2 k3 k5 "ValueError.__new__"))
  (hq:Q () ⟨h,g,d,t,os⟩):aJ M A (fJ "ValueError.__new__" ⟨.ref C::rest,[]⟩) Q E ⟨h,g,d,t,os⟩:=by
 have F:=cP
 have hcont:(az C::bm).contains (.type "ValueError")=true:=by rw [bn,Bi T (show valTail.contains (.type "ValueError")=true by decide +kernel),eP]
 have hstar:=F.noStar
 simp only [fJ,F.newKind,F.newSplit,F.newRow]
 repeat (first|refine aW hC ?_|(refine bW hC ?_;rw [hcont])|refine wpAny_staticBase_exc hC ?_|refine hV hC ?_|simp only [bne_self_eq_false,cB,if_false] | wp_step)
 exact hq
end
section
variable {prog:aH} {w:bh} {A:a_} {R:jB->ah->Prop} {h:Heap} {g:Array jJ} {d:Drawn} {t:Nat} {os:OsState}
variable {nm q:Str} {C N:Addr} {bs bm:List Value} {hdct:Bool} {sn:List Str} {sub:List Value} {ab:Bool} {col:Option Bool} {dd:Option Addr} {k0 k1 k2 k3 k5:Option Value}
theorem Dc (T:A1 bm=true) {rest:List Value} (hC:h.get? C=some (dG nm q C N bs bm hdct sn sub ab col dd k0 k1 k2 k3 k5 "ValueError.__new__"))
  (hq:R (.ok (.ret (.ref (h.objs.size+1)))) ⟨(h.push { cls:=.type "tuple", data:=.seq rest.toArray }).push
   {cls:=.ref C,data:=.fields #[.ref h.objs.size,.none,.none,.none,.bool false,.none] },g,d,t,os⟩) (hrest:rest.length<=sizeLine) :
  eB (model prog w) A (.builtin "ValueError.__new__" ⟨.ref C::rest,[]⟩) R ⟨h,g,d,t,os⟩:=by
 have F:=cP
 have hends:=F.ends
 have hcB:(az C::bm).contains (.type "ValueError")=true:=by rw [bn,Bi T (show valTail.contains (.type "ValueError")=true by decide +kernel),eP]
 have hcA:(az C::bm).contains (.type "AttributeError")=false:=by rw [bn,Bi T (show valTail.contains (.type "AttributeError")=false by decide +kernel)];rfl
 have hcN:(az C::bm).contains (.type "NameError")=false:=by rw [bn,Bi T (show valTail.contains (.type "NameError")=false by decide +kernel)];rfl
 refine codeAny_builtinAt F.entry ?_
 unfold bg.«BaseException.__new__»
 refine wpAt_bind ?_
 show wpAt _ _ _ (stack >>= _) _ _ _
 refine wpAt_bind (wpAt_stack fun p below=>wpAt_of_wpAny ?_)
 wp_walk
 refine wpAt_of_wpAny ?_
 rw [F.owner]
 repeat (first|with_reducible refine wpAny_madeHere_exc F.canon hC ?_|with_reducible refine aW hC ?_|(with_reducible refine bW hC ?_;first|rw [hcB] | rw [hcA] | rw [hcN])|wp_step)
 show R _ _
 rw [dM]
 exact hq
end
end L2
namespace L2
open PySem PySem.Spec PySem.W Builtin Builtin.ObjectAttr
open Sem (wp)
section
variable {prog:aH} {w:bh} {A:a_} {E:Value->ah->Prop} {h:Heap} {g:Array jJ} {d:Drawn} {t:Nat} {os:OsState}
variable {nm q:Str} {C N f:Addr} {bs bm:List Value} {hdct:Bool} {sn:List Str} {sub:List Value} {ab:Bool} {col:Option Bool} {dd:Option Addr} {k0 k1 k2 k3 k5:Option Value}
noncomputable abbrev Cd (h:Heap) (C:Addr) (rest:List Value):Heap:=(h.push { cls:=.type "tuple", data:=.seq rest.toArray }).push { cls:=.ref C,data:=.fields #[.ref h.objs.size,.none,.none,.none,.bool false,.none] }
theorem Gj (T:A1 bm=true) {rest:List Value} {Q:Fin->ah->Prop}
  (hC:h.get? C=some (dG nm q C N bs bm hdct sn sub ab col dd k0 k1 k2 k3 k5 "ValueError.__new__"))
  (hi:Looks (model prog w) h (eV (.ref C) "__init__") (some (.ref f))) (hb:∀ self,Looks (model prog w) h (gX (.ref f) self) (.ref f,[self]))
  (hq:aJ (model prog w) A (call (.ref f) (.ref (h.objs.size+1)::rest)) (fun v s'=>v=.none/\Q (.done (.ret (.ref (h.objs.size+1)))) s') E ⟨Cd h C rest,g,d,t,os⟩) (hrest:rest.length<=sizeLine) :
  aJ (model prog w) A (bg.«type.__call__» ⟨.ref C::rest,[]⟩) Q E ⟨h,g,d,t,os⟩:=by
 have F:=cP
 repeat (first|with_reducible refine aW hC ?_|with_reducible refine hV hC ?_|wp_step)
 refine gx (dP _ F.quiet) (De T hC ?_)
 refine Dc T hC ?_ hrest
 show aJ _ _ _ _ _ _
 have kp:∀ b o,h.get? b=some o->(Cd h C rest).get? b=some o:=fun b o e=>ag _ (ag _ e)
 have hC₁:=kp _ _ hC
 have hget:(Cd h C rest).get? (h.objs.size+1)=some { cls:=.ref C,data:=.fields #[.ref h.objs.size,.none,.none,.none,.bool false,.none] }:=by heap_get
 have hcC:(az C::bm).contains (.ref C)=true:=by simp
 unfold js
 repeat (first|with_reducible refine aW hget ?_|(with_reducible refine bW hC₁ ?_;rw [hcC])|wp_step)
 show aJ _ _ (eV (.ref C) _) _ _ _
 refine (hi.keeps kp).at ?_
 refine bq (af (((hb _).keeps kp).at ?_))
 refine af (bG hq (fun v s' z=>?_) fun _ _ z=>z)
 obtain⟨rfl,z⟩:=z
 exact ar (ar z)
theorem ae6 (T:A1 bm=true) {rest:List Value} {R:jB->ah->Prop}
  (hC:h.get? C=some (dG nm q C N bs bm hdct sn sub ab col dd k0 k1 k2 k3 k5 "ValueError.__new__"))
  (hi:Looks (model prog w) h (eV (.ref C) "__init__") (some (.ref f))) (hb:∀ self,Looks (model prog w) h (gX (.ref f) self) (.ref f,[self]))
  (hq:eB (model prog w) (A.under (.builtin "type.__call__" ⟨.ref C::rest,[]⟩)) (.call (.ref f) ⟨.ref (h.objs.size+1)::rest,[]⟩) (InitBack (h.objs.size+1) R) ⟨Cd h C rest,g,d,t,os⟩) (hrest:rest.length<=sizeLine) :
  eB (model prog w) A (.call (.ref C) ⟨rest,[]⟩) R ⟨h,g,d,t,os⟩:=by
 have f1:=tc_lookup
 have f2:=tc_bind (.ref C)
 have hT:(⟨h,g,d,t,os⟩:ah).TypeIs (.ref C) "type" := ⟨_,hC,rfl⟩
 refine codeAny_of_tree ?_
 show aJ _ _ (callAny (.ref C) _) _ _ _
 repeat (any_goals (first|assumption|with_reducible refine aW hC ?_|wp_step))
 refine⟨rfl,?_⟩
 refine gY (dP _ (by decide +kernel)) entry_typeCall (gC hC (Gj T hC hi hb (dm (eU hq fun r s' z=>?_)) hrest))
 rcases r with e|(v|_|_|_) <;> first|exact z|exact z.elim
theorem Fg (T:A1 bm=true) {rest:List Value} {Q:Fin->ah->Prop}
  (hC:h.get? C=some (dG nm q C N bs bm hdct sn sub ab col dd k0 k1 k2 k3 k5 "ValueError.__new__"))
  (hi:Looks (model prog w) h (eV (.ref C) "__init__") (some (.builtin "ValueError.__init__")))
  (hq:∀ h' e,Heap.MadeExcOf h h' e (.ref C) rest->e=h.objs.size+1->Q (.done (.ret (.ref e))) ⟨h',g,d,t,os⟩) (hrest:rest.length<=sizeLine) :
  aJ (model prog w) A (bg.«type.__call__» ⟨.ref C::rest,[]⟩) Q E ⟨h,g,d,t,os⟩:=by
 have F:=cP
 repeat (first|with_reducible refine aW hC ?_|with_reducible refine hV hC ?_|wp_step)
 refine gx (dP _ F.quiet) (De T hC ?_)
 refine Dc T hC ?_ hrest
 show aJ _ _ _ _ _ _
 have kp:∀ b o,h.get? b=some o->(Cd h C rest).get? b=some o:=fun b o e=>ag _ (ag _ e)
 have hC₁:=kp _ _ hC
 have hget:(Cd h C rest).get? (h.objs.size+1)=some { cls:=.ref C,data:=.fields #[.ref h.objs.size,.none,.none,.none,.bool false,.none] }:=by heap_get
 have hcC:(az C::bm).contains (.ref C)=true:=by simp
 have hcB:(az C::bm).contains (.type "ValueError")=true:=by rw [bn,Bi T (show valTail.contains (.type "ValueError")=true by decide +kernel),eP]
 unfold js
 repeat (first|with_reducible refine aW hget ?_|(with_reducible refine bW hC₁ ?_;rw [hcC])|wp_step)
 show aJ _ _ (eV (.ref C) _) _ _ _
 refine (hi.keeps kp).at ?_
 refine bq (af (wpAny_of_eq (F.init.bind _) ?_))
 have chk:∀ {Q':Unit->ah->Prop} {E':Value->ah->Prop} {A':a_},Q' () ⟨Cd h C rest,g,d,t,os⟩->aJ (model prog w) A' (fJ "ValueError.__init__" ⟨.ref (h.objs.size+1)::rest,[]⟩) Q' E' ⟨Cd h C rest,g,d,t,os⟩:=fun {Q' E' A'} hq'=>by
  have hshort:=F.noStar
  simp only [fJ,F.initKind,F.initSplit,F.initRow]
  repeat (first|with_reducible refine aW hget ?_|with_reducible refine aW hC₁ ?_|(with_reducible refine bW hC₁ ?_;rw [hcB])|wp_step)
  refine wpAny_onRaise ?_
  rw [show ∀ (a b:String) (n:Nat),Bind.check ⟨.positional, "*", "ValueError", .self,[⟨"args", .varPos,false⟩]⟩ a b n (gQ (fun x=>x.fst) ({ pos:=az (h.objs.size+1)::rest }:Args).kw)=pure () from
   fun a b n=>check_star_args _ _ _ _ _ _]
  exact ar hq'
 refine af (dm (c7 F.init.plain F.initEntry (chk ?_)))
 wp_walk
 refine hq _ _ ⟨fun b o hb=>?_,fK (cN _),h.objs.size+2,?_,fK (by omega),?_⟩ rfl
 ·rw [aY _ _ (fE (Nat.lt_succ_of_lt (aC hb)))]
  exact ag _ (ag _ (ag _ hb))
 ·rw [bM _ (ag _ hget) rfl]
  simp only [dM]
  rfl
 ·rw [aY _ _ (show h.objs.size+1≠h.objs.size+2 by omega)]
  exact Heap.get?_push_at (by simp only [dM]) rfl
theorem W4 (T:A1 bm=true) {rest:List Value} {R:jB->ah->Prop}
  (hC:h.get? C=some (dG nm q C N bs bm hdct sn sub ab col dd k0 k1 k2 k3 k5 "ValueError.__new__"))
  (hi:Looks (model prog w) h (eV (.ref C) "__init__") (some (.builtin "ValueError.__init__")))
  (hq:∀ h' e,Heap.MadeExcOf h h' e (.ref C) rest->e=h.objs.size+1->R (.ok (.ret (.ref e))) ⟨h',g,d,t,os⟩) (hrest:rest.length<=sizeLine) :
  eB (model prog w) A (.call (.ref C) ⟨rest,[]⟩) R ⟨h,g,d,t,os⟩:=by
 have f1:=tc_lookup
 have f2:=tc_bind (.ref C)
 have hT:(⟨h,g,d,t,os⟩:ah).TypeIs (.ref C) "type" := ⟨_,hC,rfl⟩
 refine codeAny_of_tree ?_
 show aJ _ _ (callAny (.ref C) _) _ _ _
 repeat (any_goals (first|assumption|with_reducible refine aW hC ?_|wp_step))
 refine⟨rfl,?_⟩
 exact gY (dP _ (by decide +kernel)) entry_typeCall (gC hC (Fg T hC hi hq hrest))
end
end L2
namespace L2
open PySem PySem.Spec PySem.W PyProof.Rows
theorem ECls.cls {K:aa} {C:Addr} (c:ECls K C):∃ cd,clsIn K C=some cd/\A1 cd.mro=true/\cd.hasDict=true:=by
 obtain⟨nm,q,N,bs,bm,hdct,sn,sub,ab,col,dd,k0,k1,k2,k3,k5,hl,ht,hd⟩:=c.obj
 refine⟨_,by unfold clsIn;rw [hl],?_,hd⟩
 obtain⟨rs,e⟩:=C5 ht
 show A1 (az C::bm)=true
 rw [e]
 clear e
 show A1 (gQ az (C::rs)++valTail)=true
 have:∀ l:List Addr,A1 (gQ az l++valTail)=true:=fun l=>by
  induction l with
  | nil=>decide +kernel
  | cons a r ih=>cases r <;> exact ih
 exact this _
theorem ECls.sub {K:aa} {C:Addr} (c:ECls K C) {T:String} (h:valTail.contains (.type T)=true):mroIn K C (.type T)=some true:=by
 obtain⟨cd,h1,h2,_⟩:=c.cls
 obtain⟨rs,e⟩:=C5 h2
 unfold mroIn
 rw [h1,cf,e,Q8 rs h,if_neg]
 cases rs <;> exact ak
section
variable {prog:aH} {w:bh} {A:a_} {E:Value->ah->Prop} {s:ah} {K:aa} {x C:Addr} {ox:Obj} {od:Option Obj} {name:Str}
theorem ad2 {g a v:Value} {Q:Option Value->ah->Prop} (X:K.In s.heap) (I:eF s.heap x ox C od) (hga:ae K (.ref C) "__getattribute__" = some (some (.builtin "BaseException.__getattribute__"))) (hgt:ae K (.ref C) "__getattr__" = some none)
  (hB:bb K C (.type "BaseException")=some true) (hf:PySem.W.findObj K C od name=some (.bind g a)) (hh:eJ v=true)
  (h:∀ {A':a_} {R:jB->ah->Prop},R (.ok (.ret v)) { s with toks:=s.toks+1 }->eB (model prog w) A' (.call g ⟨[a,.ref x,.ref C],[]⟩) R { s with toks:=s.toks+1 }) (hq:Q (some v) { s with toks:=s.toks+1 }) :
  aJ (model prog w) A (getAttr? (.ref x) name) Q E s:=by
 obtain⟨hp,gg,d,t,os⟩:=s
 have L0:=I.type (M:=model prog w)
 have L1:=cH (M:=model prog w) X hga
 have L2:=cH (M:=model prog w) X hgt
 have L3:=jd (M:=model prog w) X I hf
 have L4:=iW (M:=model prog w) X hB
 unfold getAttr? getAttrBy? getAttrBy
 refine af (wpAny_mkText (af (gZ (bq (af (L0.at (af (L1.at ?_))))))))
 have hx2:(cJ "BaseException.__getattribute__" == cJ "object.__getattribute__")=false:=by decide +kernel
 have hx1:(jQ (az C)&&cJ "BaseException.__getattribute__" == cJ "object.__getattribute__")=false:=by rw [hx2];rfl
 dsimp only
 rw [hx1,if_neg ak]
 unfold getAttrByItsOwn
 refine af (show aJ _ _ (eV (.ref C) "__getattr__") _ _ _ from L2.at ?_)
 refine af (gZ (bq ?_))
 have hx0:(false&&jQ (cJ "BaseException.__getattribute__"))=false:=rfl
 unfold callGetattribute
 rw [hx0,if_neg ak]
 unfold boundAndCalled
 rw [P5]
 refine af (ar ?_)
 refine dm (c7 (by decide +kernel) F.entry_bexc_ga (check_slot (i := "BaseException.__getattribute__") (owner := "BaseException") (n := "__getattribute__") (by decide +kernel) (by decide +kernel) (L0.andThen L4) (F.args_bexc_ga _ _) ?_))
 unfold bg.«object.__getattribute__»
 refine af (ar (af (ar (af (L0.at (af (L3.at ?_)))))))
 refine af (bq (dm (h ?_)))
 refine ar ?_
 show aJ _ _ (handedOut v) _ _ _
 rw [iH hh]
 exact ar (ar hq)
theorem Le {a g:Value} (hc:(clsIn K C).isSome=true) (ha:findIn K (.ref C) name=some (some a)) (hg:specialIn K a "__get__" = some (some g)) (ht:takesIn K a=some true):findObj K C od name=some (.bind g a):=by
 obtain⟨cd,hc⟩:=Option.isSome_iff_exists.mp hc
 unfold findObj
 rw [hc,cf,ha,cf]
 simp [hg,ht]
theorem Wp {Q:Option Value->ah->Prop} (c:ECls K C) (X:K.In s.heap) (I:InstAt s.heap x ox C od) (h:Q (some (.ref C)) { s with toks:=s.toks+1 }):aJ (model prog w) A (getAttr? (.ref x) "__class__") Q E s:=by
 have hf:findObj K C od "__class__" = some (.bind (.builtin "getset_descriptor.__get__") (.builtin "object.__class__")):=Le (by obtain⟨cd,hc,_⟩:=c.cls;rw [hc];rfl) c.ca c.hn c.htk
 exact ad2 (v:=.ref C) X I c.ga c.gt (c.sub (by decide +kernel)) hf rfl (fun q=>class_get (s:={ s with toks:=s.toks+1 }) (ox:=ox) (od:=od) X I (c.sub (by decide +kernel)) q) h
end
theorem Qo {K:aa} {x D:Addr} (c:ECls K D):KitX K (.ref x) (.ref D) (fun h=>∃ ox od,InstAt h x ox D od) where
 ty:=fun _ _ _ ⟨_,_,I⟩=>I.type
 it:=fun _ _ X _=>by
  obtain⟨cdD,hcD,_⟩:=c.cls
  unfold clsIn at hcD
  split at hcD
  ·rename_i c' d' cd' sl' ho
   intro A' Q' E' s' k q
   unfold isType loadHead
   exact af (gE (k _ _ (X _ _ ho)) (ar q))
  ·cases hcD
 ne:=fun h tp dd its n sl X htp=>by
  obtain⟨cdD,hcD,_⟩:=c.cls
  refine Bool.eq_false_iff.mpr fun q=>?_
  have e:D=tp:=Value.ref.inj (beq_iff_eq.mp q)
  subst e
  unfold clsIn at hcD
  split at hcD
  ·rename_i c' d' cd' sl' ho
   have z:=(X _ _ ho).symm.trans htp
   cases z
  ·cases hcD
 ca:=fun X ⟨_,_,I⟩ k=>Wp c X I k
noncomputable def ExcAt (H:Hp) (a C:Addr) (fs:List (Str×V)):Prop:=(fs=[]/\(H a=some (D4 a C none)\/FlO H a C none)) \/ ∃ dx,dx≠a/\(H a=some (D4 a C (some dx))\/FlO H a C (some dx))/\H dx=some (xdO dx fs)
inductive TyX (K:aa) (H:Hp) (x:V) (t:Value):Prop where
 | of (h:TyOf K H x t)
 | exc {a C:Addr} {fs:List (Str×V)} (ex:x=.ref a) (e:ExcAt H a C fs) (c:ECls K C) (et:t=.ref C)
 | sqT {a:Addr} {xs:List V} (ex:x=.ref a) (e:SqT K H a xs) (et:t=.type "tuple")
 | sqL {a:Addr} {xs:List V} (ex:x=.ref a) (e:SqL K H a xs) (et:t=.type "list")
section
variable {X:Cx} {pins:List (Addr×Obj)} {σ:St} {H:Hp} {s:ah} {A:a_} {E:Value->ah->Prop} {a C:Addr} {fs:List (Str×V)}
theorem Io {dx:Option Addr} (I:Inv X pins σ H s) (e:H a=some (D4 a C dx)):∃ vs:Array Value,s.heap.get? a=some (Av C dx vs)/\vs.size=6/\vs[1]? = some .none/\vs[2]? = some .none:=(I.hok a _ e).1
theorem ac8 {dx:Option Addr} (I:Inv X pins σ H s) (e:H a=some (flO a C dx)):∃ vs:Array Value,s.heap.get? a=some (Av C dx vs)/\vs.size=6/\vs[2]? = some .none:=(I.hok a _ e).1
theorem U6 {dx:Option Addr} (I:Inv X pins σ H s) (e:H a=some (D4 a C dx)\/FlO H a C dx):∃ vs:Array Value,s.heap.get? a=some (Av C dx vs)/\vs.size=6:=by
 rcases e with e|e|e
 ·obtain⟨vs,h1,h2,_⟩:=Io I e;exact⟨vs,h1,h2⟩
 ·obtain⟨vs,h1,h2,_⟩:=ac8 I e;exact⟨vs,h1,h2⟩
 ·exact (I.hok a _ e).1
theorem a55 {dx:Addr} (I:Inv X pins σ H s) (e:H dx=some (xdO dx fs)):fs.length<=1000 /\ ∃ mA,s.heap.Ns1 dx mA/\(∀ f,RelO (fs.lookup f) (mA f))/\dw mA (fs.map (·.1)):=(I.hok dx _ e).1
theorem ExcAt.inst (I:Inv X pins σ H s) (e:ExcAt H a C fs):∃ vs dx od,InstAt s.heap a (Av C dx vs) C od/\(∀ o,od=some o -> ∀ name,∃ v,lookIn name o=some v/\RelO (fs.lookup name) v)/\(od=none->fs=[]):=by
 rcases e with ⟨rfl,e⟩|⟨dx,ne,e,ed⟩
 ·obtain⟨vs,h1,_⟩:=U6 I e
  exact⟨vs,none,none,⟨h1,rfl,rfl,bv⟩,fun o z=>(nomatch z),fun _=>rfl⟩
 ·obtain⟨vs,h1,_⟩:=U6 I e
  obtain⟨_,mA,hn,hr,_⟩:=a55 I ed
  obtain⟨od,ho,hl⟩:=Gx hn
  refine⟨vs,some dx,some od,⟨h1,rfl,rfl,ho⟩,fun o z name=>?_,fun z=>nomatch z⟩
  cases z
  exact⟨_,hl name,hr name⟩
theorem Iy {Q:Value->ah->Prop} {c:Value} {b:Bool} {x:V} {u t:Value} (I:Inv X pins σ H s) (rx:RelV x u) (ty:TyX X.K H x t) (e:cj X.K t c=some b) (h:∀ tk,Q (.bool b) { s with toks:=tk }) :
  aJ (model X.prog X.w) A (call (.builtin "isinstance") [u,c]) Q E s:=by
 cases ty with
 | of ty=>exact Lz I rx ty e h
 | @exc a C fs ex ea cl et=>
  subst ex et
  cases (show u=az a from rx)
  obtain⟨vs,dx,od,J,_⟩:=ea.inst I
  exact bK (Qo cl) I.kIn ⟨_,_,J⟩ e (fun z=>nomatch z) h
 | @sqT a xs ex q et=>
  subst ex et
  cases (show u=az a from rx)
  obtain⟨_,_,⟨o,h1,h2,_⟩,_⟩:=I.tuple q
  exact bK gp I.kIn ⟨o,h1,h2⟩ e (fun z=>nomatch z) h
 | @sqL a xs ex q et=>
  subst ex et
  cases (show u=az a from rx)
  obtain⟨_,_,⟨o,_,h1,h2,_⟩,_⟩:=I.list q
  exact bK fu I.kIn ⟨o,h1,h2⟩ e (fun z=>nomatch z) h
theorem Wu {b:Bool} {f:Str} {v:V} {Q:Value->ah->Prop} (I:Inv X pins σ H s) (e:ExcAt H a C fs) (c:ECls X.K C) (n:NoAttr X.K C f) (l:fs.lookup f=some v)
  (h:∀ u s',Inv X pins σ H s'->RelV v u->Q u s'):aJ (model X.prog X.w) A (i7 (.ref a) f b) Q E s:=by
 obtain⟨vs,dx,od,J,hl,hn⟩:=e.inst I
 obtain⟨cd,hc,_,hd⟩:=c.cls
 cases od with
 | none=>rw [hn rfl] at l;cases l
 | some o=>
  obtain⟨u?,h1,h2⟩:=hl o rfl f
  rw [l] at h2
  obtain⟨u,hu,ru⟩:=RelO.some_of h2
  subst hu
  refine aq0 I.kIn J c.ga c.gt (c.sub (by decide +kernel)) (iV (by unfold hasDictIn;rw [hc];exact hd) n rfl h1) (Lv ru) (h u _ (I.tok _) ru)
noncomputable def b55 (H:Hp) (a C:Addr) (f:Str) (y:V) (N:Hp->Prop):Prop:=
 (H a=some (D4 a C none) /\ ∀ dx,H dx=none->dx≠a->N (upd (upd H dx (xdO dx [(f,y)])) a (D4 a C (some dx)))) \/
 ∃ dx fs,dx≠a/\H a=some (D4 a C (some dx))/\H dx=some (xdO dx fs)/\fs.length<1000/\N (upd H dx (xdO dx (D8 f y fs)))
theorem M4 {P:aH} {w:bh} {H:Hp} {h:Heap} {dx:Option Addr} {vs:Array Value} (h1:h.get? a=some (Av C dx vs)) (h2:vs.size=6) (h3:vs[1]? = some .none) (h4:vs[2]? = some .none):ObjOk P w H h a (D4 a C dx):=
 ⟨⟨vs,h1,h2,h3,h4⟩,⟨_,h1⟩,fun _ _ ⟨vs',q1,q2⟩ k=>⟨vs',k _ q1,q2⟩⟩
theorem ac7 {P:aH} {w:bh} {H:Hp} {h:Heap} {dx:Option Addr} {vs:Array Value} (h1:h.get? a=some (Av C dx vs)) (h2:vs.size=6) (h4:vs[2]? = some .none):ObjOk P w H h a (flO a C dx):=
 ⟨⟨vs,h1,h2,h4⟩,⟨_,h1⟩,fun _ _ ⟨vs',q1,q2⟩ k=>⟨vs',k _ q1,q2⟩⟩
theorem ac5 {P:aH} {w:bh} {H:Hp} {h:Heap} {dx:Option Addr} {vs:Array Value} (h1:h.get? a=some (Av C dx vs)) (h2:vs.size=6):ObjOk P w H h a (fcO a C dx):=
 ⟨⟨vs,h1,h2⟩,⟨_,h1⟩,fun _ _ ⟨vs',q1,q2⟩ k=>⟨vs',k _ q1,q2⟩⟩
theorem ao2 {P:aH} {w:bh} {H:Hp} {h:Heap} {dx:Addr} {mA:Str->Option Value} (z:fs.length<=1000) (h1:h.Ns1 dx mA) (h2:∀ f,RelO (fs.lookup f) (mA f)) (h3:dw mA (fs.map (·.1))):ObjOk P w H h dx (xdO dx fs):=
 ⟨⟨z,mA,h1,h2,h3⟩,(let ⟨o,_,_,e,_⟩:=h1;⟨o,e⟩),fun _ _ ⟨z',mB,q1,q2,q3⟩ k=>⟨z',mB,q1.at k,q2,q3⟩⟩
theorem Xn {f:Str} {y:V} {u:Value} {Q:Unit->ah->Prop} {N:Hp->Prop} (I:Inv X pins σ H s) (c:ECls X.K C) (n:NoAttr X.K C f) (ry:RelV y u) (h0:b55 H a C f y N)
  (h:∀ H' s',Inv X pins σ H' s'->N H'->Q () s'):aJ (model X.prog X.w) A (jU (.ref a) f u) Q E s:=by
 obtain⟨cd,hc,hp,hd⟩:=c.cls
 rcases h0 with ⟨e,hN⟩|⟨dx,fs,ne,e,ed,hz,hN⟩
 ·obtain⟨vs,h1,h2,h3,h4⟩:=Io I e
  refine aj9 I.kIn h1 c.sa hc hp hd n fun h' q1 q2 q3=>?_
  have fr:H s.heap.objs.size=none:=I.hok.fresh (ac _)
  have ane:s.heap.objs.size≠a:=fun z=>by rw [z,e] at fr;cases fr
  refine h _ _ ?_ (hN _ fr ane)
  obtain⟨o,es,ep,eo,hrest⟩:=id q2
  have eo1:(s.heap.push o).get? s.heap.objs.size=some o:=aF s.heap (Heap.get?_some_iff.mp eo).2
  have I1:=I.laid (a:=s.heap.objs.size) (o:=xdO s.heap.objs.size [(f,y)]) (h':=s.heap.push o) (t':=s.toks+2) (fun b u e=>ag _ e) (ac _)
   (ao2 (by simp) (q2.at fun o' e'=>by rw [eo] at e';cases e';exact eo1) (fun g=>by
    show RelO (dB g [(f,y)]) (if g=f then some u else none)
    by_cases q:g=f
    ·rw [if_pos q,q];simp only [dB,beq_self_eq_true];exact ry
    ·rw [if_neg q];simp only [dB,beq_eq_false_iff_ne.mpr q];exact bv) (fun g hg=>by
    by_cases q:g=f
    ·rw [q];simp
    ·exact absurd (by show (if g=f then some u else none)=none;rw [if_neg q]) hg))
  exact I1.write (x:=a) (e:=a) (t':=s.toks+2) (by rw [Ak (cz ane),e];exact bv) (.inl rfl) (fun b u hb eb=>by
   by_cases hs:b=s.heap.objs.size
   ·rw [hs] at eb ⊢
    rw [eo1] at eb
    cases eb
    exact eo
   ·refine q3 b u hb ?_
    rcases Heap.get?_push_cases eb with z|z
    ·exact absurd z.1 hs
    ·exact z) ⟨_,q1⟩ (M4 q1 h2 h3 h4)
 ·obtain⟨vs,h1,h2,h3⟩:=Io I e
  obtain⟨z,mA,hn,hr,wi⟩:=a55 I ed
  refine av4 (ns:=fs.map (·.1)) I.kIn h1 hn ne c.sa hc hp hd n wi (by rw [aj,bj];omega) fun h' q1 q2 q3=>?_
  refine h _ _ ?_ hN
  refine I.write (x:=dx) (e:=dx) (by rw [ed];exact bv) (.inl rfl) (fun b q hb z=>(q3.2 b hb).trans z) (let ⟨o,_,_,e',_⟩:=q2;⟨o,e'⟩) ?_
  refine ao2 ?_ q2 (fun g=>?_) (fun g hg=>?_)
  ·have:=Ei f y fs;omega
  ·show RelO ((D8 f y fs).lookup g) (if g=f then some u else mA g)
   rw [Ej]
   by_cases q:g=f
   ·rw [if_pos q,if_pos q];exact ry
   ·rw [if_neg q,if_neg q];exact hr g
  ·by_cases q:g=f
   ·rw [q];exact (Dn f y fs).1
   ·refine (Dn f y fs).2 g (wi g fun z=>hg ?_)
    show (if g=f then some u else mA g)=none
    rw [if_neg q];exact z
theorem Inv.madeX (I:Inv X pins σ H s) (C:Addr) (rest:List Value):Inv X pins σ (upd H (s.heap.objs.size+1) (D4 (s.heap.objs.size+1) C none)) { s with heap:=Cd s.heap C rest }:=by
 have hget:(Cd s.heap C rest).get? (s.heap.objs.size+1)=some (Av C none #[.ref s.heap.objs.size,.none,.none,.none,.bool false,.none]):=by heap_get
 exact I.laid (t':=s.toks) (fun b u e=>ag _ (ag _ e)) (cN _) (M4 hget rfl rfl rfl)
variable {CX:CXT} {k:Nat} {f:Addr} {fd:ai} {ps:List Str} {sp:Sp} {dvs:List V} {ds us:List Value} {vs:List V} {Q:VK}
theorem Sq (c:ECls X.K C) (hi:findIn X.K (.ref C) "__init__" = some (some (.builtin "ValueError.__init__"))) (I:Inv X pins σ H s) (r:Vals vs us) (hl:vs.length<=1000) (h:∀ a,H a=none->Q (.ref a) (upd H a (D4 a C none))) :
  aJ (model X.prog X.w) X.A (call (.ref C) us) (EP X pins σ Q) X.xe s:=by
 obtain⟨nm,q,N,bs,bm,hdct,sn,sub,ab,col,dd,k0,k1,k2,k3,k5,hC,ht,_⟩:=c.obj
 obtain⟨hh,g,d,t,os⟩:=s
 refine dm (W4 ht (I.kIn _ _ hC) (looks_findIn I.kIn hi) (fun h' e M ee=>?_) (by rw [<- r.length,bj];omega))
 subst ee
 obtain⟨kp,_,t0,q1,_,_⟩:=M
 refine⟨.ref (hh.objs.size+1),upd H (hh.objs.size+1) (D4 (hh.objs.size+1) C none),?_,rfl,h _ (I.hok.fresh (cN _))⟩
 exact I.laid (t':=t) kp (cN _) (M4 q1 rfl rfl rfl)
theorem Xl (c:ECls X.K C) (hi:findIn X.K (.ref C) "__init__" = some (some (.ref f))) (hf:isFn X.K (.ref f)=true) (F:FnOk X.prog X.w X.K X.mg X.base CX k f fd ps sp) (hr:Room (k+1) X.A) (hb:Binds X.K fd ps ds) (hd:Vals dvs ds)
  (I:Inv X pins σ H s) (r:Vals vs us) (hl:vs.length<=1000) {EX:XK} (hx:∀ e s1 s' H1,Inv X pins σ H1 s1->CX X.stack H1 s1 EX e s'->X.xe e s')
  (h:∀ a,H a=none->sp (.ref a::(vs++dvs)) (upd H a (D4 a C none)) (fun v H2=>v=.non/\Q (.ref a) H2) EX) :
  aJ (model X.prog X.w) X.A (call (.ref C) us) (EP X pins σ Q) X.xe s:=by
 obtain⟨nm,q,N,bs,bm,hdct,sn,sub,ab,col,dd,k0,k1,k2,k3,k5,hC,ht,_⟩:=c.obj
 have hq:=h (s.heap.objs.size+1) (I.hok.fresh (cN _))
 have I2:=I.madeX C us
 have r2:Vals (V.ref (s.heap.objs.size+1)::(vs++dvs)) (az (s.heap.objs.size+1)::(us++ds)):=.cons rfl (r.append hd)
 have hlen:(az (s.heap.objs.size+1)::us++ds).length=ps.length:=by
  have e:=r2.length
  rw [F.len _ _ _ _ hq] at e
  exact e.symm
 refine dm (ae6 (f:=f) ht (I.kIn _ _ hC) (looks_findIn I.kIn hi) (fun self=>PySem.W.bind_fn I.kIn self (beq_iff_eq.mp hf)) (eU (F.run _ X.stack { s with heap:=Cd s.heap C us } _ ⟨az (s.heap.objs.size+1)::us,[]⟩ (az (s.heap.objs.size+1)::(us++ds)) _ _ EX (hr.make C us [])
  (I2.env0.make C us []) (hb _ (az (s.heap.objs.size+1)::us) I2.kIn hlen) r2 hq) fun r s' hq'=>?_) (by rw [<- r.length,bj];omega))
 cases r with
 | error e=>exact hx e _ s' _ I2 hq'
 | ok fl=>
  cases fl with
  | ret u=>
   obtain⟨v,H',I3,rv,ev,q3⟩:=I2.after hq'
   subst ev
   exact⟨rv,⟨V.ref (s.heap.objs.size+1),H',I3,rfl,q3⟩⟩
  | next=>exact bY hq'
  | brk=>exact bY hq'
  | cont=>exact bY hq'
end
end L2
namespace L2
open PySem PySem.Spec PyProof.Rows
section
variable {X:Cx} {pins:List (Addr×Obj)} {σ σ0:St} {H H0:Hp} {s s0:ah} {p:Addr} {kvs:List (Key×V)} {o:Obj}
noncomputable def ao3 (o:Obj) (ep:Nat):Prop:=∃ es,o.data=.dict es ep
theorem Inv.froze (I:Inv X pins σ H s) (h:H p=some (.dK kvs)):∃ ob ep,s.heap.get? p=some ob/\ao3 ob ep/\Inv X pins σ (upd H p (.frz ob (.dK kvs))) s:=by
 have K:=I.hok p _ h
 obtain⟨z,y,vs,r,ob,es,ep,e,c,d,q⟩:=id K
 refine⟨ob,ep,e,⟨es,d⟩,?_⟩
 exact I.write (x:=p) (e:=p) (t':=s.toks) (h':=s.heap) (by rw [h];trivial) (.inl rfl) (fun b u _ q=>q) ⟨ob,e⟩ ⟨e,K⟩
theorem Inv.thaw (I0:Inv X pins σ0 H0 s0) (h0:H0 p=some (.dK kvs)) (I:Inv X pins σ H s) (h:H p=some (.frz o (.dK kvs))):Inv X pins σ (upd H p (.dK kvs)) s:=by
 have ne:∀ b,H b=none->b≠p:=fun b e z=>by rw [z,h] at e;cases e
 have ntup:∀ b xs,H b=some (.tup xs)->b≠p:=fun b xs e z=>by rw [z,h] at e;cases e
 have nown:∀ b c,H b=some (.own c)->b≠p:=fun b c e z=>by rw [z,h] at e;cases e
 refine⟨I.ok,I.os,I.bare,⟨I.base.keep,I.base.slot,fun b ob e n hx=>?_,I.base.there,fun b xs e=>?_,fun b ob u e=>?_,fun b ps e=>?_⟩,I.loc,I.cell,?_,fun x c e=>?_,fun q hq=>?_,fun b u e=>?_,I.len⟩
 ·have q:=I.base.free b ob e n hx
  rw [Ak (ne b q)];exact q
 ·have q:=I.base.tups b xs e
  rw [Ak (ntup b xs q)];exact q
 ·have q:=I.base.frzs b ob u e
  have n:b≠p:=fun z=>by
   have q0:=I0.base.frzs b ob u e
   rw [z,h0] at q0;cases q0
  rw [Ak n];exact q
 ·obtain⟨more,q⟩:=I.base.tbls b ps e
  have n:b≠p:=fun z=>by rw [z,h] at q;cases q
  exact⟨more,by rw [Ak n];exact q⟩
 ·rw [Ak (ne _ I.free)];exact I.free
 ·have q:=I.freeC x c e
  rw [Ak (ne _ q)];exact q
 ·obtain⟨a,b,c⟩:=I.pin q hq
  exact⟨a,by rw [Ak (ne _ b)];exact b,c⟩
 ·by_cases z:b=p
  ·subst z
   rw [Ad] at e
   cases e
   exact (I.hok b _ h).2
  ·rw [Ak z] at e
   exact (I.hok b u e).stay (fun _ _ _ q=>q) (fun c q=>by rw [Ak (nown c b q)];exact q) fun c xs q=>by rw [Ak (ntup c xs q)];exact q
theorem Thaw.inv {P:Hp->Prop} (I0:Inv X pins σ0 H0 s0) (I:Inv X pins σ H s) (t:Thaw H0 H P):∃ H',Inv X pins σ H' s/\P H':=by
 rcases t with t|⟨p,o,kvs,h0,h,t⟩
 ·exact⟨H,I,t⟩
 ·exact⟨_,I0.thaw h0 I h,t⟩
theorem Inv.kdict (I:Inv X pins σ H s) (h:H p=some (.frz o (.dK kvs))) {ep:Nat} (he:ao3 o ep):∃ vs,KV kvs vs/\s.heap.DictAt (As X.prog X.w) p vs ep/\(p==cE)=false:=by
 obtain⟨e1,z,y,vs,r,ob,es,ep',e,c,d,q⟩:=I.hok p _ h
 obtain⟨es',d'⟩:=he
 rw [e1] at e
 cases e
 have d2:=d
 rw [d'] at d2
 cases d2
 exact⟨vs,r,⟨o,_,e1,c,d,q⟩,y⟩
end
noncomputable def Itd (p:Addr) (o:Obj) (kvs:List (Key×V)):It:=
 ⟨fun i H=>H p=some (.frz o (.dK kvs))/\i<kvs.length,fun i H x H'=>H'=H /\ ∃ k v,kvs[i]? = some (k,v)/\x=kV k,fun i H=>H p=some (.frz o (.dK kvs))/\kvs.length<=i⟩
theorem a14:∀ {kvs:List (Key×V)} {vs:List (Key×Value)} {i:Nat} {k:Key} {v:V},KV kvs vs->kvs[i]? = some (k,v) -> ∃ u,vs[i]? = some (k,u)/\RelV v u
 | _,_,0,k,v,.cons (b:=q) r _,e=>by
  simp only [gP,Option.some.injEq] at e
  subst e
  exact⟨q.2,congrArg some (Prod.ext r.1.symm rfl),r.2⟩
 | _,_,i+1,k,v,.cons r t,e=>by
  simp only [dA] at e ⊢
  exact a14 t e
theorem b80 {P:aH} {w:bh} {k:Key} {u:Value} (h:(As P w).is k u=true):RelV (kV k) u:=by
 cases k with
 | inl i=>obtain⟨t,rfl⟩:=Value.isInt_shape (show jP i u=true from h);exact⟨t,rfl⟩
 | inr z=>obtain⟨t,rfl⟩:=i6 (show jg z u=true from h);exact⟨t,rfl⟩
theorem Xq {P:aH} {w:bh} {K:aa} {tg:Expr} (p it:Addr) (o:Obj) (kvs:List (Key×V)) {ep:Nat} (he:ao3 o ep):P3 P w K tg (Itd p o kvs) [it] it (fun i h=>h.IsKeyIter it p i kvs.length ep) where
 mem:=by simp
 obj:=fun i h st b hb=>by
  have e:b=it:=by simpa using hb
  subst e
  obtain⟨o,e,c,d⟩:=st
  exact⟨o,e,fun v z=>by rw [d] at z;cases z⟩
 keep:=fun i h h' st k=>st.at fun o e=>k it (by simp) o e
 item:=by
  intro X hP hw hK hc i pins s σ H E I hf st hg
  subst hP hw hK
  obtain⟨hH,hi⟩:=hg
  obtain⟨vs,rel,hd,hm⟩:=I.kdict hH he
  obtain⟨f0,f1,f2,f3,f4,f5⟩:=hf it (by simp)
  obtain⟨⟨k,v⟩,hx⟩:∃ q,kvs[i]? = some q:=⟨kvs[i],by simp [hi]⟩
  obtain⟨u,hu,_⟩:=a14 rel hx
  have hl:kvs.length=vs.length:=rel.length
  rw [hl] at st
  refine wpAny_pyNext_dict_item st hd hu fun key h' hk st' sb=>?_
  have I1:Inv X pins σ H { s with heap:=h' }:=I.turned (t':=s.toks) (fun b o hb e=>sb.extBut b o hb e) f0 f1 f3 f4 f5
  obtain⟨o1,e,c,d⟩:=id st'
  exact⟨key,rfl,Ir (s:={ s with heap:=h' }) e c d (by decide) ⟨kV k,H,I1,b80 hk,⟨rfl,k,v,hx,rfl⟩,by rw [hl];exact st',fun b hb=>(hf b hb).1⟩⟩
 done:=by
  intro X hP hw hK hc i pins s σ H E I hf st hg
  subst hP hw hK
  obtain⟨hH,hi⟩:=hg
  obtain⟨vs,rel,hd,hm⟩:=I.kdict hH he
  obtain⟨f0,f1,f2,f3,f4,f5⟩:=hf it (by simp)
  have hl:kvs.length=vs.length:=rel.length
  rw [hl] at st
  exact wpAny_pyNext_dict_end (I.ok.hd hc) st hd (by simp;omega) fun h' eb=>⟨rfl,I.turned (t':=s.toks) (fun b o hb e=>eb b o hb e) f0 f1 f3 f4 f5⟩
 self:=fun _ _ _ _ _ st h=>wpAny_pyIter_keyiter st h
theorem ap6 {X:Cx} {tg:Expr} {pins:List (Addr×Obj)} {σ:St} {H:Hp} {s:ah} {R:It->Hp->Prop} {E:Value->ah->Prop} {p:Addr} {o:Obj} {kvs:List (Key×V)} (I:Inv X pins σ H s) (h:H p=some (.frz o (.dK kvs)))
  (q:R (Itd p o kvs) H):aJ (model X.prog X.w) X.A (pyIter (.ref p)) (PIE X pins σ tg R) E s:=by
 have he:∃ ep,ao3 o ep:=by
  obtain⟨e1,z,y,vs,r,ob,es,ep,e,c,d,_⟩:=I.hok p _ h
  rw [e1] at e;cases e
  exact⟨ep,es,d⟩
 obtain⟨ep,he⟩:=he
 obtain⟨vs,rel,hd,hm⟩:=I.kdict h he
 refine wpAny_pyIter_dict hm hd ?_
 refine⟨s.heap.objs.size,[s.heap.objs.size],_,_,H,rfl,I.kept (t':=s.toks) fun b o e=>ag _ e,Xq p _ o kvs he,⟨_,aF _ rfl,rfl,by rw [rel.length];rfl⟩,fun b hb=>?_,q⟩
 have e:b=s.heap.objs.size:=by simpa using hb
 subst e
 exact I.fpOk (ac _) (I.hok.fresh (ac _))
section
variable {X:Cx}
noncomputable def a22 (K:aa):R2:=fun x y H Q=>∃ a b ys,x=.ref a/\y=.ref b/\SqT K H a []/\SqT K H b ys/\Q (.ref b) H
theorem ar8:OpR X (eK .Add) (a22 X.K):=by
 intro pins s σ H x y v u Q I rx ry h
 obtain⟨a,b,ys,rfl,rfl,ha,hb,q⟩:=h
 cases rx
 cases ry
 obtain⟨its,r1,p1,_⟩:=I.tuple ha
 obtain⟨its2,r2,p2,_⟩:=I.tuple hb
 cases r1
 obtain⟨⟨c1,d1,da1,s1⟩,ho,hc,n,hd⟩:=id p1
 obtain⟨⟨c2,d2,da2,s2⟩,ho2,hc2,n2,hd2⟩:=id p2
 simp only at hc hd hc2 hd2
 subst hc hd hc2 hd2
 exact jD ⟨_,ho,rfl⟩ ⟨_,ho2,rfl⟩ g9 jl fm e_ (eR _ _)
   (tuple_addW0 a b _ _ n n2 d1 d2 s1 s2 rfl) ⟨ho,ho2,⟨.ref b,H,I,rfl,q⟩⟩
noncomputable def bc9 (T:String):Bool:=["int", "bool", "str", "list", "tuple", "dict"].contains T
theorem Na {K:aa} {t:String} (ht:t = "list" \/ t = "tuple"):∀ {Ts:List String},Ts.all bc9=true->iL K (.type t) (Ts.map iD)=some (Ts.any fun T=>T==t)
 | [],_=>rfl
 | T::Ts,h=>by
  rw [bu,aw] at h
  have hT:T = "int" \/ T = "bool" \/ T = "str" \/ T = "list" \/ T = "tuple" \/ T = "dict" := by
   have:=h.1
   unfold bc9 at this
   simpa using this
  have one:cj K (.type t) (.type T)=some (T==t):=by
   rcases ht with rfl|rfl <;> rcases hT with rfl|rfl|rfl|rfl|rfl|rfl <;> rfl
  rw [aM]
  unfold iL
  rw [one,cT]
  cases (T==t) with
  | true=>rfl
  | false=>exact Na ht h.2
theorem Wb:∀ {Ts:List String} {us:List Value},Vals (Ts.map V.ty) us->us=Ts.map iD
 | [],_,r=>by rw [fB] at r;cases r;rfl
 | T::Ts,_,r=>by
  rw [aM] at r
  cases r with
  | cons a b=>rw [Wb b,aM,show _=iD T from a]
theorem Re:∀ {Cs:List Addr} {us:List Value},Vals (Cs.map V.ref) us->us=Cs.map az
 | [],_,r=>by rw [fB] at r;cases r;rfl
 | T::Ts,_,r=>by
  rw [aM] at r
  cases r with
  | cons a b=>rw [Re b,aM,show _=az T from a]
noncomputable def a24 (K:aa):V->V->Hp->VK->Prop:=fun x y H Q=>match x,y with
 | .ref a,.ref b=>(∃ Ts:List String,SqT K H b (Ts.map V.ty)/\Ts.all bc9=true/\(((∃ xs,SqL K H a xs)/\Q (.bl (Ts.any fun T=>T == "list")) H)\/((∃ xs,SqT K H a xs)/\Q (.bl (Ts.any fun T=>T == "tuple")) H))) \/
   ∃ (Cs:List Addr) (C:Addr) (fs:List (Str×V)) (t:Bool),SqT K H b (Cs.map V.ref)/\ExcAt H a C fs/\ECls K C/\iL K (.ref C) (Cs.map az)=some t/\Q (.bl t) H
 | _,_=>False
theorem Wg {pins:List (Addr×Obj)} {σ:St} {H:Hp} {s:ah} {x y:V} {u v:Value} {Q:VK} (I:Inv X pins σ H s) (rx:RelV x u) (ry:RelV y v) (h:a24 X.K x y H Q):aJ (model X.prog X.w) X.A (call (.builtin "isinstance") [u,v]) (EP X pins σ Q) X.xe s:=by
  cases x <;> cases y <;> first
    | exact (show False from h).elim
    | (cases rx;cases ry
       rcases h with ⟨Ts,hT,ok,h⟩|⟨Cs,C,fs,t,hT,ex,ec,e,q⟩
       rotate_left
       . obtain⟨its,r,p,_⟩:=I.tuple hT
         obtain⟨⟨c1,d1,da1,s1⟩,ho,hc,n,hd⟩:=id p
         simp only at hc hd
         subst hc hd
         have e2:=Re r
         subst e2
         obtain⟨vs,dx,od,J,_⟩:=ex.inst I
         exact bt (ac _) (ip (Qo ec) I.kIn ⟨_,_,J⟩ ho e (fun z=>nomatch z) fun tk htk=>⟨.bl _,H,I.tok tk htk,rfl,q⟩)
       obtain⟨its,r,p,_⟩:=I.tuple hT
       obtain⟨⟨c1,d1,da1,s1⟩,ho,hc,n,hd⟩:=id p
       simp only at hc hd
       subst hc hd
       have e:=Wb r
       subst e
       rcases h with ⟨⟨xs,hq⟩,q⟩|⟨⟨xs,hq⟩,q⟩
       . obtain⟨_,_,⟨o,_,h1,h2,_⟩,_⟩:=I.list hq
         exact bt (ac _) (ip fu I.kIn ⟨o,h1,h2⟩ ho (Na (.inl rfl) ok) (fun z=>nomatch z) fun tk htk=>⟨.bl _,H,I.tok tk htk,rfl,q⟩)
       . obtain⟨_,_,⟨o,h1,h2,_⟩,_⟩:=I.tuple hq
         exact bt (ac _) (ip gp I.kIn ⟨o,h1,h2⟩ ho (Na (.inr rfl) ok) (fun z=>nomatch z) fun tk htk=>⟨.bl _,H,I.tok tk htk,rfl,q⟩))
theorem Vk (hu:X.A.units+64<cLine):IxR X (fun x y H Q=>∃ a v,x=.ref a/\D9 H a y (some v)/\Q v H):=by
 intro value slice pins s σ H x y v u Q I rx ry h hs
 obtain⟨a,w',rfl,g,q⟩:=h
 cases rx
 exact j7 (Qa I g) PySem.F.slot_dict_getitem.lookup (Wm (by omega) I g ry fun w1 s' I' r'=>⟨w',H,I',r',q⟩) hs
theorem ao6 {y:V} {v:Value} (r:RelV y v) (f:Bj y=true):a90 v=some y:=by
 cases y with
 | non=>cases r;rfl
 | bl b=>cases r;rfl
 | int i=>obtain⟨t,rfl⟩:=r;rfl
 | str z=>obtain⟨t,rfl⟩:=r;rfl
 | _=>cases f
noncomputable def eqF (y:V) (v:Value):Bool:=match a90 v with
 | some x=>eqV x y
 | none=>false
theorem aw6 {ys:List V} {us:List Value} (r:Vals ys us):∀ {i:Nat} {u:Value},us[i]? = some u -> ∃ y,ys[i]? = some y/\RelV y u:=by
 induction r with
 | nil=>intro i u e;simp at e
 | @cons y v ys us h t ih=>
  intro i u e
  cases i with
  | zero=>rw [gP] at e;cases e;exact⟨y,rfl,h⟩
  | succ i=>rw [dA] at e;exact ih e
noncomputable def Jp:V->List V->Hp->VK->Prop:=fun x xs H Q=>∃ p ys y,x=.ref p/\xs=[y]/\H p=some (.lst ys)/\Bj y=true/\ys.all Bj=true /\ ∃ j:Nat,j<ys.length/\eqV (ys.getD j .non) y=true/\(∀ m,m<j->eqV (ys.getD m .non) y=false)/\Q (.int j) H
theorem af1:MtR X "list.index" Jp:=by
 intro pins s σ H x xs v us Q I rx rs h
 obtain⟨p,ys,y,rfl,rfl,hp,fy,fs,j,hj,e1,e2,q⟩:=h
 cases rx
 obtain⟨u,rfl,ru⟩:=rs.one
 obtain⟨hz,its,n,r,e⟩:=I.hok p _ hp
 have hl:=r.length
 have at_:∀ (m:Nat) (hm:m<its.toArray.size),eqF y its.toArray[m]=eqV (ys.getD m .non) y/\RelV (ys.getD m .non) its.toArray[m]/\Bj (ys.getD m .non)=true:=fun m hm=>by
  have hm':m<its.length:=by simpa using hm
  obtain⟨y',h1,h2⟩:=aw6 r (i:=m) (u:=its[m]) (au hm')
  have f':Bj y'=true:=List.all_eq_true.mp fs y' (a9 h1)
  have g:ys.getD m .non=y':=by rw [aA,h1];rfl
  rw [g]
  have e3:its.toArray[m]=its[m]:=by simp
  rw [e3]
  refine⟨?_,h2,f'⟩
  unfold eqF
  rw [ao6 h2 f']
 have hs:its.toArray.size=ys.length:=by rw [am];omega
 refine gL gU ⟨_,e,rfl⟩ PySem.F.entry_list_index (PySem.F.args_list_index_2 _ _)
  (MeetsSeq.list_index p its.toArray n u (eqF y) (fun z hz=>?_) j (by omega) ?_ (by rw [(at_ j (by omega)).1];exact e1) (fun m hm hlt=>by rw [(at_ m hm).1];exact e2 m hlt)) ⟨e,?_⟩
 ·obtain⟨m,hm,rfl⟩:=Array.mem_iff_getElem.mp hz
  obtain⟨a1,a2,a3⟩:=at_ m hm
  rw [a1]
  exact fun prog w A E s Q hq=>M3 (A:=A) (s:=s) a2 ru a3 fy prog w E Q hq
 ·have:=bj
  have h3:(sizeLine:Int)<2 ^ 63 - 1:=by decide
  omega
 ·exact⟨.int j,H,I.tok _,⟨_,rfl⟩,q⟩
end
open Sem (wp)
section
variable {M:Model} {A:a_} {E:Value->ah->Prop} {env:Env}
variable {nm q:Str} {C N:Addr} {bs bm:List Value} {hdct:Bool} {sn:List Str} {sub:List Value} {ab:Bool} {col:Option Bool} {dd:Option Addr} {k0 k1 k2 k3 k5:Option Value} {newId:String}
end
section
variable {X:Cx} {e:Expr} {te:TE} {pos:Pos}
noncomputable def Sl (K:aa) (R:EK):VK:=fun x H=>match x with
 | .ref a=>∃ C dx,H a=some (D4 a C dx)/\ECls K C/\R a (upd H a (flO a C dx))
 | _=>False
theorem ah5 {Ex:St->EK} (m:Meets X Ex) (hh:X.A.handled=none) (he:PE X e te):PS X (.Raise (some e) none pos) (fun _ σ H=>te σ H (Sl X.K (Ex σ))):=by
 intro pins s σ H D I h
 rw [arm_exec_Raise]
 show aJ _ _ (do i_ pos;jR X.env (some (do let v <- eval e X.env;i_ pos;pure v)) none) _ _ s
 refine af (c4 ?_)
 unfold jR
 refine af (af (thn (he pins s σ H _ I h) fun v s1 ⟨x,H1,I1,r1,q1⟩=>af (c4 (ar ?_))))
 cases x with
 | ref a=>
  cases r1
  obtain⟨C,dx,ea,c,q⟩:=q1
  obtain⟨vs,g1,g2,g3,g4⟩:=Io I1 ea
  obtain⟨nm,qn,N,bs,bm,hdct,sn,sub,ab,col,dd,k0,k1,k2,k3,k5,hl,ht,hd⟩:=c.obj
  have hC:=I1.kIn _ _ hl
  have hb:bm.contains (.type "BaseException")=true:=Bi ht (by decide +kernel)
  have I2:Inv X pins σ (upd H1 a (flO a C dx)) s1:=by
   have:=I1.write (x:=a) (e:=a) (h':=s1.heap) (t':=s1.toks) (o:=flO a C dx) (by rw [ea];exact bv) (.inl rfl) (fun b u _ z=>z) ⟨_,g1⟩ (ac7 g1 g2 g4)
   exact this
  have hx:=m pins σ _ s1 a I2 ⟨C,dx,vs,.inl Ad,g1,g2,.inl g3⟩ q
  have hcB:(az C::bm).contains (.type "BaseException")=true:=by rw [bn,hb,eP]
  obtain⟨hp,g,d,tk,os⟩:=s1
  repeat (first|with_reducible refine cw g1 rfl g3 ?_|with_reducible refine aW g1 ?_|with_reducible refine aW hC ?_|(with_reducible refine bW hC ?_;rw [hcB])|wp_step)
  exact wpAny_raiseNew_none hh hx
 | _=>exact (show False from q1).elim
end
end L2
namespace L2
open PySem PySem.Spec PyProof.Rows
inductive Dt where
 | at_ (v:V)
 | lst (l:List Dt)
 | tup (l:List Dt)
mutual
noncomputable def deq:Dt->Dt->Bool
 | .at_ v,.at_ w=>eqV v w
 | .lst xs,.lst ys=>Fr xs ys
 | .tup xs,.tup ys=>Fr xs ys
 | _,_=>false
noncomputable def Fr:List Dt->List Dt->Bool
 | [],[]=>true
 | x::xs,y::ys=>deq x y&&Fr xs ys
 | _,_=>false
end
mutual
noncomputable def dep:Dt->Nat
 | .at_ _=>0
 | .lst l=>B6 l+1
 | .tup l=>B6 l+1
noncomputable def B6:List Dt->Nat
 | []=>0
 | x::xs=>jZ (dep x) (B6 xs)
end
mutual
noncomputable def At (K:aa) (H:Hp):Dt->V->Prop
 | .at_ v,x=>x=v/\Bj v=true
 | .lst ds,x=>∃ a xs,x=.ref a/\SqL K H a xs/\AtL K H ds xs
 | .tup ds,x=>∃ a xs,x=.ref a/\SqT K H a xs/\AtL K H ds xs
noncomputable def AtL (K:aa) (H:Hp):List Dt->List V->Prop
 | [],xs=>xs=[]
 | d::ds,xs=>∃ y ys,xs=y::ys/\At K H d y/\AtL K H ds ys
end
theorem AtL.length {K:aa} {H:Hp}:∀ {ds:List Dt} {xs:List V},AtL K H ds xs->xs.length=ds.length
 | [],xs,h=>by unfold AtL at h;subst h;rfl
 | d::ds,xs,h=>by
  unfold AtL at h
  obtain⟨y,ys,rfl,_,h2⟩:=h
  rw [aE,aE,AtL.length h2]
theorem At.pl {K:aa} {H:Hp}:∀ {d:Dt} {x:V},At K H d x->x.pl=true
 | .at_ v,x,h=>by
  unfold At at h
  obtain⟨h1,f⟩:=h
  subst h1
  cases x <;> first|rfl|cases f
 | .lst l,x,h=>by unfold At at h;obtain⟨a,xs,h1,_⟩:=h;subst h1;rfl
 | .tup l,x,h=>by unfold At at h;obtain⟨a,xs,h1,_⟩:=h;subst h1;rfl
theorem ac3 {v:V} (h:Bj v=true):eqV v v=true:=by
 cases v <;> first|rfl|(exact beq_self_eq_true _)|exact absurd (show false=true from h) ak
mutual
theorem Fq {K:aa} {H:Hp}:∀ {d:Dt} {x:V},At K H d x->deq d d=true
 | .at_ v,x,h=>by unfold At at h;unfold deq;exact ac3 h.2
 | .lst l,x,h=>by unfold At at h;obtain⟨a,xs,_,_,h⟩:=h;unfold deq;exact Gp h
 | .tup l,x,h=>by unfold At at h;obtain⟨a,xs,_,_,h⟩:=h;unfold deq;exact Gp h
theorem Gp {K:aa} {H:Hp}:∀ {ds:List Dt} {xs:List V},AtL K H ds xs->Fr ds ds=true
 | [],xs,h=>by unfold Fr;rfl
 | d::ds,xs,h=>by
  unfold AtL at h
  obtain⟨y,ys,rfl,h1,h2⟩:=h
  unfold Fr
  rw [Fq h1,Gp h2]
  rfl
end
theorem Ec:∀ {xs ys:List Dt},xs.length≠ys.length->Fr xs ys=false
 | [],[],h=>absurd rfl h
 | [],_::_,_=>by unfold Fr;rfl
 | _::_,[],_=>by unfold Fr;rfl
 | x::xs,y::ys,h=>by
  unfold Fr
  rw [Ec (xs:=xs) (ys:=ys) (fun e=>h (by rw [aE,aE,e])),gr]
theorem C4 (z:Dt):∀ {xs ys:List Dt},xs.length=ys.length->Fr xs ys=(cQ xs.length).all fun j=>deq (xs.getD j z) (ys.getD j z)
 | [],[],_=>by unfold Fr;rfl
 | [],_::_,h=>by simp at h
 | _::_,[],h=>by simp at h
 | x::xs,y::ys,h=>by
  unfold Fr
  rw [aE,List.range_succ_eq_map,bu,jy,C4 z (xs:=xs) (ys:=ys) (by simpa using h)]
  rfl
section
variable {X:Cx} {pins:List (Addr×Obj)} {σ:St} {H:Hp} {s:ah}
theorem Qu {a:Addr} {xs ys:List V} (I:Inv X pins σ H s) (h:SqL X.K H a xs) (h':SqT X.K H a ys):False:=by
 obtain⟨its,r,⟨o,n,e,c,_,d⟩,_⟩:=I.list h
 obtain⟨its',r',⟨o',e',c',n',d'⟩,_⟩:=I.tuple h'
 rw [e] at e';cases e'
 rw [c] at c'
 injection c' with c'
 exact absurd c' (by decide)
mutual
theorem Mt (I:Inv X pins σ H s):∀ {d d':Dt} {x:V},At X.K H d x->At X.K H d' x->d=d'
 | .at_ v,.at_ w,x,h,h'=>by unfold At at h h';rw [<- h.1,<- h'.1]
 | .at_ v,.lst l,x,h,h'=>by
  unfold At at h h'
  obtain⟨a,xs,rfl,_⟩:=h'
  rw [<- h.1] at h
  exact absurd (show false=true from h.2) ak
 | .at_ v,.tup l,x,h,h'=>by
  unfold At at h h'
  obtain⟨a,xs,rfl,_⟩:=h'
  rw [<- h.1] at h
  exact absurd (show false=true from h.2) ak
 | .lst l,.at_ v,x,h,h'=>by
  unfold At at h h'
  obtain⟨a,xs,rfl,_⟩:=h
  rw [<- h'.1] at h'
  exact absurd (show false=true from h'.2) ak
 | .tup l,.at_ v,x,h,h'=>by
  unfold At at h h'
  obtain⟨a,xs,rfl,_⟩:=h
  rw [<- h'.1] at h'
  exact absurd (show false=true from h'.2) ak
 | .lst l,.lst l',x,h,h'=>by
  unfold At at h h'
  obtain⟨a,xs,rfl,q,h⟩:=h
  obtain⟨a',xs',e,q',h'⟩:=h'
  cases e
  rw [I.list_inj q q'] at h
  rw [Ms I h h']
 | .tup l,.tup l',x,h,h'=>by
  unfold At at h h'
  obtain⟨a,xs,rfl,q,h⟩:=h
  obtain⟨a',xs',e,q',h'⟩:=h'
  cases e
  rw [I.tuple_inj q q'] at h
  rw [Ms I h h']
 | .lst l,.tup l',x,h,h'=>by
  unfold At at h h'
  obtain⟨a,xs,rfl,q,h⟩:=h
  obtain⟨a',xs',e,q',h'⟩:=h'
  cases e
  exact (Qu I q q').elim
 | .tup l,.lst l',x,h,h'=>by
  unfold At at h h'
  obtain⟨a,xs,rfl,q,h⟩:=h
  obtain⟨a',xs',e,q',h'⟩:=h'
  cases e
  exact (Qu I q' q).elim
theorem Ms (I:Inv X pins σ H s):∀ {ds ds':List Dt} {xs:List V},AtL X.K H ds xs->AtL X.K H ds' xs->ds=ds'
 | [],[],_,_,_=>rfl
 | [],_::_,_,h,h'=>by unfold AtL at h h';obtain⟨y,ys,e,_⟩:=h';rw [h] at e;cases e
 | _::_,[],_,h,h'=>by unfold AtL at h h';obtain⟨y,ys,e,_⟩:=h;rw [h'] at e;cases e
 | d::ds,d'::ds',xs,h,h'=>by
  unfold AtL at h h'
  obtain⟨y,ys,rfl,h1,h2⟩:=h
  obtain⟨y',ys',e,h1',h2'⟩:=h'
  cases e
  rw [Mt I h1 h1',Ms I h2 h2']
end
theorem Ls {A:a_} {v:V} {u:Value} {a:Addr} {its:Array Value} (f:Bj v=true) (r:RelV v u) (hl:s.heap.IsList a its) (hu:A.units<cLine):aZ A s u (.ref a) false/\aZ A s (.ref a) u false:=by
 cases v with
 | non=>cases r;exact⟨.none_list hl hu,.list_none hl hu⟩
 | bl b=>cases r;exact⟨.bool_list b hl hu,.list_bool b hl hu⟩
 | int i=>obtain⟨t,rfl⟩:=r;exact⟨.int_list i t hl hu,.list_int i t hl hu⟩
 | str i=>obtain⟨t,rfl⟩:=r;exact⟨.str_list i t hl hu,.list_str i t hl hu⟩
 | _=>exact absurd (show false=true from f) ak
theorem Ip {A:a_} {v:V} {u:Value} {a:Addr} {its:Array Value} (f:Bj v=true) (r:RelV v u) (hl:s.heap.IsTuple a its) (hu:A.units<cLine):aZ A s u (.ref a) false/\aZ A s (.ref a) u false:=by
 cases v with
 | non=>cases r;exact⟨.none_tuple hl hu,.tuple_none hl hu⟩
 | bl b=>cases r;exact⟨.bool_tuple b hl hu,.tuple_bool b hl hu⟩
 | int i=>obtain⟨t,rfl⟩:=r;exact⟨.int_tuple i t hl hu,.tuple_int i t hl hu⟩
 | str i=>obtain⟨t,rfl⟩:=r;exact⟨.str_tuple i t hl hu,.tuple_str i t hl hu⟩
 | _=>exact absurd (show false=true from f) ak
mutual
theorem ac1 (I:Inv X pins σ H s):∀ (d d':Dt) (A:a_) (x y:V) (u v:Value),At X.K H d x->At X.K H d' y->RelV x u->RelV y v->A.units+dep d<cLine->aZ A s u v (deq d d')
 | .at_ p,.at_ q,A,x,y,u,v,h,h',r,r',hu=>by
  unfold At at h h';unfold deq
  obtain⟨rfl,f⟩:=h
  obtain⟨rfl,f'⟩:=h'
  exact M3 r r' f f'
 | .at_ p,.lst l,A,x,y,u,v,h,h',r,r',hu=>by
  unfold At at h h';unfold deq
  obtain⟨rfl,f⟩:=h
  obtain⟨a,xs,rfl,q,_⟩:=h'
  obtain⟨its,_,pl,_⟩:=I.list q
  cases r'
  exact (Ls f r pl.isList (by omega)).1
 | .at_ p,.tup l,A,x,y,u,v,h,h',r,r',hu=>by
  unfold At at h h';unfold deq
  obtain⟨rfl,f⟩:=h
  obtain⟨a,xs,rfl,q,_⟩:=h'
  obtain⟨its,_,pl,_⟩:=I.tuple q
  cases r'
  exact (Ip f r pl (by omega)).1
 | .lst l,.at_ p,A,x,y,u,v,h,h',r,r',hu=>by
  unfold At at h h';unfold deq
  obtain⟨rfl,f⟩:=h'
  obtain⟨a,xs,rfl,q,_⟩:=h
  obtain⟨its,_,pl,_⟩:=I.list q
  cases r
  exact (Ls f r' pl.isList (by omega)).2
 | .tup l,.at_ p,A,x,y,u,v,h,h',r,r',hu=>by
  unfold At at h h';unfold deq
  obtain⟨rfl,f⟩:=h'
  obtain⟨a,xs,rfl,q,_⟩:=h
  obtain⟨its,_,pl,_⟩:=I.tuple q
  cases r
  exact (Ip f r' pl (by omega)).2
 | .lst l,.tup l',A,x,y,u,v,h,h',r,r',hu=>by
  unfold At at h h';unfold deq
  obtain⟨a,xs,rfl,q,_⟩:=h
  obtain⟨b,ys,rfl,q',_⟩:=h'
  obtain⟨its,_,pl,_⟩:=I.list q
  obtain⟨its',_,pl',_⟩:=I.tuple q'
  cases r;cases r'
  exact .list_tuple pl.isList pl' (by omega)
 | .tup l,.lst l',A,x,y,u,v,h,h',r,r',hu=>by
  unfold At at h h';unfold deq
  obtain⟨a,xs,rfl,q,_⟩:=h
  obtain⟨b,ys,rfl,q',_⟩:=h'
  obtain⟨its,_,pl,_⟩:=I.tuple q
  obtain⟨its',_,pl',_⟩:=I.list q'
  cases r;cases r'
  exact .tuple_list pl pl'.isList (by omega)
 | .lst l,.lst l',A,x,y,u,v,h,h',r,r',hu=>by
  by_cases e:x=y
  ·subst e
   have:=Mt I h h'
   rw [<- this,Fq h]
   have hx:∃ a,x=.ref a:=by unfold At at h;obtain⟨a,_,e,_⟩:=h;exact⟨a,e⟩
   obtain⟨a,rfl⟩:=hx
   cases r;cases r'
   exact .same _
  ·unfold At at h h';unfold deq
   unfold dep at hu
   obtain⟨a,xs,rfl,q,h⟩:=h
   obtain⟨b,ys,rfl,q',h'⟩:=h'
   obtain⟨its,ri,pl,_⟩:=I.list q
   obtain⟨its',ri',pl',_⟩:=I.list q'
   cases r;cases r'
   have ne:a≠b:=fun z=>e (by rw [z])
   have e1:=h.length
   have e2:=h'.length
   have e3:=ri.length
   have e4:=ri'.length
   refine .of_refs ne ?_
   by_cases hl:l.length=l'.length
   ·rw [C4 (.lst []) hl]
    have hsz:its.toArray.size=l.length:=by simp;omega
    rw [<- hsz]
    exact .lists pl.isList pl'.isList (by simp;omega) (by omega) fun j h1 h2=>by
     have:=Fs I l l' A.in1 xs ys its its' h h' ri ri' (by show A.units+1+B6 l<cLine;omega) j (by simpa using h1) (by simpa using h2)
     simpa using this
   ·rw [Ec hl]
    exact .lists_lengths pl.isList pl'.isList (by simp;omega) (by omega)
 | .tup l,.tup l',A,x,y,u,v,h,h',r,r',hu=>by
  by_cases e:x=y
  ·subst e
   have:=Mt I h h'
   rw [<- this,Fq h]
   have hx:∃ a,x=.ref a:=by unfold At at h;obtain⟨a,_,e,_⟩:=h;exact⟨a,e⟩
   obtain⟨a,rfl⟩:=hx
   cases r;cases r'
   exact .same _
  ·unfold At at h h';unfold deq
   unfold dep at hu
   obtain⟨a,xs,rfl,q,h⟩:=h
   obtain⟨b,ys,rfl,q',h'⟩:=h'
   obtain⟨its,ri,pl,_⟩:=I.tuple q
   obtain⟨its',ri',pl',_⟩:=I.tuple q'
   cases r;cases r'
   have ne:a≠b:=fun z=>e (by rw [z])
   have e1:=h.length
   have e2:=h'.length
   have e3:=ri.length
   have e4:=ri'.length
   refine .of_refs ne ?_
   have T:=SeqAt.RcAt.tuples (A:=A) (s:=s) (e:=fun j=>deq (l.getD j (.lst [])) (l'.getD j (.lst []))) pl pl' (by omega) fun j h1 h2=>by
     have:=Fs I l l' A.in1 xs ys its its' h h' ri ri' (by show A.units+1+B6 l<cLine;omega) j (by simpa using h1) (by simpa using h2)
     simpa using this
   by_cases hl:l.length=l'.length
   ·rw [C4 (.lst []) hl]
    have hsz:its.toArray.size=l.length:=by simp;omega
    have hsz':its'.toArray.size=l.length:=by simp;omega
    rw [hsz,hsz',Nat.min_self,beq_self_eq_true,Bool.and_true] at T
    exact T
   ·rw [Ec hl]
    have hne:(its.toArray.size==its'.toArray.size)=false:=by
     rw [beq_eq_false_iff_ne];simp;omega
    rw [hne,gr] at T
    exact T
theorem Fs (I:Inv X pins σ H s):∀ (ds ds':List Dt) (A:a_) (xs ys:List V) (us vs:List Value),AtL X.K H ds xs->AtL X.K H ds' ys->Vals xs us->Vals ys vs->A.units+B6 ds<cLine ->
  ∀ (j:Nat) (h1:j<us.length) (h2:j<vs.length),aZ A s us[j] vs[j] (deq (ds.getD j (.lst [])) (ds'.getD j (.lst [])))
 | [],_,A,xs,ys,us,vs,h,h',r,r',hu=>fun j h1 h2=>by
  unfold AtL at h
  subst h
  cases r
  cases h1
 | _::_,[],A,xs,ys,us,vs,h,h',r,r',hu=>fun j h1 h2=>by
  unfold AtL at h'
  subst h'
  cases r'
  cases h2
 | d::ds,d'::ds',A,xs,ys,us,vs,h,h',r,r',hu=>fun j h1 h2=>by
  unfold AtL at h h'
  obtain⟨y,ys,rfl,q1,q2⟩:=h
  obtain⟨z,zs,rfl,q1',q2'⟩:=h'
  cases r with
  | cons r1 r2=>
   cases r' with
   | cons r1' r2'=>
    unfold B6 at hu
    have m1:dep d<=jZ (dep d) (B6 ds):=Nat.le_max_left _ _
    have m2:B6 ds<=jZ (dep d) (B6 ds):=Nat.le_max_right _ _
    cases j with
    | zero=>exact ac1 I d d' A _ _ _ _ q1 q1' r1 r1' (by omega)
    | succ j=>exact Fs I ds ds' A _ _ _ _ q2 q2' r2 r2' (by omega) j (by simpa using h1) (by simpa using h2)
end
theorem Ey {K:aa} {d:Dt} {a:Addr} (h:At K H d (.ref a)):(∃ l xs,d=.lst l/\SqL K H a xs/\AtL K H l xs)\/(∃ l xs,d=.tup l/\SqT K H a xs/\AtL K H l xs):=by
 cases d with
 | at_ v=>
  unfold At at h
  rw [<- h.1] at h
  exact absurd (show false=true from h.2) ak
 | lst l=>unfold At at h;obtain⟨b,xs,e,q,h⟩:=h;cases e;exact .inl ⟨l,xs,rfl,q,h⟩
 | tup l=>unfold At at h;obtain⟨b,xs,e,q,h⟩:=h;cases e;exact .inr ⟨l,xs,rfl,q,h⟩
theorem Qt {K:aa} {d:Dt} {x:V} (h:At K H d x) (f:∀ a,x≠.ref a):d=.at_ x/\Bj x=true:=by
 cases d with
 | at_ v=>unfold At at h;rw [h.1];exact⟨rfl,h.2⟩
 | lst l=>unfold At at h;obtain⟨b,xs,e,_⟩:=h;exact absurd e (f b)
 | tup l=>unfold At at h;obtain⟨b,xs,e,_⟩:=h;exact absurd e (f b)
theorem ct9 (I:Inv X pins σ H s) {A:a_} {d d':Dt} {a b:Addr} (h:At X.K H d (.ref a)) (h':At X.K H d' (.ref b)) (hu:A.units+dep d<cLine):gK A s (.ref a) (.ref b) (deq d d')/\eS A s (.ref a) (.ref b) (!deq d d'):=by
 rcases Ey h with ⟨l,xs,rfl,q,h⟩|⟨l,xs,rfl,q,h⟩
 ·rcases Ey h' with ⟨l',ys,rfl,q',h'⟩|⟨l',ys,rfl,q',h'⟩
  ·unfold deq
   unfold dep at hu
   obtain⟨its,ri,pl,_⟩:=I.list q
   obtain⟨its',ri',pl',_⟩:=I.list q'
   have e1:=h.length
   have e2:=h'.length
   have e3:=ri.length
   have e4:=ri'.length
   have it:∀ j (h1:j<its.toArray.size) (h2:j<its'.toArray.size),aZ A.in1 s its.toArray[j] its'.toArray[j] (deq (l.getD j (.lst [])) (l'.getD j (.lst []))):=fun j h1 h2=>by
    have:=Fs I l l' A.in1 xs ys its its' h h' ri ri' (by show A.units+1+B6 l<cLine;omega) j (by simpa using h1) (by simpa using h2)
    simpa using this
   by_cases hl:l.length=l'.length
   ·rw [C4 (.lst []) hl]
    have hsz:its.toArray.size=l.length:=by simp;omega
    rw [<- hsz]
    exact⟨.lists pl.isList pl'.isList (by simp;omega) (by omega) it,.lists pl.isList pl'.isList (by simp;omega) (by omega) it⟩
   ·rw [Ec hl]
    exact⟨.lists_lengths pl.isList pl'.isList (by simp;omega) (by omega),.lists_lengths pl.isList pl'.isList (by simp;omega) (by omega)⟩
  ·unfold deq
   obtain⟨its,ri,pl,_⟩:=I.list q
   obtain⟨its',ri',pl',_⟩:=I.tuple q'
   exact⟨.list_tuple pl.isList pl' (by omega),.list_tuple pl.isList pl' (by omega)⟩
 ·rcases Ey h' with ⟨l',ys,rfl,q',h'⟩|⟨l',ys,rfl,q',h'⟩
  ·unfold deq
   obtain⟨its,ri,pl,_⟩:=I.tuple q
   obtain⟨its',ri',pl',_⟩:=I.list q'
   exact⟨.tuple_list pl pl'.isList (by omega),.tuple_list pl pl'.isList (by omega)⟩
  ·unfold deq
   unfold dep at hu
   obtain⟨its,ri,pl,_⟩:=I.tuple q
   obtain⟨its',ri',pl',_⟩:=I.tuple q'
   have e1:=h.length
   have e2:=h'.length
   have e3:=ri.length
   have e4:=ri'.length
   have it:∀ j (h1:j<its.toArray.size) (h2:j<its'.toArray.size),aZ A.in1 s its.toArray[j] its'.toArray[j] (deq (l.getD j (.lst [])) (l'.getD j (.lst []))):=fun j h1 h2=>by
    have:=Fs I l l' A.in1 xs ys its its' h h' ri ri' (by show A.units+1+B6 l<cLine;omega) j (by simpa using h1) (by simpa using h2)
    simpa using this
   have T:=SeqAt.RcAt.tuples pl pl' (by omega) it
   have T':=SeqAt.RcNeAt.tuples pl pl' (by omega) it
   by_cases hl:l.length=l'.length
   ·rw [C4 (.lst []) hl]
    have hsz:its.toArray.size=l.length:=by simp;omega
    have hsz':its'.toArray.size=l.length:=by simp;omega
    rw [hsz,hsz',Nat.min_self,beq_self_eq_true,Bool.and_true] at T T'
    exact⟨T,T'⟩
   ·rw [Ec hl]
    have hne:(its.toArray.size==its'.toArray.size)=false:=by
     rw [beq_eq_false_iff_ne];simp;omega
    rw [hne,gr] at T T'
    exact⟨T,T'⟩
theorem Vz (I:Inv X pins σ H s) {A:a_} {d:Dt} {a:Addr} {v:V} {u:Value} (h:At X.K H d (.ref a)) (f:Bj v=true) (r:RelV v u) (hu:A.units<cLine) :
  gK A s (.ref a) u false/\eS A s (.ref a) u true/\gK A s u (.ref a) false/\eS A s u (.ref a) true:=by
 rcases Ey h with ⟨l,xs,rfl,q,h⟩|⟨l,xs,rfl,q,h⟩
 ·obtain⟨its,ri,pl,_⟩:=I.list q
  cases v with
  | non=>cases r;exact⟨.list_none pl.isList hu,.list_none pl.isList hu,.none_list pl.isList hu,.none_list pl.isList hu⟩
  | bl b=>cases r;exact⟨.list_bool b pl.isList hu,.list_bool b pl.isList hu,.bool_list b pl.isList hu,.bool_list b pl.isList hu⟩
  | int b=>obtain⟨t,rfl⟩:=r;exact⟨.list_int b t pl.isList hu,.list_int b t pl.isList hu,.int_list b t pl.isList hu,.int_list b t pl.isList hu⟩
  | str b=>obtain⟨t,rfl⟩:=r;exact⟨.list_str b t pl.isList hu,.list_str b t pl.isList hu,.str_list b t pl.isList hu,.str_list b t pl.isList hu⟩
  | _=>exact absurd (show false=true from f) ak
 ·obtain⟨its,ri,pl,_⟩:=I.tuple q
  cases v with
  | non=>cases r;exact⟨.tuple_none pl hu,.tuple_none pl hu,.none_tuple pl hu,.none_tuple pl hu⟩
  | bl b=>cases r;exact⟨.tuple_bool b pl hu,.tuple_bool b pl hu,.bool_tuple b pl hu,.bool_tuple b pl hu⟩
  | int b=>obtain⟨t,rfl⟩:=r;exact⟨.tuple_int b t pl hu,.tuple_int b t pl hu,.int_tuple b t pl hu,.int_tuple b t pl hu⟩
  | str b=>obtain⟨t,rfl⟩:=r;exact⟨.tuple_str b t pl hu,.tuple_str b t pl hu,.str_tuple b t pl hu,.str_tuple b t pl hu⟩
  | _=>exact absurd (show false=true from f) ak
noncomputable def Xh (K:aa) (neg:Bool):R2:=fun x y H Q=>∃ d d',At K H d x/\At K H d' y/\dep d<=40/\Q (.bl (if neg then !deq d d' else deq d d')) H
theorem aj8 (I:Inv X pins σ H s) {A:a_} {d d':Dt} {x y:V} {u v:Value} (h:At X.K H d x) (h':At X.K H d' y) (r:RelV x u) (r':RelV y v) (hr:(∃ a,x=.ref a) \/ ∃ b,y=.ref b) (hu:A.units+dep d<cLine) :
  gK A s u v (deq d d')/\eS A s u v (!deq d d'):=by
 by_cases hx:∃ a,x=.ref a
 ·obtain⟨a,rfl⟩:=hx
  cases r
  by_cases hy:∃ b,y=.ref b
  ·obtain⟨b,rfl⟩:=hy
   cases r'
   exact ct9 I h h' hu
  ·obtain⟨rfl,f⟩:=Qt h' (fun b e=>hy ⟨b,e⟩)
   obtain⟨q1,q2,_⟩:=Vz I h f r' (show A.units<cLine by omega)
   have e:deq d (.at_ y)=false:=by
    rcases Ey h with ⟨l,xs,rfl,_⟩|⟨l,xs,rfl,_⟩ <;> (unfold deq;rfl)
   rw [e]
   exact⟨q1,q2⟩
 ·have hy:∃ b,y=.ref b:=hr.resolve_left hx
  obtain⟨b,rfl⟩:=hy
  cases r'
  obtain⟨rfl,f⟩:=Qt h (fun b e=>hx ⟨b,e⟩)
  obtain⟨_,_,q1,q2⟩:=Vz I h' f r (show A.units<cLine by omega)
  have e:deq (.at_ x) d'=false:=by
   rcases Ey h' with ⟨l,xs,rfl,_⟩|⟨l,xs,rfl,_⟩ <;> (unfold deq;rfl)
  rw [e]
  exact⟨q1,q2⟩
theorem Sd (hu:X.A.units+64<cLine) {x y:V} {u v:Value} {Q:VK} (I:Inv X pins σ H s) (rx:RelV x u) (ry:RelV y v) (hr:(∃ a,x=.ref a) \/ ∃ b,y=.ref b) (h:Xh X.K false x y H Q):aJ (model X.prog X.w) X.A (b7 .Eq u v) (EP X pins σ Q) X.xe s:=by
 obtain⟨d,d',h1,h2,hd,q⟩:=h
 exact (aj8 I h1 h2 rx ry hr (A:=X.A) (by omega)).1 _ _ _ _ ⟨.bl _,H,I,rfl,q⟩
theorem Se (hu:X.A.units+64<cLine) {x y:V} {u v:Value} {Q:VK} (I:Inv X pins σ H s) (rx:RelV x u) (ry:RelV y v) (hr:(∃ a,x=.ref a) \/ ∃ b,y=.ref b) (h:Xh X.K true x y H Q):aJ (model X.prog X.w) X.A (b7 .NotEq u v) (EP X pins σ Q) X.xe s:=by
 obtain⟨d,d',h1,h2,hd,q⟩:=h
 exact (aj8 I h1 h2 rx ry hr (A:=X.A) (by omega)).2 _ _ _ _ ⟨.bl _,H,I,rfl,q⟩
noncomputable def eqW (K:aa) (H:Hp) (d':Dt) (u:Value):Bool:=@decide (∃ x d,RelV x u/\At K H d x/\deq d d'=true) (eX _)
theorem ba4 (I:Inv X pins σ H s) {d d':Dt} {x:V} {u:Value} (r:RelV x u) (h:At X.K H d x):eqW X.K H d' u=deq d d':=by
 unfold eqW
 cases e:deq d d' with
 | true=>exact @decide_eq_true _ (eX _) ⟨x,d,r,h,e⟩
 | false=>
  refine @decide_eq_false _ (eX _) fun⟨x',d2,r',h',e'⟩=>?_
  have:=r.inj r' h.pl h'.pl
  subst this
  rw [Mt I h h'] at e
  rw [e] at e'
  cases e'
theorem L6 (I:Inv X pins σ H s) {A:a_} {d':Dt} {y:V} {v:Value} (h':At X.K H d' y) (r':RelV y v):∀ {ds:List Dt} {xs:List V} {us:List Value},AtL X.K H ds xs->Vals xs us->A.units+B6 ds<cLine ->
  (∀ u∈us,aZ A s u v (eqW X.K H d' u))/\us.countP (eqW X.K H d')=ds.countP (fun d=>deq d d')/\us.any (eqW X.K H d')=ds.any (fun d=>deq d d')
 | [],xs,us,h,r,hu=>by
  unfold AtL at h
  subst h
  cases r
  exact⟨(fun u hu=>by cases hu),rfl,rfl⟩
 | d::ds,xs,us,h,r,hu=>by
  unfold AtL at h
  obtain⟨x,xs,rfl,h1,h2⟩:=h
  cases r with
  | cons r1 r2=>
   unfold B6 at hu
   have m1:dep d<=jZ (dep d) (B6 ds):=Nat.le_max_left _ _
   have m2:B6 ds<=jZ (dep d) (B6 ds):=Nat.le_max_right _ _
   obtain⟨q1,q2,q3⟩:=L6 I h' r' h2 r2 (A:=A) (by omega)
   have e:=ba4 I (d':=d') r1 h1
   refine⟨fun u hu=>?_,?_,?_⟩
   ·rcases List.mem_cons.mp hu with rfl|hu
    ·rw [e];exact ac1 I d d' A _ _ _ _ h1 h' r1 r' (by omega)
    ·exact q1 u hu
   ·rw [List.countP_cons,List.countP_cons,q2,e]
   ·rw [cT,cT,q3,e]
noncomputable def Jo (K:aa):V->List V->Hp->VK->Prop:=fun x xs H Q=>∃ p y ds d ys,x=.ref p/\xs=[y]/\SqL K H p ys/\AtL K H ds ys/\At K H d y/\B6 ds<=40/\Q (.int (ds.countP fun c=>deq c d:Nat)) H
theorem af0 (hu:X.A.units+64<cLine):MtR X "list.count" (Jo X.K):=by
 intro pins s σ H x xs v us Q I rx rs h
 obtain⟨p,y,ds,d,ys,rfl,rfl,hq,hL,hd,hz,q⟩:=h
 cases rx
 cases rs with
 | cons ry t=>
  cases t
  obtain⟨its,r,⟨o,n,e,c,dn,dt⟩,hz2⟩:=I.list hq
  obtain⟨oc,od,odt,osl⟩:=o
  simp only at c dn dt
  subst c dn dt
  obtain⟨q1,q2,q3⟩:=L6 I hd ry hL r (A:=X.A.in1) (by show X.A.units+1+B6 ds<cLine;omega)
  refine gL gT ⟨_,e,rfl⟩ PySem.F.entry_list_count (PySem.F.args_list_count_2 _ _) (SeqAt.list_countAt p its.toArray n none osl _ (eqW X.K H d)) ⟨e,fun z hz=>q1 z (by simpa using hz),?_⟩
  refine⟨.int _,H,I.tok _,⟨_,rfl⟩,?_⟩
  rw [<- q2] at q
  exact q
end
end L2
set_option maxHeartbeats 1000000
namespace L2
open PySem PySem.Spec PyProof.Rows
theorem Ww {prog:aH} {w:bh} {A:a_} {E:Value->ah->Prop} {s:ah} {Q:Int->ah->Prop} (h:Q (reduceHash 4238894112) { s with toks:=s.toks+1 }):aJ (model prog w) A (pyHash .none) Q E s:=by
 show aJ (model prog w) A (pyHashByItsType .none) Q E s
 refine PySem.W.pyHash_slot (T := "NoneType") rfl PySem.F.slot_NoneType_hash PySem.F.entry_NoneType_hash (PySem.F.args_NoneType_hash_1 _) rfl (.inl rfl) ?_
 unfold bg.«NoneType.__hash__»
 refine af (m:=slotArgs "__hash__" 0 _) (ar ?_)
 unfold retInt
 exact af (wpAny_mkInt (ar ⟨_,_,rfl,h⟩))
noncomputable def b85:Option Key->Value->Bool
 | none,v=>v==.none
 | some k,v=>F7 k v
theorem Cf {k:Option Key} {v:Value} (h:b85 k v=true):(k=none/\v=.none) \/ ∃ k',k=some k'/\F7 k' v=true:=by
 cases k with
 | none=>exact .inl ⟨rfl,bS h⟩
 | some k=>exact .inr ⟨k,rfl,h⟩
noncomputable def Hw (prog:aH) (w:bh):PySem.KeyKind prog w (Option Key) where
 is:=b85
 hash:=fun k=>match k with
  | none=>reduceHash 4238894112
  | some k=>b82 w k
 inj:=fun v a b ha hb=>by
  rcases Cf ha with ⟨rfl,rfl⟩|⟨k,rfl,ha⟩
  ·rcases Cf hb with ⟨rfl,_⟩|⟨k',rfl,hb⟩
   ·rfl
   ·rcases Az hb with ⟨_,_,_,e⟩|⟨_,_,_,e⟩ <;> cases e
  ·rcases Cf hb with ⟨rfl,rfl⟩|⟨k',rfl,hb⟩
   ·rcases Az ha with ⟨_,_,_,e⟩|⟨_,_,_,e⟩ <;> cases e
   ·rw [(As prog w).inj v k k' ha hb]
 byValue:=fun k v h=>by
  rcases Cf h with ⟨rfl,rfl⟩|⟨k,rfl,h⟩
  ·rfl
  ·exact (As prog w).byValue k v h
 pyHash:=fun hv h=>by
  rcases Cf hv with ⟨rfl,rfl⟩|⟨k,rfl,hv⟩
  ·exact Ww h
  ·exact (As prog w).pyHash hv h
 eqBool:=fun hu hv h=>by
  rcases Cf hu with ⟨rfl,rfl⟩|⟨k,rfl,hu⟩
  ·rcases Cf hv with ⟨rfl,rfl⟩|⟨k',rfl,hv⟩
   ·exact SeqAt.EqAt.same _ _ _ _ _ (by simpa using h)
   ·rcases Az hv with ⟨i,t,rfl,rfl⟩|⟨x,t,rfl,rfl⟩
    ·exact iY _ _ _ _ _ _ (by simpa using h)
    ·exact iZ _ _ _ _ _ _ (by simpa using h)
  ·rcases Cf hv with ⟨rfl,rfl⟩|⟨k',rfl,hv⟩
   ·rcases Az hu with ⟨i,t,rfl,rfl⟩|⟨x,t,rfl,rfl⟩
    ·exact iX _ _ _ _ _ _ (by simpa using h)
    ·exact i4 _ _ _ _ _ _ (by simpa using h)
   ·exact (As prog w).eqBool hu hv (by
     have e:decide (some k=some k')=decide (k=k'):=by by_cases q:k=k' <;> simp [q]
     rwa [e] at h)
 «strs»:=fun k x t v h=>by
  rcases Cf h with ⟨rfl,e⟩|⟨k,rfl,h⟩
  ·cases e
  ·exact (As prog w).strs k x t v h
section
variable {X:Cx} {pins:List (Addr×Obj)} {σ:St} {H:Hp} {s:ah} {A:a_} {E:Value->ah->Prop}
theorem Me {prog:aH} {w:bh}:∀ {es:List DictEntry} {kvs:List (Key×Value)},Pairs (As prog w) es kvs->Pairs (Hw prog w) es (kvs.map fun kv=>(some kv.1,kv.2))
 | _,_,.nil=>.nil
 | _,_,.cons h1 h2 h3=>.cons (kv:=(some _,_)) h1 h2 (Me h3)
theorem P9 {prog:aH} {w:bh} {h:Heap} {a:Addr} {kvs:List (Key×Value)} (d:h.DictOf (As prog w) a kvs):h.DictOf (Hw prog w) a (kvs.map fun kv=>(some kv.1,kv.2)):=by
 obtain⟨o,es,ep,h1,h2,h3,h4,h5,h6⟩:=d
 refine⟨o,es,ep,h1,h2,h3,fun e he=>?_,Me h5,?_⟩
 ·obtain⟨k,q1,q2⟩:=h4 e he
  exact⟨some k,q1,q2⟩
 ·rw [cq]
  have e:(gQ ((fun x=>x.1)∘fun kv:Key×Value=>(some kv.1,kv.2)) kvs)=(kvs.map (·.1)).map some:=by rw [cq];rfl
  rw [e]
  exact List.pairwise_map.mpr (h6.imp fun n e=>n (aN e))
theorem R7:∀ kvs:List (Key×Value),gB (kvs.map fun kv=>(some kv.1,kv.2)) none=none
 | []=>rfl
 | kv::r=>by
  have:=R7 r
  unfold gB at *
  rw [aM,cx]
  simpa using this
theorem cs6 {a:Addr} {kvs:List (Key×V)} {Q:Value->ah->Prop} (I:Inv X pins σ H s) (e:Rd H a (.dK kvs)) (h:∀ s',Inv X pins σ H s'->Q (.bool false) s'):aJ (model X.prog X.w) A (b7 .In .none (.ref a)) Q E s:=by
 obtain⟨z,hd,vs,rel,dd⟩:=D2 I.hok e
 refine jW (knd:=Hw X.prog X.w) (k:=none) rfl hd (P9 dd).mapOf ?_
 rw [R7]
 exact h _ (I.tok _)
theorem ar3 {a:Addr} {kvs:List (Key×V)} {Q:Value->ah->Prop} (I:Inv X pins σ H s) (e:Rd H a (.dK kvs)) (h:∀ s',Inv X pins σ H s'->Q (.bool true) s'):aJ (model X.prog X.w) A (b7 .NotIn .none (.ref a)) Q E s:=by
 obtain⟨z,hd,vs,rel,dd⟩:=D2 I.hok e
 refine iP (knd:=Hw X.prog X.w) (k:=none) rfl hd (P9 dd).mapOf ?_
 rw [R7]
 exact h _ (I.tok _)
end
end L2
set_option maxHeartbeats 4000000
namespace L2
open PySem PySem.Spec PyProof.Rows
noncomputable def rNo:R2:=fun _ _ _ _=>False
noncomputable def Bw (K:aa):R2:=fun x y H Q=>match x,y with
 | .int i,.int j=>Q (.int (i+j)) H
 | .str a,.str b=>a.length+b.length<=sizeLine/\Q (.str (a++b)) H
 | .ref a,.ref b=>cd0 (.ref a) (.ref b) H Q\/a23 K (.ref a) (.ref b) H Q\/a22 K (.ref a) (.ref b) H Q
 | _,_=>False
noncomputable def cd3:R2:=fun x y H Q=>match x,y with
 | .int i,.int j=>Q (.int (i - j)) H
 | _,_=>False
noncomputable def He (K:aa):R2:=fun x y H Q=>match x,y with
 | .int i,.int j=>CMul i j/\Q (.int (i * j)) H
 | _,_=>False
noncomputable def B8:R2:=fun x y H Q=>match x,y with
 | .int i,.int j=>b49 i j/\Q (.int (i / j)) H
 | _,_=>False
noncomputable def Bf:R2:=fun x y H Q=>match x,y with
 | .int i,.int j=>0<j/\Q (.int (i % j)) H
 | _,_=>False
noncomputable def a25:R2:=fun x y H Q=>match x,y with
 | .int i,.int j=>a58 i j/\Q (.int (i ^ j.toNat)) H
 | _,_=>False
noncomputable def rOp (K:aa):j0->R2
 | .Add=>Bw K
 | .Sub=>cd3
 | .Mult=>He K
 | .FloorDiv=>B8
 | .Mod=>Bf
 | .Pow=>a25
 | _=>rNo
section
variable {X:Cx}
theorem cs7 (op:j0):OpR X (eK op) (rOp X.K op):=by
 intro pins s σ H x y v u Q I rx ry h
 cases op with
 | Add=>
  cases x <;> cases y <;> first
   | exact (show False from h).elim
   | exact bh8 pins s σ H _ _ v u Q I rx ry ⟨_,_,rfl,rfl,h⟩
   | exact Sc pins s σ H _ _ v u Q I rx ry ⟨_,_,rfl,rfl,h⟩
   | exact (op_cat.or (op_catT.or ar8)) pins s σ H _ _ v u Q I rx ry h
 | Sub=>cases x <;> cases y <;> first|exact (show False from h).elim|exact bi5 pins s σ H _ _ v u Q I rx ry ⟨_,_,rfl,rfl,h⟩
 | Mult=>cases x <;> cases y <;> first|exact (show False from h).elim|exact bi2 pins s σ H _ _ v u Q I rx ry ⟨_,_,rfl,rfl,h⟩
 | FloorDiv=>cases x <;> cases y <;> first|exact (show False from h).elim|exact ar9 pins s σ H _ _ v u Q I rx ry ⟨_,_,rfl,rfl,h⟩
 | Mod=>cases x <;> cases y <;> first|exact (show False from h).elim|exact bi1 pins s σ H _ _ v u Q I rx ry ⟨_,_,rfl,rfl,h⟩
 | Pow=>cases x <;> cases y <;> first|exact (show False from h).elim|exact bi4 pins s σ H _ _ v u Q I rx ry ⟨_,_,rfl,rfl,h⟩
 | _=>exact (show False from h).elim
end
noncomputable def A5 (K:aa) (neg:Bool):R2:=fun x y H Q=>match x,y with
 | .ref a,.ref b=>bn5 K neg (.ref a) (.ref b) H Q\/Xh K neg (.ref a) (.ref b) H Q\/False\/False
 | .ref a,y=>Xh K neg (.ref a) y H Q\/False
 | x,.ref b=>Xh K neg x (.ref b) H Q
 | .int i,.int j=>Q (.bl (if neg then !decide (i=j) else decide (i=j))) H
 | .str i,.str j=>Q (.bl (if neg then !decide (i=j) else decide (i=j))) H
 | .bl i,.bl j=>Q (.bl (if neg then !(i==j) else (i==j))) H
 | x,y=>by1 x y=true/\Q (.bl (if neg then !decide (x=y) else decide (x=y))) H
noncomputable def au7:R2:=fun x y H Q=>match x,y with
 | .int i,.int j=>Q (.bl (decide (i<j))) H
 | .str i,.str j=>Q (.bl (decide (i.cps.toList<j.cps.toList))) H
 | _,_=>False
noncomputable def Fe:R2:=fun x y H Q=>match x,y with
 | .int i,.int j=>Q (.bl (decide (i<=j))) H
 | .str i,.str j=>Q (.bl (!decide (j.cps.toList<i.cps.toList))) H
 | _,_=>False
noncomputable def ct1:R2:=fun x y H Q=>match x,y with
 | .int i,.int j=>Q (.bl (decide (j<i))) H
 | _,_=>False
noncomputable def ct0:R2:=fun x y H Q=>match x,y with
 | .int i,.int j=>Q (.bl (decide (j<=i))) H
 | _,_=>False
noncomputable def Hl (K:aa) (neg:Bool):R2:=fun x y H Q=>match x,y with
 | .non,.ref p=>rIn K neg .non (.ref p) H Q \/ ∃ kvs,Rd H p (.dK kvs)/\Q (.bl neg) H
 | x,.ref p=>rIn K neg x (.ref p) H Q \/ ∃ o,D9 H p x o/\Q (.bl (if neg then !o.isSome else o.isSome)) H
 | _,_=>False
noncomputable def Xi (neg:Bool):R2:=fun x y H Q=>match y with
 | .non=>Q (.bl (if neg then !decide (x=.non) else decide (x=.non))) H
 | .bl d=>(match x with
  | .bl c=>Q (.bl (if neg then !(c==d) else (c==d))) H
  | _=>False)
 | _=>False
noncomputable def Lf (K:aa):jL->R2
 | .Eq=>A5 K false
 | .NotEq=>A5 K true
 | .Lt=>au7
 | .LtE=>Fe
 | .Gt=>ct1
 | .GtE=>ct0
 | .In=>Hl K false
 | .NotIn=>Hl K true
 | .Is=>Xi false
 | .IsNot=>Xi true
section
variable {X:Cx}
theorem Lq (hu:X.A.units+64<cLine) (op:jL):OpR X (b7 op) (Lf X.K op):=by
  intro pins s σ H x y v u Q I rx ry h
  cases op with
  | Eq=>
    cases x <;> cases y <;> first
      | (rcases h with h|h|h|h
         . exact bh9 (by omega) pins s σ H _ _ v u Q I rx ry h
         . exact Sd hu I rx ry (.inl ⟨_,rfl⟩) h
         . exact h.elim
         . exact h.elim)
      | (rcases h with h|h
         . exact Sd hu I rx ry (.inl ⟨_,rfl⟩) h
         . exact h.elim)
      | exact Sd hu I rx ry (.inr ⟨_,rfl⟩) h
      | exact Vo pins s σ H _ _ v u Q I rx ry h
      | exact Vo pins s σ H _ _ v u Q I rx ry ⟨rfl,by rw [Hn,cR];exact h⟩
      | exact Vo pins s σ H _ _ v u Q I rx ry ⟨rfl,by rw [Ho,cR];exact h⟩
      | exact Vo pins s σ H _ _ v u Q I rx ry ⟨rfl,by rw [M2];exact h⟩
  | NotEq=>
    cases x <;> cases y <;> first
      | (rcases h with h|h|h|h
         . exact bi3 (by omega) pins s σ H _ _ v u Q I rx ry h
         . exact Se hu I rx ry (.inl ⟨_,rfl⟩) h
         . exact h.elim
         . exact h.elim)
      | (rcases h with h|h
         . exact Se hu I rx ry (.inl ⟨_,rfl⟩) h
         . exact h.elim)
      | exact Se hu I rx ry (.inr ⟨_,rfl⟩) h
      | exact Vp pins s σ H _ _ v u Q I rx ry h
      | exact Vp pins s σ H _ _ v u Q I rx ry ⟨rfl,by rw [Hn,cR];exact h⟩
      | exact Vp pins s σ H _ _ v u Q I rx ry ⟨rfl,by rw [Ho,cR];exact h⟩
      | exact Vp pins s σ H _ _ v u Q I rx ry ⟨rfl,by rw [M2];exact h⟩
  | Lt=>cases x <;> cases y <;> first|exact (show False from h).elim|exact cb3 pins s σ H _ _ v u Q I rx ry ⟨_,_,rfl,rfl,h⟩|exact Xc pins s σ H _ _ v u Q I rx ry ⟨_,_,rfl,rfl,h⟩
  | LtE=>cases x <;> cases y <;> first|exact (show False from h).elim|exact cb2 pins s σ H _ _ v u Q I rx ry ⟨_,_,rfl,rfl,h⟩|exact Xb pins s σ H _ _ v u Q I rx ry ⟨_,_,rfl,rfl,h⟩
  | Gt=>cases x <;> cases y <;> first|exact (show False from h).elim|exact cb1 pins s σ H _ _ v u Q I rx ry ⟨_,_,rfl,rfl,h⟩
  | GtE=>cases x <;> cases y <;> first|exact (show False from h).elim|exact cb0 pins s σ H _ _ v u Q I rx ry ⟨_,_,rfl,rfl,h⟩
  | In=>cases x <;> cases y <;> first|exact (show False from h).elim|exact h.elim (Mc pins s σ H _ _ v u Q I rx ry) (fun⟨o,g,q⟩=>by cases ry;exact cs0 (by omega) I g rx fun s' I'=>⟨.bl _,H,I',rfl,q⟩)|exact h.elim (Mc pins s σ H _ _ v u Q I rx ry) fun⟨kvs,g,q⟩=>by cases rx;cases ry;exact cs6 I g fun s' I'=>⟨.bl _,H,I',rfl,q⟩
  | NotIn=>cases x <;> cases y <;> first|exact (show False from h).elim|exact h.elim (Ge pins s σ H _ _ v u Q I rx ry) (fun⟨o,g,q⟩=>by cases ry;exact ap4 (by omega) I g rx fun s' I'=>⟨.bl _,H,I',rfl,q⟩)|exact h.elim (Ge pins s σ H _ _ v u Q I rx ry) fun⟨kvs,g,q⟩=>by cases rx;cases ry;exact ar3 I g fun s' I'=>⟨.bl _,H,I',rfl,q⟩
  | Is=>cases y <;> first|exact (show False from h).elim|exact bi0 pins s σ H _ _ v u Q I rx ry ⟨rfl,h⟩|(cases x <;> first|exact (show False from h).elim|(cases rx;cases ry;exact is_bool ⟨.bl _,H,I,rfl,h⟩))
  | IsNot=>cases y <;> first|exact (show False from h).elim|exact as0 pins s σ H _ _ v u Q I rx ry ⟨rfl,h⟩|(cases x <;> first|exact (show False from h).elim|(cases rx;cases ry;exact isnot_bool ⟨.bl _,H,I,rfl,h⟩))
end
noncomputable def Mh:V->Hp->VK->Prop:=fun x H Q=>match x with
 | .int i=>Q (.int (-i)) H
 | _=>False
theorem cx6 {X:Cx}:UnR X (j8 .USub) Mh:=by
 intro pins s σ H x v Q I rx h
 cases x <;> first|exact (show False from h).elim|exact bz2 pins s σ H _ v Q I rx ⟨_,rfl,h⟩
noncomputable def aj1:V->Hp->VK->Prop:=fun x H Q=>match x with
 | .int i=>Q (.int (Builtin.bitNot i)) H
 | _=>False
theorem b79 {X:Cx}:UnR X (j8 .Invert) aj1:=by
 intro pins s σ H x v Q I rx h
 cases x <;> first|exact (show False from h).elim|exact bz1 pins s σ H _ v Q I rx ⟨_,rfl,h⟩
theorem V9 {X:Cx}:b56 X (an3 X.K):=by
 intro pins s σ H x v Q I rx h
 cases x with
 | non=>exact K7 pins s σ H _ v Q I rx ⟨_,rfl,h⟩
 | bl b=>exact K7 pins s σ H _ v Q I rx ⟨_,rfl,h⟩
 | int i=>exact K7 pins s σ H _ v Q I rx ⟨_,rfl,h⟩
 | str y=>exact K7 pins s σ H _ v Q I rx ⟨_,⟨h.1,rfl⟩,h.2⟩
 | ref p=>exact K7 pins s σ H _ v Q I rx h
 | _=>exact (show False from h).elim
inductive SqX (K:aa) (H:Hp) (p:Addr) (i:Int) (xs:List V):Prop where
 | inl (h:SqL K H p xs)
 | inr (h:SqT K H p xs)
 | dk (h:∀ v,atI xs i=some v->D9 H p (.int i) (some v))
noncomputable def Ap (K:aa):R2:=fun x y H Q=>match x,y with
 | .str z,.int i=>z.length<=sizeLine /\ ∃ c,atI z.cps.toList i=some c/\Q (.str ⟨#[c]⟩) H
 | .ref p,.int i=>∃ xs v,SqX K H p i xs/\atI xs i=some v/\Q v H
 | .ref p,.str k=>∃ v,D9 H p (.str k) (some v)/\Q v H
 | .ref p,.ref b=>∃ v,D9 H p (.ref b) (some v)/\Q v H
 | _,_=>False
theorem cs5 {X:Cx} (hu:X.A.units+64<cLine):IxR X (Ap X.K):=by
  intro value slice pins s σ H x y v u Q I rx ry h hs
  cases x <;> cases y <;> first
    | exact (show False from h).elim
    | (obtain⟨h1,c,h2,h3⟩:=h;exact bb7 value slice pins s σ H _ _ v u Q I rx ry ⟨_,_,c,rfl,rfl,h1,h2,h3⟩ hs)
    | (obtain⟨xs,w,h1|h1|h1,h2,h3⟩:=h
       . exact aq5 value slice pins s σ H _ _ v u Q I rx ry ⟨_,_,_,_,rfl,rfl,h1,h2,h3⟩ hs
       . exact bb8 value slice pins s σ H _ _ v u Q I rx ry ⟨_,_,_,_,rfl,rfl,h1,h2,h3⟩ hs
       . exact Vk hu value slice pins s σ H _ _ v u Q I rx ry ⟨_,w,rfl,h1 w h2,h3⟩ hs)
    | (obtain⟨w,h1,h2⟩:=h;exact Vk hu value slice pins s σ H _ _ v u Q I rx ry ⟨_,w,rfl,h1,h2⟩ hs)
noncomputable def aj6:V->V->V->Hp->(Hp->Prop)->Prop:=fun o i v H N=>match o,i with
 | .ref p,.int k=>(∃ xs j,H p=some (.lst xs)/\ixN xs.length k=some j/\N (upd H p (.lst (xs.set j v)))) \/ ∃ H',DPut H p (.int k) v H'/\N H'
 | .ref p,i=>∃ H',DPut H p i v H'/\N H'
 | _,_=>False
theorem ci9 {X:Cx} (hu:X.A.units+64<cLine):a88 X aj6:=by
 intro pins s σ H o i v ov iv u Q I ro ri rv h
 cases o with
 | ref p=>
  have dp:∀ {H'},DPut H p i v H'->Q H'->aJ (model X.prog X.w) X.A (setItem ov iv u) (fun _ s'=>∃ H',Inv X pins σ H' s'/\Q H') X.xe s:=fun {H'} g q=>by
   cases ro
   exact Wn (by omega) I g ri rv fun s' I'=>⟨H',I',q⟩
  cases i with
  | int k=>
   rcases h with ⟨xs,j,h1,h2,h3⟩|⟨H',g,q⟩
   ·exact ak0 pins s σ H _ _ v ov iv u Q I ro ri rv ⟨p,xs,k,j,rfl,rfl,h1,h2,h3⟩
   ·exact dp g q
  | _=>obtain⟨H',g,q⟩:=h;exact dp g q
 | _=>exact (show False from h).elim
noncomputable def Aq (K:aa) (f:Str):V->Hp->VK->Prop:=fun x H Q=>match x with
 | .ref a=>(∃ C dx fs v,H a=some (.ins C dx fs)/\Cls K C/\NoAttr K C f/\fs.lookup f=some v/\Q v H)\/(∃ C fs v,ExcAt H a C fs/\ECls K C/\NoAttr K C f/\fs.lookup f=some v/\Q v H)
 | _=>False
noncomputable def a26 (K:aa) (f:Str):V->V->Hp->(Hp->Prop)->Prop:=fun x y H N=>match x with
 | .ref a=>(∃ C dx fs,H a=some (.ins C dx fs)/\Cls K C/\NoAttr K C f/\fs.length<1000/\N (upd H a (.ins C dx (D8 f y fs))))\/(∃ C,ECls K C/\NoAttr K C f/\b55 H a C f y N)
 | _=>False
section
variable {X:Cx} {pins:List (Addr×Obj)} {σ:St} {H:Hp} {s:ah} {A:a_} {E:Value->ah->Prop}
theorem b67 {f:Str} {x:V} {u:Value} {b:Bool} {Q:VK} (I:Inv X pins σ H s) (rx:RelV x u) (h:Aq X.K f x H Q):aJ (model X.prog X.w) A (i7 u f b) (EP X pins σ Q) E s:=by
 cases x with
 | ref a=>
  cases rx
  rcases h with ⟨C,dx,fs,v,ea,c,n,l,q⟩|⟨C,fs,v,ea,c,n,l,q⟩
  ·exact Rv I ea c n l fun u' s2 I2 ru=>⟨v,H,I2,ru,q⟩
  ·exact Wu I ea c n l fun u' s2 I2 ru=>⟨v,H,I2,ru,q⟩
 | _=>exact (show False from h).elim
theorem ci8 {f:Str} {x y:V} {u v:Value} {N:Hp->Prop} {Q:Unit->ah->Prop} (I:Inv X pins σ H s) (rx:RelV x u) (ry:RelV y v) (h:a26 X.K f x y H N) (hQ:∀ H' s',Inv X pins σ H' s'->N H'->Q () s') :
  aJ (model X.prog X.w) A (jU u f v) Q E s:=by
 cases x with
 | ref a=>
  cases rx
  rcases h with ⟨C,dx,fs,ea,c,n,l,q⟩|⟨C,c,n,q⟩
  ·exact Tq I ea c n l ry fun s3 I3=>hQ _ _ I3 q
  ·exact Xn I c n ry q hQ
 | _=>exact (show False from h).elim
end
structure FI where
 f:Addr
 fd:ai
 ps:List Str
 k:Nat
 sp:Sp
 dfs:List V
 ds:List Value
structure MI where
 C:Addr
 i:FI
inductive GB where
 | fn (i:FI)
 | cls (C:Addr) (i:Option FI)
 | met (m:Str) (l:List MI)
 | val (v:V) (u:Value)
 | exc (C:Addr) (i:Option FI)
 | ini (C:Addr) (i:FI)
 | dic (a:Addr) (kvs:List (Key×V))
 | key (m:Str) (l:List MI)
noncomputable def ax6 (gb:List (Str×GB)):List FI:=gb.filterMap fun p=>match p.2 with
 | .fn i=>some i
 | _=>none
noncomputable def Bp:List (Str×GB)->Str->Option (List MI)
 | [],_=>none
 | (_,.met m l)::r,x=>if m=x then some l else Bp r x
 | _::r,x=>Bp r x
theorem Bc:∀ {gb:List (Str×GB)} {x:Str} {l:List MI},Bp gb x=some l -> ∃ k,(k,GB.met x l)∈gb
 | (k,.met m l')::r,x,l,h=>by
  unfold Bp at h
  by_cases e:m=x
  ·rw [if_pos e] at h;cases h;subst e;exact⟨k,by simp⟩
  ·rw [if_neg e] at h;obtain⟨k,q⟩:=Bc h;exact⟨k,ax _ q⟩
 | (_,.fn _)::r,x,l,h=>by unfold Bp at h;obtain⟨k,q⟩:=Bc h;exact⟨k,ax _ q⟩
 | (_,.cls _ _)::r,x,l,h=>by unfold Bp at h;obtain⟨k,q⟩:=Bc h;exact⟨k,ax _ q⟩
 | (_,.val _ _)::r,x,l,h=>by unfold Bp at h;obtain⟨k,q⟩:=Bc h;exact⟨k,ax _ q⟩
 | (_,.dic _ _)::r,x,l,h=>by unfold Bp at h;obtain⟨k,q⟩:=Bc h;exact⟨k,ax _ q⟩
 | (_,.key _ _)::r,x,l,h=>by unfold Bp at h;obtain⟨k,q⟩:=Bc h;exact⟨k,ax _ q⟩
 | (_,.ini _ _)::r,x,l,h=>by unfold Bp at h;obtain⟨k,q⟩:=Bc h;exact⟨k,ax _ q⟩
 | (_,.exc _ _)::r,x,l,h=>by unfold Bp at h;obtain⟨k,q⟩:=Bc h;exact⟨k,ax _ q⟩
noncomputable def Ft:List (Str×GB)->Str->Option (List MI)
 | [],_=>none
 | (_,g)::r,x=>match g with
  | .key m l=>if m=x then some l else Ft r x
  | _=>Ft r x
theorem Ef:∀ {gb:List (Str×GB)} {x:Str} {l:List MI},Ft gb x=some l -> ∃ k,(k,GB.key x l)∈gb
 | [],_,_,h=>by cases h
 | (k,g)::r,x,l,h=>by
  unfold Ft at h
  split at h
  ·split at h
   ·rename_i e
    cases h
    subst e
    exact⟨k,b8⟩
   ·obtain⟨k,q⟩:=Ef h;exact⟨k,ax _ q⟩
  ·obtain⟨k,q⟩:=Ef h;exact⟨k,ax _ q⟩
structure Sg where
 K:aa
 N:List Str
 sc:List (Str×b9)
 gb:List (Str×GB)
 bl:List Str
 top:Bool
 calm:Bool
noncomputable def Bt:List Str->Str->Nat->Option Nat
 | [],_,_=>none
 | y::r,x,i=>if y=x then some i else Bt r x (i+1)
theorem Mj:∀ {N:List Str} {x:Str} {i j:Nat},Bt N x j=some i->j<=i/\N[i - j]? = some x
 | [],_,_,_,h=>by cases h
 | y::r,x,i,j,h=>by
  unfold Bt at h
  by_cases e:y=x
  ·rw [if_pos e] at h
   cases h
   refine⟨ac _,?_⟩
   rw [Nat.sub_self,e]
   rfl
  ·rw [if_neg e] at h
   obtain⟨h1,h2⟩:=Mj h
   refine⟨by omega,?_⟩
   have:i - j=(i - (j+1))+1:=by omega
   rw [this,dA]
   exact h2
theorem Dv {N:List Str} {x:Str} {i:Nat} (h:Bt N x 0=some i):N[i]? = some x:=(Mj h).2
noncomputable def Dp (x:Str):Bool:=!(x==("__debug__" : Str)) && !(x==("__classdict__" : Str)) && !(x==("__name__" : Str))
noncomputable def F0 (G:Sg) (x:Str):Bool:=(G.sc.lookup x==some .globalImplicit)&&Dp x
noncomputable def Ul (x:Str):Option String:=
 if x = "int" then some "int" else if x = "bool" then some "bool" else if x = "str" then some "str" else if x = "list" then some "list" else if x = "tuple" then some "tuple" else if x = "dict" then some "dict" else if x = "ValueError" then some "ValueError" else none
theorem ap0:cA "ValueError" = some (.type "ValueError"):=by decide +kernel
theorem Xt {x:Str} {T:String} (h:Ul x=some T):cA x=some (.type T):=by
 unfold Ul at h
 by_cases e1:x = "int"
 ·rw [if_pos e1] at h;cases h;rw [e1];exact PyProof.Rows.boot_int
 rw [if_neg e1] at h
 by_cases e2:x = "bool"
 ·rw [if_pos e2] at h;cases h;rw [e2];exact PyProof.Rows.boot_bool
 rw [if_neg e2] at h
 by_cases e3:x = "str"
 ·rw [if_pos e3] at h;cases h;rw [e3];exact PyProof.Rows.boot_str
 rw [if_neg e3] at h
 by_cases e4:x = "list"
 ·rw [if_pos e4] at h;cases h;rw [e4];exact PyProof.Rows.boot_list
 rw [if_neg e4] at h
 by_cases e5:x = "tuple"
 ·rw [if_pos e5] at h;cases h;rw [e5];exact PyProof.Rows.boot_tuple
 rw [if_neg e5] at h
 by_cases e6:x = "dict"
 ·rw [if_pos e6] at h;cases h;rw [e6];exact PyProof.Rows.boot_dict
 rw [if_neg e6] at h
 by_cases e7:x = "ValueError"
 ·rw [if_pos e7] at h;cases h;rw [e7];exact ap0
 rw [if_neg e7] at h
 cases h
noncomputable def Li (CX:CXT) (X:Cx):Prop:=∀ Ex,Meets X Ex -> ∀ (pins:List (Addr×Obj)) (σ:St) (H:Hp) (s:ah) (e:Value) (s':ah),Inv X pins σ H s->CX X.stack H s (fun v _ H'=>∃ a,v=.ref a/\Ex σ a H') e s'->X.xe e s'
structure Dw (X:Cx) (i:FI):Prop where
 kp:aq X.K (.ref i.f)=true
 ok:∃ CX,(∀ X':Cx,X'.prog=X.prog->X'.w=X.w->Li CX X')/\FnOk X.prog X.w X.K X.mg X.base CX i.k i.f i.fd i.ps i.sp
 room:Room i.k X.A
 binds:∀ j,j<=i.dfs.length->Binds X.K i.fd i.ps (i.ds.drop j)
 vals:Vals i.dfs i.ds
noncomputable def E7 (X:Cx) (C:Addr):Option FI->Prop
 | none=>ae X.K (.ref C) "__init__" = some (some (.builtin "ValueError.__init__"))
 | some i=>ae X.K (.ref C) "__init__" = some (some (.ref i.f))/\bV X.K (.ref i.f)=true/\Dw X i/\Room (i.k+1) X.A
noncomputable def Xx (X:Cx) (C:Addr):Option FI->Prop
 | none=>aS X.K C=true/\ae X.K (.ref C) "__init__" = some (some (.builtin "object.__init__"))
 | some i=>aS X.K C=true/\ae X.K (.ref C) "__init__" = some (some (.ref i.f))/\bV X.K (.ref i.f)=true/\Dw X i/\Room (i.k+1) X.A
structure Ur (K:aa) (C f:Addr):Prop where
 ga:b6 K (.ref C) "__getattribute__" = some (some (.builtin "type.__getattribute__"))
 rd:PySem.W.readsIn K C (.type "type")=true
 fc:PySem.W.findCls K (.ref C) (.type "type") "__init__" = some (.val (.ref f))
 hh:eJ (.ref f)=true
noncomputable def Oi (P:aH) (w:bh) (K:aa) (a:Addr) (kvs:List (Key×V)):Prop:=(a==cE)=false /\ ∃ vs,KV kvs vs /\ ∀ h:Heap,K.In h->h.DictOf (As P w) a vs
structure ao4 (X:Cx) (m:Str) (mi:MI):Prop where
 c:Cls X.K mi.C
 k:A2 X.K mi.C m mi.i.f
 sg:b6 X.K (.ref mi.i.f) "__get__" = some (some (.builtin "function.__get__"))
 tk:cO X.K (.ref mi.i.f)=some false
 cn:PySem.W.copiedNames.contains m=false
 fi:Dw X mi.i
 room:Room (mi.i.k+2) X.A
noncomputable def GBOk (X:Cx) (x:Str):GB->Prop
 | .dic a kvs=>X.mg x=some (.ref a)/\Oi X.prog X.w X.K a kvs
 | .fn i=>X.mg x=some (.ref i.f)/\Dw X i
 | .val v u=>X.mg x=some u/\RelV v u
 | .exc C oi=>X.mg x=some (.ref C)/\aq X.K (.ref C)=true/\ECls X.K C/\E7 X C oi
 | .cls C oi=>X.mg x=some (.ref C)/\aq X.K (.ref C)=true/\Xx X C oi
 | .met m l=>∀ mi∈l,Cls X.K mi.C/\A2 X.K mi.C m mi.i.f/\Dw X mi.i
 | .ini C i=>X.mg x=some (.ref C)/\Ur X.K C i.f/\Dw X i
 | .key m l=>∀ mi∈l,ao4 X m mi
theorem GBOk.to {X X':Cx} (hm:X'.mg=X.mg) (hK:X'.K=X.K) (hP:X'.prog=X.prog) (hw:X'.w=X.w) (hA:∀ k,Room k X.A->Room k X'.A) (hf:∀ i,Dw X i->Dw X' i) {x:Str} {g:GB} (h:GBOk X x g):GBOk X' x g:=by
 cases g with
 | fn i=>exact⟨hm▸h.1,hf i h.2⟩
 | val v u=>exact⟨hm▸h.1,h.2⟩
 | exc C oi=>
  obtain⟨a,b,c,d⟩:=h
  refine⟨hm▸a,hK▸b,hK▸c,?_⟩
  cases oi with
  | none=>unfold E7 at d ⊢;rw [hK];exact d
  | some i=>obtain⟨d1,d2,d3,d4⟩:=d;exact⟨hK▸d1,hK▸d2,hf i d3,hA _ d4⟩
 | cls C oi=>
  obtain⟨a,b,d⟩:=h
  refine⟨hm▸a,hK▸b,?_⟩
  cases oi with
  | none=>unfold Xx at d ⊢;rw [hK];exact d
  | some i=>obtain⟨d1,d2,d3,d4,d5⟩:=d;exact⟨hK▸d1,hK▸d2,hK▸d3,hf i d4,hA _ d5⟩
 | met m l=>exact fun mi hi=>⟨hK▸(h mi hi).1,hK▸(h mi hi).2.1,hf _ (h mi hi).2.2⟩
 | ini C i=>exact⟨hm▸h.1,hK▸h.2.1,hf i h.2.2⟩
 | dic a kvs=>exact⟨hm▸h.1,by rw [hP,hw,hK];exact h.2⟩
 | key m l=>exact fun mi hi=>let q:=h mi hi;⟨hK▸q.c,hK▸q.k,hK▸q.sg,hK▸q.tk,q.cn,hf _ q.fi,hA _ q.room⟩
noncomputable def FrH (X:Cx):Prop:=∃ (e0:Env) (o0:List Env) (L:Addr),X.stack=e0::o0/\e0.frame=some L/\X.env.frame=some L
structure GOk (X:Cx) (G:Sg):Prop where
 K:X.K=G.K
 kind:X.env.scope.kind=.function
 own:G.top=true->fF (model X.prog X.w) X.A X.env X.xe
 N:X.N=G.N
 nd:G.N.Nodup
 sc:∀ x,X.env.scope.names.lookup x=G.sc.lookup x
 vis:∀ x∈G.N,Vis X.env.scope x
 top:G.top=true -> ∀ x,X.fn x=true
 calm:G.calm=X.calm
 hd:X.calm=true->X.A.handled=none
 units:X.A.units+64<cLine
 cel:∀ x,(X.env.scope.names.lookup x=some .cell\/X.env.scope.names.lookup x=some .free) -> ∃ c,X.env.cells.lookup x=some c
 gb:∀ x g,(x,g)∈G.gb->GBOk X x g
 bl:∀ x,G.bl.contains x=true->X.mg x=none
 frm:G.top=true->X.stack=X.env::X.outer/\X.env.frame=some X.env.locals
 fr:FrH X
section
variable {X:Cx} {G:Sg}
theorem GOk.at_ (O:GOk X G) (x:Str) (g:GB) (e:G.gb.lookup x=some g):GBOk X x g:=O.gb x g (bN e)
theorem GOk.fns (O:GOk X G) {i:FI} (h:i∈ax6 G.gb):Dw X i:=by
 obtain⟨⟨x,g⟩,hx,e⟩:=List.mem_filterMap.mp h
 cases g with
 | fn j=>cases e;exact (O.gb x _ hx).2
 | _=>cases e
theorem GOk.met (O:GOk X G) (m:Str) (l:List MI) (e:Bp G.gb m=some l):∀ mi∈l,Cls X.K mi.C/\A2 X.K mi.C m mi.i.f/\Dw X mi.i:=by
 obtain⟨x,hx⟩:=Bc e
 exact O.gb x _ hx
theorem GOk.gl (O:GOk X G) {x:Str} (h:F0 G x=true):Gl X x:=by
 unfold F0 at h
 rw [aw] at h
 have:=bS h.1
 unfold Gl
 show X.env.scope.names.lookup x=_
 rw [O.sc x]
 exact this
theorem Nn {x:Str} (h:Dp x=true):(x==("__debug__" : Str))=false/\(x==("__classdict__" : Str))=false/\x ≠ "__name__" := by
 unfold Dp at h
 simp only [aw,gI] at h
 exact⟨h.1.1,h.1.2,fun e=>by rw [e] at h;simp at h⟩
theorem Gu {x:Str} (h:F0 G x=true):(x==("__debug__" : Str))=false/\(x==("__classdict__" : Str))=false/\x ≠ "__name__" := by
 unfold F0 at h
 rw [aw] at h
 exact Nn h.2
noncomputable def Rg (G:Sg) (x:Str):DE:=
 match Bt G.N x 0 with
 | some i=>if Dp x=true then Ac i else dNo
 | none=>if F0 G x=true then (match G.gb.lookup x with
   | some (.val v _)=>dC v
   | some (.exc C _)=>dC (.ref C)
   | some (.cls C _)=>dC (.ref C)
   | some (.ini C _)=>dC (.ref C)
   | some _=>dNo
   | none=>if G.bl.contains x=true then (match Ul x with
    | some T=>dC (.ty T)
    | none=>dNo) else dNo) else dNo
theorem Bb {e:Expr}:QE X e dNo:=fun _ _ _ _ _ _ _ _ h=>h.elim
theorem bl9 {i:Nat} {x:Str} {pos:Pos} (hN:X.N[i]? = some x) (hv:Vis X.env.scope x) (hp:Dp x=true):QE X (.Name x pos) (Ac i):=by
 intro Ex _ pins s σ H Q I h
 unfold Ac at h
 split at h
 ·rename_i v e
  exact bj3 hN hv (Nn hp).1 (Nn hp).2.1 pins s σ H Q I ⟨v,e,h⟩
 ·exact h.elim
theorem Nq (O:GOk X G) (x:Str) (pos:Pos):QE X (.Name x pos) (Rg G x):=by
 unfold Rg
 split
 ·rename_i i e
  split
  ·rename_i hp
   have hi:=Dv e
   exact bl9 (by rw [O.N];exact hi) (O.vis x (a9 hi)) hp
  ·exact Bb
 ·split
  ·rename_i hg
   have dd:=Gu hg
   split
   ·rename_i v u e
    obtain⟨h1,h2⟩:=O.at_ x _ e
    exact fun _ _=>Gf (O.gl hg) h1 h2 dd.1
   ·rename_i C oi e
    exact fun _ _=>Gf (v:=.ref C) (O.gl hg) (O.at_ x _ e).1 rfl dd.1
   ·rename_i C oi e
    exact fun _ _=>Gf (v:=.ref C) (O.gl hg) (O.at_ x _ e).1 rfl dd.1
   ·rename_i C i e
    exact fun _ _=>Gf (v:=.ref C) (O.gl hg) (O.at_ x _ e).1 rfl dd.1
   ·exact Bb
   ·split
    ·rename_i hb
     split
     ·rename_i T e
      exact fun _ _=>as3 (O.gl hg) (O.bl x hb) (Xt e) rfl dd.2.2 dd.1
     ·exact Bb
    ·exact Bb
  ·exact Bb
noncomputable def an9:Const->DE
 | .int i=>dC (.int i)
 | .bool b=>dC (.bl b)
 | .none=>dC .non
 | .str x=>dC (.str x)
 | _=>dNo
theorem Qy (c:Const) (j:Nat) (pos:Pos):QE X (.Constant c j pos) (an9 c):=by
 cases c with
 | int i=>exact fun _ _=>bi7
 | bool b=>exact fun _ _=>cb5
 | none=>exact fun _ _=>bi9
 | str x=>exact fun _ _=>bj1
 | _=>exact Bb
variable {a b c:Expr} {da db dc:DE} {ta tb:DT} {es:List Expr} {r:DA} {pos:Pos}
theorem bk3 (op:j0) (ha:QE X a da) (hb:QE X b db):QE X (.BinOp a op b pos) (Ah (rOp X.K op) da db):=fun Ex m=>cb7 (cs7 op) (ha Ex m) (hb Ex m)
theorem bl4 (ha:QE X a da):QE X (.UnaryOp .USub a pos) (dUn Mh da):=fun Ex m=>a19 cx6 (ha Ex m)
theorem bk9 (ha:QE X a da):QE X (.UnaryOp .Invert a pos) (dUn aj1 da):=fun Ex m=>a19 b79 (ha Ex m)
theorem bk6 (hu:X.A.units+64<cLine) (op:jL) (ha:QE X a da) (hb:QE X b db) (hm:cZ op b=false):QE X (.Compare a [op] [b] pos) (Ah (Lf X.K op) da db):=fun Ex m=>as4 (Lq hu op) (ha Ex m) (hb Ex m) hm
theorem bm9 (hu:X.A.units+64<cLine) (op:jL) (ha:QE X a da) (hb:QE X b db) (hm:cZ op b=false):QT X (.Compare a [op] [b] pos) (A0 (Ah (Lf X.K op) da db)):=by
 intro Ex m pins s σ H Q I h
 refine iC (thn (ha Ex m pins s σ H _ I h) fun v s1 ⟨x,H1,I1,r1,q1⟩=>thn (hb Ex m pins s1 σ H1 _ I1 q1) fun u s2 ⟨y,H2,I2,r2,q2⟩=>
  thn (Lq hu op pins s2 σ H2 x y v u _ I2 r1 r2 q2) fun c s3 ⟨z,H3,I3,r3,q3⟩=>?_) hm
 cases z with
 | bl k=>cases r3;exact cM ⟨H3,I3,q3⟩
 | _=>exact (show False from q3).elim
theorem ai0 (hu:X.A.units+64<cLine) (op op':jL) (ha:QE X a da) (hb:QE X b db) (hc:QE X c dc) (hm:lastMarks [op,op'] [b,c]=false) :
  QE X (.Compare a [op,op'] [b,c] pos) (C2 (Lf X.K op) (Lf X.K op') da db dc):=by
 intro Ex m pins s σ H Q I h
 refine Compare_chain (thn (ha Ex m pins s σ H _ I h) fun v s1 ⟨x,H1,I1,r1,q1⟩=>chain_link (thn (hb Ex m pins s1 σ H1 _ I1 q1) fun u s2 ⟨y,H2,I2,r2,q2⟩=>
  thn (Lq hu op pins s2 σ H2 x y v u _ I2 r1 r2 q2) fun d s3 ⟨z,H3,I3,r3,q3⟩=>?_)) hm
 cases z with
 | bl k=>
  cases r3
  refine cM ?_
  cases k with
  | false=>exact ite_ff ⟨.bl false,H3,I3,rfl,q3⟩
  | true=>exact ite_tt (chain_last (thn (hc Ex m pins s3 σ H3 _ I3 q3) fun w' s4 ⟨z',H4,I4,r4,q4⟩=>Lq hu op' pins s4 σ H4 y z' u w' Q I4 r2 r4 q4))
 | _=>exact (show False from q3).elim
theorem aj0 (hu:X.A.units+64<cLine) (op op':jL) (ha:QE X a da) (hb:QE X b db) (hc:QE X c dc) (hm:lastMarks [op,op'] [b,c]=false) :
  QT X (.Compare a [op,op'] [b,c] pos) (A0 (C2 (Lf X.K op) (Lf X.K op') da db dc)):=by
 intro Ex m pins s σ H Q I h
 refine isTrue_chain (thn (ha Ex m pins s σ H _ I h) fun v s1 ⟨x,H1,I1,r1,q1⟩=>test_link (thn (hb Ex m pins s1 σ H1 _ I1 q1) fun u s2 ⟨y,H2,I2,r2,q2⟩=>
  thn (Lq hu op pins s2 σ H2 x y v u _ I2 r1 r2 q2) fun d s3 ⟨z,H3,I3,r3,q3⟩=>?_)) hm
 cases z with
 | bl k=>
  cases r3
  refine cM ?_
  cases k with
  | false=>exact ite_ff ⟨H3,I3,q3⟩
  | true=>
   refine ite_tt (test_last (thn (hc Ex m pins s3 σ H3 _ I3 q3) fun w' s4 ⟨z',H4,I4,r4,q4⟩=>thn (Lq hu op' pins s4 σ H4 y z' u w' _ I4 r2 r4 q4) fun d' s5 ⟨z2,H5,I5,r5,q5⟩=>?_))
   cases z2 with
   | bl k2=>cases r5;exact cM ⟨H5,I5,q5⟩
   | _=>exact (show False from q5).elim
 | _=>exact (show False from q3).elim
noncomputable def ah1:Expr->Bool
 | .UnaryOp .Not _ _=>false
 | .BoolOp _ _ _=>false
 | .IfExp _ _ _ _=>false
 | .Compare _ _ _ _=>false
 | _=>true
theorem Xf {e:Expr} (h:ah1 e=true) (whole:Sem Value):isTrue e X.env whole=(do let v <- whole;i_ e.pos;holding [v] (truthy v)):=by
 cases e with
 | UnaryOp op _ _=>cases op <;> first|rfl|cases h
 | BoolOp _ _ _=>cases h
 | IfExp _ _ _ _=>cases h
 | Compare _ _ _ _=>cases h
 | _=>rfl
theorem bn2 (ha:QE X a da) (h:ah1 a=true):QT X a (Fo X.K da):=by
 intro Ex m pins s σ H Q I hw
 exact isTrue_plain (thn (ha Ex m pins s σ H _ I hw) fun v s1 ⟨x,H1,I1,r1,q1⟩=>V9 pins s1 σ H1 x v Q I1 r1 q1) (Xf h _)
theorem bn1 (ha:QT X a ta):QT X (.UnaryOp .Not a pos) (Hi ta):=fun Ex m=>bj9 (ha Ex m)
theorem au6 (ha:QT X a ta):QW X (.BoolOp .And [a] pos) ta:=fun Ex m=>at3 (ha Ex m)
theorem bn4 (ha:QT X a ta):QW X (.BoolOp .Or [a] pos) ta:=fun Ex m=>bk1 (ha Ex m)
theorem bn3 (ha:QT X a ta) (hb:QW X (.BoolOp .And (b::es) pos) tb):QW X (.BoolOp .And (a::b::es) pos) (E8 ta tb):=fun Ex m=>bk0 (ha Ex m) (hb Ex m)
theorem cc9 (ha:QT X a ta) (hb:QW X (.BoolOp .Or (b::es) pos) tb):QW X (.BoolOp .Or (a::b::es) pos) (dOr ta tb):=fun Ex m=>cc2 (ha Ex m) (hb Ex m)
theorem bl6 {op:BoolOp} (ha:QE X a da):QE X (.BoolOp op [a] pos) da:=fun Ex m=>bj0 (ha Ex m)
theorem bk2 (ha:QE X a da) (hb:QE X (.BoolOp .And (b::es) pos) db):QE X (.BoolOp .And (a::b::es) pos) (Cu X.K da db):=by
 intro Ex m pins s σ H Q I h
 refine BoolOp_and (thn (ha Ex m pins s σ H _ I h) fun v s1 ⟨x,H1,I1,r1,q1⟩=>thn (V9 pins s1 σ H1 x v _ I1 r1 q1) fun k s2 ⟨H2,I2,q2⟩=>?_)
 cases k with
 | true=>exact hb Ex m pins s2 σ H2 Q I2 q2
 | false=>exact⟨x,H2,I2,r1,q2⟩
theorem cc6 (ha:QE X a da) (hb:QE X (.BoolOp .Or (b::es) pos) db):QE X (.BoolOp .Or (a::b::es) pos) (ab2 X.K da db):=by
 intro Ex m pins s σ H Q I h
 refine BoolOp_or (thn (ha Ex m pins s σ H _ I h) fun v s1 ⟨x,H1,I1,r1,q1⟩=>thn (V9 pins s1 σ H1 x v _ I1 r1 q1) fun k s2 ⟨H2,I2,q2⟩=>?_)
 cases k with
 | false=>exact hb Ex m pins s2 σ H2 Q I2 q2
 | true=>exact⟨x,H2,I2,r1,q2⟩
theorem bl5 (ha:QE X a da):QE X (.UnaryOp .Not a pos) (ab1 X.K da):=by
 intro Ex m pins s σ H Q I h
 refine UnaryOp_ (thn (ha Ex m pins s σ H _ I h) fun v s1 ⟨x,H1,I1,r1,q1⟩=>not_of (thn (V9 pins s1 σ H1 x v _ I1 r1 q1) fun k s2 ⟨H2,I2,q2⟩=>?_))
 exact⟨.bl (!k),H2,I2,rfl,q2⟩
theorem cc3 {t:Expr} (ht:QT X t ta) (ha:QE X a da) (hb:QE X b db):QE X (.IfExp t a b pos) (b61 ta da db):=fun Ex m=>ag6 (ht Ex m) (ha Ex m) (hb Ex m)
noncomputable def noStar:Expr->Bool
 | .Starred _ _=>false
 | _=>true
theorem A4 {e:Expr} (h:noStar e=true) (es:List Expr) (env:Env):cD (e::es) env=(false,eval e env)::cD es env:=by
 cases e with
 | Starred _ _=>cases h
 | _=>rfl
theorem A8 {es:List Expr} (h:es.all noStar=true) (env:Env) (pos:Pos):(iu pos (cD es env)).any (·.1)=false:=by
 induction es with
 | nil=>rfl
 | cons e es ih=>
  rw [bu,aw] at h
  rw [A4 h.1]
  show (false||(iu pos (cD es env)).any (·.1))=false
  rw [ih h.2]
  rfl
theorem Hd {es:List Expr} (h:es.all noStar=true) (env:Env) (pos:Pos):(iu pos (cD es env)).all (fun x=>!x.1)=true:=by
 induction es with
 | nil=>rfl
 | cons e es ih=>
  rw [bu,aw] at h
  rw [A4 h.1]
  show (true&&(iu pos (cD es env)).all (fun x=>!x.1))=true
  rw [ih h.2]
  rfl
theorem No:QA X [] Ai:=fun _ _=>bi6
theorem Hy (ha:QE X a da) (hr:QA X es r) (hs:noStar a=true):QA X (a::es) (Ab da r):=fun Ex m=>as2 (ha Ex m) (hr Ex m) (A4 hs es X.env)
theorem bl8 {k:Nat} (h:QA X es r):QE X (.Tuple es k pos) (Cl r):=fun Ex m=>bj2 (h Ex m)
theorem bl1 (h:QA X es r):QE X (.List es pos) (Dj r):=fun Ex m=>bi8 (h Ex m)
noncomputable def E1:Expr->Bool
 | .Slice _ _ _ _=>false
 | _=>true
theorem Jk {e:Expr} (h:E1 e=true):Uq e:=by
 intro o i
 cases e with
 | Slice _ _ _ _=>cases h
 | _=>rfl
theorem cc4 (hu:X.A.units+64<cLine) (ha:QE X a da) (hb:QE X b db) (h:E1 b=true):QE X (.Subscript a b pos) (Ah (Ap X.K) da db):=fun Ex m=>cb6 (cs5 hu) (ha Ex m) (hb Ex m) (Jk h)
noncomputable def bn6 (kvs:List (Key×V)):V->Hp->VK->Prop:=fun y H Q=>∃ k v,y=kV k/\A9 kvs k=some v/\Q v H
noncomputable def Sk (neg:Bool) (kvs:List (Key×V)):V->Hp->VK->Prop:=fun y H Q=>∃ k,y=kV k/\Q (.bl (if neg then !(A9 kvs k).isSome else (A9 kvs k).isSome)) H
theorem bl0 {ka:Addr} {kvs:List (Key×V)} {x:Str} {p:Pos} (k:Oi X.prog X.w X.K ka kvs) (hn:QE X (.Name x p) (dC (.ref ka))) (hb:QE X b db) (hs:E1 b=true):QE X (.Subscript (.Name x p) b pos) (dUn (bn6 kvs) db):=by
 intro Ex m pins s σ H Q I h
 refine Subscript_ (thn (hn Ex m pins s σ H (fun x H1=>x=.ref ka/\db σ H1 (fun y H2=>bn6 kvs y H2 Q) (Ex σ)) I ⟨rfl,h⟩) fun v s1 ⟨x,H1,I1,r1,e,q1⟩=>?_)
 subst e
 cases r1
 refine thn (hb Ex m pins s1 σ H1 _ I1 q1) fun u s2 ⟨y,H2,I2,r2,k',w',e2,l,q2⟩=>?_
 subst e2
 obtain⟨hd,vs,rel,dd⟩:=k
 have d:=dd _ I2.kIn
 obtain⟨w1,hw,rw'⟩:=RelO.some_of (v:=w') (o:=gB vs k') (by rw [<- l];exact rel.val k')
 exact j7 d.typeIs PySem.F.slot_dict_getitem.lookup (wpAny_getItem_of (D3 r2) d.mapOf hw ⟨w',H2,I2.tok _,rw',q2⟩) (Jk hs _ _)
theorem ae1 {pins:List (Addr×Obj)} {s:ah} {σ:St} {H:Hp} {ka:Addr} {kvs:List (Key×V)} {y:V} {u:Value} {Q:VK} {neg:Bool} (k:Oi X.prog X.w X.K ka kvs) (I:Inv X pins σ H s) (r:RelV y u) (h:Sk neg kvs y H Q) :
  aJ (model X.prog X.w) X.A (b7 (if neg then .NotIn else .In) u (.ref ka)) (EP X pins σ Q) X.xe s:=by
 obtain⟨k',e2,q⟩:=h
 subst e2
 obtain⟨hd,vs,rel,dd⟩:=k
 have d:=dd _ I.kIn
 cases neg with
 | false=>
  refine jW (D3 r) hd d.mapOf ?_
  rw [<- (rel.val k').isSome_eq]
  exact⟨.bl _,H,I.tok _,rfl,q⟩
 | true=>
  refine iP (D3 r) hd d.mapOf ?_
  rw [<- (rel.val k').isSome_eq]
  exact⟨.bl _,H,I.tok _,rfl,q⟩
theorem bk7 {ka:Addr} {kvs:List (Key×V)} {x:Str} {p:Pos} {neg:Bool} (k:Oi X.prog X.w X.K ka kvs) (hn:QE X (.Name x p) (dC (.ref ka))) (ha:QE X a da) (hm:cZ (if neg then .NotIn else .In) (.Name x p)=false):QE X (.Compare a [if neg then .NotIn else .In] [.Name x p] pos) (dUn (Sk neg kvs) da):=by
 intro Ex m pins s σ H Q I h
 refine wpAny_Compare1 (thn (ha Ex m pins s σ H _ I h) fun v s1 ⟨y,H1,I1,r1,q1⟩=>thn (hn Ex m pins s1 σ H1 (fun x H2=>x=.ref ka/\Sk neg kvs y H2 Q) I1 ⟨rfl,q1⟩) fun u s2 ⟨x,H2,I2,r2,e,q2⟩=>?_) hm
 subst e
 cases r2
 exact ae1 k I2 r1 q2
theorem bn0 {ka:Addr} {kvs:List (Key×V)} {x:Str} {p:Pos} {neg:Bool} (k:Oi X.prog X.w X.K ka kvs) (hn:QE X (.Name x p) (dC (.ref ka))) (ha:QE X a da) (hm:cZ (if neg then .NotIn else .In) (.Name x p)=false):QT X (.Compare a [if neg then .NotIn else .In] [.Name x p] pos) (A0 (dUn (Sk neg kvs) da)):=by
 intro Ex m pins s σ H Q I h
 refine iC (thn (ha Ex m pins s σ H _ I h) fun v s1 ⟨y,H1,I1,r1,q1⟩=>thn (hn Ex m pins s1 σ H1 (fun x H2=>x=.ref ka/\Sk neg kvs y H2 (fun x H1=>match x with
  | .bl k=>Q k H1
  | _=>False)) I1 ⟨rfl,q1⟩) fun u s2 ⟨x,H2,I2,r2,e,q2⟩=>?_) hm
 subst e
 cases r2
 refine thn (ae1 k I2 r1 q2) fun c s3 ⟨z,H3,I3,r3,q3⟩=>?_
 cases z with
 | bl k=>cases r3;exact cM ⟨H3,I3,q3⟩
 | _=>exact (show False from q3).elim
theorem at4 {f:Str} (ha:QE X a da) (h:gW a f X.env (eval a X.env)=eval a X.env):QE X (.Attribute a f pos) (dUn (Aq X.K f) da):=by
 intro Ex m pins s σ H Q I hw
 exact Uw h (thn (ha Ex m pins s σ H _ I hw) fun u s1 ⟨x,H1,I1,rx,q⟩=>b67 I1 rx q)
end
end L2
namespace PySem.SeqAt
open AutoSeq1 (wpAny_loadPart')
open MeetsSeq MeetsSeq2 MeetsSeq3
end PySem.SeqAt
namespace PySem.W
open PySem PySem.Calls PyProof.Rows
noncomputable def kRun {α:Type} (n:Nat) (lt:Nat->Nat->Bool):KasT α->Option α
 | .ret a=>some a
 | .ask i j k=>if i<n/\j<n then kRun n lt (k (lt i j)) else none
theorem kRun_wp {α:Type} {n:Nat} {lt:Nat->Nat->Bool} {cmp:Nat->Nat->(Bool->ah->Prop)->ah->Prop} {G:α->ah->Prop} {s:ah} (h:∀ i j C,i<n->j<n->C (lt i j) s->cmp i j C s) :
  ∀ {t:KasT α} {a:α},kRun n lt t=some a->G a s->t.kasWp cmp G s
 | .ret b,a,e,g=>by
  have:b=a:=aN e
  subst this
  exact g
 | .ask i j k,a,e,g=>by
  unfold kRun at e
  split at e
  ·rename_i hij
   exact h i j _ hij.1 hij.2 (kRun_wp h e g)
  ·cases e
section
variable {prog:aH} {w:bh} {A:a_} {E:Value->ah->Prop} {s:ah} {vs:List Value}
noncomputable def SoFin (a:Addr) (e:Nat) (out:List Value) (C:ah->Prop) (s:ah):Prop:=
 s.heap.get? a=some (a0 "list" #[] e) /\ ∀ h' c,h'.get? a=some (a0 "list" (dv out) c)->bA a s.heap h'->C { s with heap:=h' }
theorem SoFin.mono {a:Addr} {e:Nat} {out:List Value} {C C':ah->Prop} (h:SoFin a e out C s) (hc:∀ s,C s->C' s):SoFin a e out C' s:=⟨h.1,fun h' c x y=>hc _ (h.2 h' c x y)⟩
theorem Nx {n:Nat} {a:Addr} {P:jN->ah->Prop} (ho:s.heap.get? a=some (a0 "list" vs.toArray n)) (h2:2<=vs.length) (h64:vs.length<64)
  (h:∀ e1 h',h'.get? a=some (a0 "list" #[] e1)->(∀ b o,b≠a->s.heap.get? b=some o->h'.get? b=some o) ->
   aJ (model prog w) A (j6 vs.toArray) (fun κ s'=>(kas_sort vs.length).kasWp (kas_ask prog w A κ vs) (fun p s''=>SoFin a e1 (p.toList.map fun i=>vs.getD i ba) (fun s3=>P (.done (.ret .none)) s3) s'') s') (fun _ _=>False) { s with heap:=h' }) :
  aJ (model prog w) A (bg.«list.sort» ⟨[.ref a],[]⟩) P E s:=by
 have ha:a<s.heap.objs.size:=aC ho
 have s1:=bE s.heap a (aT fun _=>(#[]:Array Value))
 obtain⟨e1,ho1⟩:∃ e1,(s.heap.update a (aT fun _=>(#[]:Array Value))).get? a=some (a0 "list" #[] e1):=⟨_,dj ho fun _=>#[]⟩
 have ask:=h e1 (((s.heap.update a (aT fun _=>(#[]:Array Value))).push (a0 "tuple" vs.toArray 0)).push (a0 "list" #[] 0)) (ag _ (ag _ ho1))
  (fun b o nb e=>ag _ (ag _ ((s1.2 b nb).trans e)))
 rw [list_sort_plain]
 refine af (iA ho rfl ?_)
 refine af (dH ho rfl ?_ (by rw [am,bj];omega) (bC _))
 refine af (f6 ho1 rfl ?_)
 refine af (iO ?_ (by show vs.length<=_;rw [bj];omega))
 refine af (fh ?_ (bC _))
 refine bq ?_
 show aJ (model prog w) A _ P E { s with heap:=((s.heap.update a (aT fun _=>(#[]:Array Value))).push (a0 "tuple" vs.toArray 0)).push (a0 "list" #[] 0) }
 dsimp only
 have hn2:¬ vs.toArray.size<2:=by rw [am];omega
 rw [if_neg hn2,if_neg hn2]
 refine af (bG ask (fun κ s0 hk=>?_) fun _ _ x=>x.elim)
 refine af (bG (kat_run (Q:=fun st' s'=>∃ p:Array Nat,p.size=vs.length/\arrOf st'=p.map (kas_item (vs.toArray.zip vs.toArray))/\failedOf st'=none/\SoFin a e1 (p.toList.map fun i=>vs.getD i ba) (fun s''=>P (.done (.ret .none)) s'') s')
  rfl h2 h64 (fun p' st' s' a1 a2 a3 a4=>⟨p',a1,a2,a3,a4⟩) hk) ?_ fun _ _ e=>e)
 rintro⟨⟨⟩,st'⟩ s' ⟨p,hp,har,hf,na,k⟩
 dsimp only
 have hout:=kat_snds rfl har
 have hsz:(dv (p.toList.map fun i=>vs.getD i ba)).size=vs.length:=by rw [am,aj,bU,hp]
 rw [hout]
 have s2:=bE s'.heap a (aT fun _=>dv (p.toList.map fun i=>vs.getD i ba))
 obtain⟨c2,hc2⟩:∃ c2,(s'.heap.update a (aT fun _=>dv (p.toList.map fun i=>vs.getD i ba))).get? a=some (a0 "list" (dv (p.toList.map fun i=>vs.getD i ba)) c2):=⟨_,dj na fun _=>dv (p.toList.map fun i=>vs.getD i ba)⟩
 refine af (f6 na rfl ?_)
 refine af (dH na rfl ?_ (bC _) (aR (jz hsz) (by rw [bj];omega)))
 rw [hf]
 simp only [bne_self_eq_false,cB,if_false]
 exact ar (k _ c2 hc2 s2)
end
end PySem.W
namespace L2
open PySem PySem.Spec PyProof.Rows
section
variable {X:Cx} {pins:List (Addr×Obj)} {σ:St} {H:Hp} {s:ah}
theorem Rb {xs:List V} {us:List Value} (r:Vals xs us) {i:Nat} (h:i<us.length):∃ x,xs[i]? = some x/\RelV x (us.getD i ba):=by
 have hl:=r.length
 obtain⟨u,hu,ru⟩:=r.get (i:=i) (x:=xs[i]'(by omega)) (au (by omega))
 refine⟨_,au (by omega),?_⟩
 rw [aA,hu]
 exact ru
theorem G7 {xs:List V} {us:List Value} (r:Vals xs us):∀ (p:List Nat),(∀ i∈p,i<us.length)->Vals (p.map fun i=>xs.getD i .non) (p.map fun i=>us.getD i ba)
 | [],_=>.nil
 | i::p,h=>by
  obtain⟨x,hx,rx⟩:=Rb r (h i b8)
  refine .cons ?_ (G7 r p fun j hj=>h j (ax _ hj))
  show RelV (xs.getD i .non) _
  rw [aA,hx]
  exact rx
end
theorem G8:cA "sorted" = some (.builtin "sorted"):=by decide +kernel
end L2
set_option maxHeartbeats 1000000
namespace PySem.W
open PySem PySem.Calls PyProof.Rows
section
variable {n:Nat} {lt:Nat->Nat->Bool}
theorem Cz {α β:Type} {f:α->KasT β}:∀ t:KasT α,kRun n lt (t.bind f)=(kRun n lt t).bind fun a=>kRun n lt (f a)
 | .ret a=>rfl
 | .ask i j k=>by
  show (if i<n/\j<n then kRun n lt ((k (lt i j)).bind f) else none)=(if i<n/\j<n then kRun n lt (k (lt i j)) else none).bind _
  by_cases h:i<n/\j<n
  ·rw [if_pos h,if_pos h,Cz (k (lt i j))]
  ·rw [if_neg h,if_neg h];rfl
structure Tot (n:Nat) (lt:Nat->Nat->Bool):Prop where
 tot:∀ i j,i<n->j<n->i≠j->lt i j = !lt j i
 tr:∀ i j k,i<n->j<n->k<n->lt i j=true->lt j k=true->lt i k=true
noncomputable def pg (p:Array Nat) (i:Nat):Nat:=p.getD i 0
noncomputable def PermN (n:Nat) (p:Array Nat):Prop:=p.toList.Perm (cQ n)
theorem PermN.size {p:Array Nat} (h:PermN n p):p.size=n:=by
 have:=h.length_eq
 simpa using this
theorem pg_get {p:Array Nat} {i:Nat} (h:i<p.size):p[i]? = some (pg p i):=by
 unfold pg
 rw [Array.getD_eq_getD_getElem?,gq h]
 rfl
theorem PermN.bd {p:Array Nat} (h:PermN n p) {i:Nat} (hi:i<n):pg p i<n:=by
 have hs:i<p.size:=by rw [h.size];exact hi
 have hm:pg p i∈p.toList:=by
  have:=pg_get hs
  rw [<- cg] at this
  exact a9 this
 exact List.mem_range.mp (h.mem_iff.mp hm)
theorem PermN.inj {p:Array Nat} (h:PermN n p) {i j:Nat} (hi:i<n) (hj:j<n) (e:pg p i=pg p j):i=j:=by
 have nd:p.toList.Nodup:=(h.nodup_iff).mpr List.nodup_range
 have ei:=pg_get (p:=p) (i:=i) (by rw [h.size];exact hi)
 have ej:=pg_get (p:=p) (i:=j) (by rw [h.size];exact hj)
 rw [<- cg] at ei ej
 have li:i<p.toList.length:=by rw [bU,h.size];exact hi
 refine (List.getElem?_inj li nd).mp ?_
 rw [ei,ej,e]
noncomputable def Srt (lt:Nat->Nat->Bool) (p:Array Nat) (m:Nat):Prop:=∀ i j,i<j->j<m->lt (pg p i) (pg p j)=true
noncomputable def Dsc (lt:Nat->Nat->Bool) (p:Array Nat) (m:Nat):Prop:=∀ i j,i<j->j<m->lt (pg p j) (pg p i)=true
theorem Dm {α:Type} {i j:Nat} {k:Bool->KasT α} (hi:i<n) (hj:j<n):kRun n lt (.ask i j k)=kRun n lt (k (lt i j)):=if_pos ⟨hi,hj⟩
variable (T:Tot n lt) {p:Array Nat} (h:PermN n p)
include T h
theorem Fk:∀ f k,1<=k->k+f<=n->Srt lt p k -> ∃ m,kRun n lt (j5 p f k)=some m/\k<=m/\m<=k+f/\Srt lt p m
 | 0,k,h1,h2,hs=>⟨k,rfl,ac _,ac _,hs⟩
 | f+1,k,h1,h2,hs=>by
  have e:kRun n lt (j5 p (f+1) k)=kRun n lt (if lt (pg p k) (pg p (k - 1))=true then .ret k else j5 p f (k+1)):=Dm (h.bd (by omega)) (h.bd (by omega))
  rw [e]
  cases c:lt (pg p k) (pg p (k - 1)) with
  | true=>exact⟨k,rfl,ac _,by omega,hs⟩
  | false=>
   have c1:lt (pg p (k - 1)) (pg p k)=true:=by
    rw [T.tot _ _ (h.bd (by omega)) (h.bd (by omega)) (fun q=>by have:=h.inj (by omega) (by omega) q;omega),c];rfl
   obtain⟨m,r1,r2,r3,r4⟩:=Fk f (k+1) (by omega) (by omega) (fun i j hij hj=>by
    by_cases hk:j<k
    ·exact hs i j hij hk
    ·have:j=k:=by omega
     subst this
     by_cases hi:i=j - 1
     ·subst hi;exact c1
     ·exact T.tr _ _ _ (h.bd (by omega)) (h.bd (by omega)) (h.bd (by omega)) (hs i (j - 1) (by omega) (by omega)) c1)
   exact⟨m,r1,by omega,by omega,r4⟩
theorem P7:∀ f k,1<=k->k+f<=n->Dsc lt p k -> ∃ m,kRun n lt (jj f p k 0)=some (p,m,0)/\k<=m/\m<=k+f/\Dsc lt p m
 | 0,k,h1,h2,hs=>⟨k,rfl,ac _,ac _,hs⟩
 | f+1,k,h1,h2,hs=>by
  have e:kRun n lt (jj (f+1) p k 0)=kRun n lt (if lt (pg p k) (pg p (k - 1))=true then (if 0 > 0 then jj f (iz p (k - (0+1)) k) (k+1) 0 else jj f p (k+1) 0) else .ask (pg p (k - 1)) (pg p k) fun d=>if d=true then .ret (p,k,0) else jj f p (k+1) (0+1)):=Dm (h.bd (by omega)) (h.bd (by omega))
  rw [e]
  cases c:lt (pg p k) (pg p (k - 1)) with
  | true=>
   rw [if_pos rfl,if_neg (by omega)]
   obtain⟨m,r1,r2,r3,r4⟩:=P7 f (k+1) (by omega) (by omega) (fun i j hij hj=>by
    by_cases hk:j<k
    ·exact hs i j hij hk
    ·have:j=k:=by omega
     subst this
     by_cases hi:i=j - 1
     ·subst hi;exact c
     ·exact T.tr _ _ _ (h.bd (by omega)) (h.bd (by omega)) (h.bd (by omega)) c (hs i (j - 1) (by omega) (by omega)))
   exact⟨m,r1,by omega,by omega,r4⟩
  | false=>
   have c1:lt (pg p (k - 1)) (pg p k)=true:=by
    rw [T.tot _ _ (h.bd (by omega)) (h.bd (by omega)) (fun q=>by have:=h.inj (by omega) (by omega) q;omega),c];rfl
   rw [if_neg ak,Dm (h.bd (by omega)) (h.bd (by omega)),c1]
   exact⟨k,rfl,ac _,by omega,hs⟩
omit T in
theorem au9 {m:Nat} (hm:m<=n) (hd:Dsc lt p m):PermN n (iz p 0 m)/\Srt lt (iz p 0 m) m:=by
 have hp:PermN n (iz p 0 m):=by
  have:=mirror_perm p 0 m ((m - 0) / 2)
  exact (Array.perm_iff_toList_perm.mp this).trans h
 have gt:∀ k,k<m->pg (iz p 0 m) k=pg p (m - 1 - k):=fun k hk=>by
  have e:=getElem?_mirror_all (xs:=p) (i:=0) (j:=m) (by rw [h.size];exact hm) k
  have e1:(iz p 0 m)[k]? = some (pg (iz p 0 m) k):=pg_get (by rw [hp.size];omega)
  have e2:p[m - 1 - k]? = some (pg p (m - 1 - k)):=pg_get (by rw [h.size];omega)
  have e':(iz p 0 m)[k]? = p[m - 1 - k]?:=by
   refine e.trans ?_
   rw [if_pos (by omega)]
   congr 1
   omega
  rw [e1,e2] at e'
  exact aN e'
 refine⟨hp,fun i j hij hj=>?_⟩
 rw [gt i (by omega),gt j hj]
 exact hd _ _ (by omega) (by omega)
theorem Wl (hn:1<=n):∃ m p',kRun n lt (kas_count n p)=some (m,p')/\PermN n p'/\1<=m/\m<=n/\Srt lt p' m:=by
 obtain⟨m,r1,r2,r3,r4⟩:=Fk T h (n - 1) 1 (ac _) (by omega) (fun i j hij hj=>by omega)
 unfold kas_count
 rw [Cz,r1,cf]
 by_cases hm:m=n
 ·have e:(m==n)=true:=by rw [hm];exact beq_self_eq_true n
  rw [if_pos e]
  exact⟨m,p,rfl,h,r2,by omega,r4⟩
 ·have e:¬ (m==n)=true:=fun q=>hm (beq_iff_eq.mp q)
  rw [if_neg e]
  by_cases h1:m > 1
  ·rw [if_pos h1]
   have:=Dm (n:=n) (lt:=lt) (k:=fun c=>if c=true then KasT.ret (m,p) else kas_descPart m n (iz p 0 m)) (h.bd (i:=0) (by omega)) (h.bd (i:=m - 1) (by omega))
   refine⟨m,p,this.trans ?_,h,r2,by omega,r4⟩
   have e1:lt (pg p 0) (pg p (m - 1))=true:=r4 0 (m - 1) (by omega) (by omega)
   rw [e1]
   rfl
  ·rw [if_neg h1]
   have hm1:m=1:=by omega
   subst hm1
   unfold kas_descPart
   have hd:∃ d,kRun n lt (jj (n - (1+1)) p (1+1) 0)=some (p,d,0)/\1<=d/\d<=n/\Dsc lt p d:=by
    by_cases c:lt (pg p 1) (pg p 0)=true
    ·obtain⟨d,q1,q2,q3,q4⟩:=P7 T h (n - 2) 2 (by omega) (by omega) (fun i j hij hj=>by
      have:i=0:=by omega
      have:j=1:=by omega
      subst i j;exact c)
     exact⟨d,q1,by omega,by omega,q4⟩
    ·exfalso
     have e:=Fk T h (n - 1) 1 (ac _) (by omega) (fun i j hij hj=>by omega)
     obtain⟨m',a1,a2,a3,a4⟩:=e
     obtain⟨f,hf⟩:∃ f,n - 1=f+1:=⟨n - 2,by omega⟩
     rw [hf] at r1
     have e2:kRun n lt (j5 p (f+1) 1)=kRun n lt (if lt (pg p 1) (pg p (1 - 1))=true then .ret 1 else j5 p f (1+1)):=Dm (h.bd (by omega)) (h.bd (by omega))
     rw [e2,if_neg c] at r1
     have c0:lt (pg p 1) (pg p 0)=false:=by simpa using c
     have c1:lt (pg p 0) (pg p 1)=true:=by
      rw [T.tot _ _ (h.bd (by omega)) (h.bd (by omega)) (fun q=>by have:=h.inj (by omega) (by omega) q;omega),c0];rfl
     obtain⟨m2,b1,b2,b3,b4⟩:=Fk T h f 2 (by omega) (by omega) (fun i j hij hj=>by
      have:i=0:=by omega
      have:j=1:=by omega
      subst i j;exact c1)
     rw [r1] at b1
     cases b1
     omega
   obtain⟨d,q1,q2,q3,q4⟩:=hd
   rw [Cz,q1,cf]
   show ∃ m p',kRun n lt (if 0 > 0 then _ else kas_tail3 d n p)=some (m,p')/\_
   rw [if_neg (by omega)]
   unfold kas_tail3
   obtain⟨hp,hs⟩:=au9 h q3 q4
   obtain⟨m',a1,a2,a3,a4⟩:=Fk T hp (n - d) d q2 (by omega) hs
   rw [Cz,a1,cf]
   exact⟨m',_,rfl,hp,by omega,by omega,a4⟩
theorem G3 {k:Nat} (hk:k<n) (hs:Srt lt p k):∀ f l r,l<=r->r<=k->r - l<=f->(∀ i,i<l->lt (pg p i) (pg p k)=true)->(∀ i,r<=i->i<k->lt (pg p k) (pg p i)=true) ->
  ∃ m,kRun n lt (fY p k f l r)=some m/\m<=k/\(∀ i,i<m->lt (pg p i) (pg p k)=true)/\(∀ i,m<=i->i<k->lt (pg p k) (pg p i)=true)
 | 0,l,r,h1,h2,h3,hl,hr=>⟨l,rfl,by omega,hl,fun i a b=>hr i (by omega) b⟩
 | f+1,l,r,h1,h2,h3,hl,hr=>by
  by_cases hlr:l ≥ r
  ·have e:fY p k (f+1) l r=.ret l:=by unfold fY;rw [if_pos hlr]
   rw [e]
   exact⟨l,rfl,by omega,hl,fun i a b=>hr i (by omega) b⟩
  ·have e:kRun n lt (fY p k (f+1) l r)=kRun n lt (if lt (pg p k) (pg p ((l+r) / 2))=true then fY p k f l ((l+r) / 2) else fY p k f ((l+r) / 2+1) r):=by
    conv=>lhs;unfold fY
    rw [if_neg hlr]
    exact Dm (h.bd hk) (h.bd (by omega))
   rw [e]
   have hm1:l<=(l+r) / 2:=by omega
   have hm2:(l+r) / 2<r:=by omega
   generalize (l+r) / 2=mid at hm1 hm2 ⊢
   cases c:lt (pg p k) (pg p mid) with
   | true=>
    rw [if_pos rfl]
    refine G3 hk hs f l mid hm1 (by omega) (by omega) hl fun i a b=>?_
    by_cases hi:i=mid
    ·subst hi;exact c
    ·exact T.tr _ _ _ (h.bd hk) (h.bd (by omega)) (h.bd (by omega)) c (hs mid i (by omega) b)
   | false=>
    rw [if_neg ak]
    have c1:lt (pg p mid) (pg p k)=true:=by
     rw [T.tot _ _ (h.bd (by omega)) (h.bd hk) (fun q=>by have:=h.inj (by omega) hk q;omega),c];rfl
    refine G3 hk hs f (mid+1) r (by omega) h2 (by omega) (fun i a=>?_) hr
    by_cases hi:i=mid
    ·subst hi;exact c1
    ·exact T.tr _ _ _ (h.bd (by omega)) (h.bd (by omega)) (h.bd hk) (hs i mid (by omega) (by omega)) c1
omit T in
theorem Rk {k l:Nat} (hk:k<n) (hl:l<=k) (hs:Srt lt p k) (h1:∀ i,i<l->lt (pg p i) (pg p k)=true) (h2:∀ i,l<=i->i<k->lt (pg p k) (pg p i)=true):PermN n (jX p k (k - l))/\Srt lt (jX p k (k - l)) (k+1):=by
 have hp:PermN n (jX p k (k - l)):=(Array.perm_iff_toList_perm.mp (bubble_perm p k (k - l))).trans h
 have hk':k<p.size:=by rw [h.size];exact hk
 have gt:∀ i,i<k+1->pg (jX p k (k - l)) i=if i=l then pg p k else if l<i then pg p (i - 1) else pg p i:=fun i hi=>by
  have e:=getElem?_bubble hk' (k - l) (by omega) i
  have e1:(jX p k (k - l))[i]? = some (pg (jX p k (k - l)) i):=pg_get (by rw [hp.size];omega)
  rw [e1,show k - (k - l)=l by omega] at e
  by_cases a:i=l
  ·rw [if_pos a] at e ⊢
   rw [pg_get hk'] at e
   exact aN e
  ·rw [if_neg a] at e ⊢
   by_cases b:l<i
   ·rw [if_pos ⟨b,by omega⟩] at e
    rw [if_pos b]
    rw [pg_get (by rw [h.size];omega)] at e
    exact aN e
   ·rw [if_neg (fun q=>b q.1)] at e
    rw [if_neg b]
    rw [pg_get (by rw [h.size];omega)] at e
    exact aN e
 refine⟨hp,fun i j hij hj=>?_⟩
 rw [gt i (by omega),gt j hj]
 by_cases a:i=l
 ·rw [if_pos a,if_neg (by omega),if_pos (by omega)]
  exact h2 (j - 1) (by omega) (by omega)
 ·rw [if_neg a]
  by_cases b:l<i
  ·rw [if_pos b,if_neg (by omega),if_pos (by omega)]
   exact hs (i - 1) (j - 1) (by omega) (by omega)
  ·rw [if_neg b]
   by_cases c:j=l
   ·rw [if_pos c];exact h1 i (by omega)
   ·rw [if_neg c]
    by_cases d:l<j
    ·rw [if_pos d]
     exact hs i (j - 1) (by omega) (by omega)
    ·rw [if_neg d];exact hs i j hij (by omega)
end
theorem Ux {n:Nat} {lt:Nat->Nat->Bool} (T:Tot n lt):∀ (f:Nat) (p:Array Nat) (k:Nat),PermN n p->k+f=n->Srt lt p k -> ∃ p',kRun n lt (kas_bin f p k)=some p'/\PermN n p'/\Srt lt p' n
 | 0,p,k,h,e,hs=>⟨p,rfl,h,by rw [<- e];exact hs⟩
 | f+1,p,k,h,e,hs=>by
  obtain⟨l,a1,a2,a3,a4⟩:=G3 T h (k:=k) (by omega) hs k 0 k (bC _) (ac _) (by omega) (fun i hi=>by omega) (fun i a b=>by omega)
  obtain⟨b1,b2⟩:=Rk h (by omega) a2 hs a3 a4
  obtain⟨p',c1,c2,c3⟩:=Ux T f _ (k+1) b1 (by omega) b2
  refine⟨p',?_,c2,c3⟩
  show kRun n lt ((fY p k k 0 k).bind fun l=>kas_bin f (jX p k (k - l)) (k+1))=some p'
  rw [Cz,a1]
  exact c1
theorem sort_run {n:Nat} {lt:Nat->Nat->Bool} (T:Tot n lt) (hn:1<=n):∃ p,kRun n lt (kas_sort n)=some p/\PermN n p/\Srt lt p n:=by
 have h0:PermN n (dv (cQ n)):=by show (dv (cQ n)).toList.Perm _;exact gu _
 obtain⟨m,p,r1,r2,r3,r4,r5⟩:=Wl T h0 hn
 unfold kas_sort
 rw [Cz,r1,cf]
 show ∃ q,kRun n lt (if m<n then kas_bin (n - max m 1) p (max m 1) else .ret p)=some q/\_
 by_cases h:m<n
 ·rw [if_pos h,Nat.max_eq_left r3]
  exact Ux T (n - m) p m r2 (by omega) r5
 ·rw [if_neg h]
  have:m=n:=by omega
  subst this
  exact⟨p,rfl,r2,r5⟩
end PySem.W
namespace L2
open PySem PySem.Spec PyProof.Rows
section
variable {α:Type}
noncomputable def W0 (lt:α->α->Bool) (z:α):List α->List α
 | []=>[z]
 | y::ys=>if lt z y=true then z::y::ys else y::W0 lt z ys
noncomputable def Cy (lt:α->α->Bool):List α->List α
 | []=>[]
 | z::zs=>W0 lt z (Cy lt zs)
structure OrdL (lt:α->α->Bool) (zs:List α):Prop where
 tot:∀ a∈zs,∀ b∈zs,a≠b->lt a b = !lt b a
 tr:∀ a∈zs,∀ b∈zs,∀ c∈zs,lt a b=true->lt b c=true->lt a c=true
 nd:zs.Nodup
theorem Gr (lt:α->α->Bool) (z:α):∀ ys:List α,(W0 lt z ys).Perm (z::ys)
 | []=>gu _
 | y::ys=>by
  unfold W0
  split
  ·exact gu _
  ·exact ((Gr lt z ys).cons y).trans (List.Perm.swap z y ys)
theorem Bn (lt:α->α->Bool):∀ zs:List α,(Cy lt zs).Perm zs
 | []=>gu _
 | z::zs=>(Gr lt z _).trans ((Bn lt zs).cons z)
theorem OrdL.of {lt:α->α->Bool} {zs ys:List α} (h:OrdL lt zs) (hs:∀ a∈ys,a∈zs) (nd:ys.Nodup):OrdL lt ys:=⟨fun a ha b hb=>h.tot a (hs a ha) b (hs b hb),fun a ha b hb c hc=>h.tr a (hs a ha) b (hs b hb) c (hs c hc),nd⟩
theorem Lx {lt:α->α->Bool} {z:α}:∀ {ys:List α},OrdL lt (z::ys)->ys.Pairwise (fun a b=>lt a b=true)->(W0 lt z ys).Pairwise (fun a b=>lt a b=true)
 | [],_,_=>List.pairwise_singleton _ _
 | y::ys,h,hp=>by
  rw [dQ] at hp
  have nd:=h.nd
  rw [bi] at nd
  have ny:=nd.2
  rw [bi] at ny
  unfold W0
  split
  ·rename_i c
   refine List.pairwise_cons.mpr ⟨fun b hb=>?_,List.pairwise_cons.mpr hp⟩
   rcases List.mem_cons.mp hb with rfl|hb'
   ·exact c
   ·exact h.tr z (.head _) y (.tail _ (.head _)) b (.tail _ hb) c (hp.1 b hb')
  ·rename_i c
   have c:lt z y=false:=by simpa using c
   have c1:lt y z=true:=by rw [h.tot y (.tail _ (.head _)) z (.head _) (fun e=>nd.1 (e▸.head _)),c];rfl
   have hz:OrdL lt (z::ys):=h.of (fun a ha=>by rcases List.mem_cons.mp ha with rfl|q;exact .head _;exact .tail _ (.tail _ q)) (List.nodup_cons.mpr ⟨fun q=>nd.1 (.tail _ q),ny.2⟩)
   refine List.pairwise_cons.mpr ⟨fun b hb=>?_,Lx hz hp.2⟩
   rcases List.mem_cons.mp ((Gr lt z ys).mem_iff.mp hb) with rfl|hb'
   ·exact c1
   ·exact hp.1 b hb'
theorem Mn {lt:α->α->Bool}:∀ {zs:List α},OrdL lt zs->(Cy lt zs).Pairwise (fun a b=>lt a b=true)
 | [],_=>List.Pairwise.nil
 | z::zs,h=>by
  have nd:=List.nodup_cons.mp h.nd
  have hz:OrdL lt zs:=h.of (fun a ha=>.tail _ ha) nd.2
  refine Lx (h.of (fun a ha=>?_) ?_) (Mn hz)
  ·rcases List.mem_cons.mp ha with rfl|q
   ·exact .head _
   ·exact .tail _ ((Bn lt zs).mem_iff.mp q)
  ·exact List.nodup_cons.mpr ⟨fun q=>nd.1 ((Bn lt zs).mem_iff.mp q),((Bn lt zs).nodup_iff).mpr nd.2⟩
theorem Mm {lt:α->α->Bool}:∀ {xs ys:List α},OrdL lt xs->xs.Perm ys->xs.Pairwise (fun a b=>lt a b=true)->ys.Pairwise (fun a b=>lt a b=true)->xs=ys
 | [],ys,_,h,_,_=>(List.Perm.nil_eq h)
 | x::xs,[],_,h,_,_=>absurd h.symm.nil_eq (by simp)
 | x::xs,y::ys,o,h,hx,hy=>by
  rw [dQ] at hx hy
  have e:x=y:=by
   apply eE
   intro ne
   have m1:x∈ys:=by
    have:x∈y::ys:=h.mem_iff.mp (.head _)
    rcases List.mem_cons.mp this with q|q
    ·exact absurd q ne
    ·exact q
   have m2:y∈xs:=by
    have:y∈x::xs:=h.mem_iff.mpr (.head _)
    rcases List.mem_cons.mp this with q|q
    ·exact absurd q.symm ne
    ·exact q
   have a:=hx.1 y m2
   have b:=hy.1 x m1
   rw [o.tot x (.head _) y (.tail _ m2) ne,b] at a
   cases a
  subst e
  have nd:=List.nodup_cons.mp o.nd
  rw [Mm (o.of (fun a ha=>.tail _ ha) nd.2) ((List.perm_cons x).mp h) hx.2 hy.2]
theorem Ml {lt:α->α->Bool} {zs:List α} (d:α) (o:OrdL lt zs) (hn:1<=zs.length) :
  ∃ p,PySem.W.kRun zs.length (fun i j=>lt (zs.getD i d) (zs.getD j d)) (PySem.W.kas_sort zs.length)=some p/\p.toList.length=zs.length/\(∀ i∈p.toList,i<zs.length)/\(p.toList.map fun i=>zs.getD i d)=Cy lt zs:=by
 have gm:∀ i,i<zs.length->zs.getD i d∈zs:=fun i hi=>by rw [aA,au hi];exact dI hi
 have gi:∀ i j,i<zs.length->j<zs.length->zs.getD i d=zs.getD j d->i=j:=fun i j hi hj e=>by
  rw [aA,au hi,aA,au hj] at e
  exact (List.getElem_inj o.nd).mp e
 obtain⟨p,h1,h2,h3⟩:=PySem.W.sort_run (n:=zs.length) (lt:=fun i j=>lt (zs.getD i d) (zs.getD j d)) ⟨fun i j hi hj ne=>o.tot _ (gm i hi) _ (gm j hj) (fun e=>ne (gi i j hi hj e)),fun i j k hi hj hk=>o.tr _ (gm i hi) _ (gm j hj) _ (gm k hk)⟩ hn
 have hp:(p.toList.map fun i=>zs.getD i d).Perm zs:=by
  have q:=h2.map (fun i=>zs.getD i d)
  have e:((cQ zs.length).map fun i=>zs.getD i d)=zs:=by
   apply List.ext_getElem?
   intro i
   rw [aP]
   by_cases hi:i<zs.length
   ·rw [List.getElem?_range hi,au hi,eZ,aA,au hi];rfl
   ·rw [cU (by simp;omega),cU (by omega)];rfl
  rw [e] at q
  exact q
 refine⟨p,h1,by rw [bU,h2.size],fun i hi=>List.mem_range.mp (h2.mem_iff.mp hi),?_⟩
 refine Mm (o.of (fun a ha=>hp.mem_iff.mp ha) ((hp.nodup_iff).mpr o.nd)) (hp.trans (Bn lt zs).symm) ?_ (Mn o)
 rw [List.pairwise_iff_getElem]
 intro i j hi hj hij
 rw [aj,bU,h2.size] at hi hj
 have g:∀ k (hk:k<zs.length),∃ hk',(p.toList.map fun i=>zs.getD i d)[k]'hk'=zs.getD (PySem.W.pg p k) d:=fun k hk=>by
  have e:=PySem.W.pg_get (p:=p) (i:=k) (by rw [h2.size];exact hk)
  rw [<- cg] at e
  obtain⟨a,b⟩:=List.getElem?_eq_some_iff.mp e
  refine⟨by rw [aj];exact a,?_⟩
  rw [List.getElem_map,b]
 obtain⟨a1,b1⟩:=g i hi
 obtain⟨a2,b2⟩:=g j hj
 rw [b1,b2]
 exact h3 i j hij hj
end
noncomputable def ltS (a b:Str):Bool:=decide (a.cps.toList<b.cps.toList)
theorem Nc {zs:List Str} (nd:zs.Nodup):OrdL ltS zs where
 nd:=nd
 tot:=fun a _ b _ ne=>by
  unfold ltS
  rw [<- decide_not]
  refine decide_eq_decide.mpr ⟨fun h q=>List.lt_irrefl _ (List.lt_trans h q),fun h=>?_⟩
  apply eE
  intro q
  exact ne (Str.ext' (Array.toList_inj.mp (List.le_antisymm (List.not_lt.mp h) (List.not_lt.mp q))))
 tr:=fun a _ b _ c _ h q=>by
  unfold ltS at h q ⊢
  exact decide_eq_true (List.lt_trans (of_decide_eq_true h) (of_decide_eq_true q))
end L2
namespace PySem.W
open PySem PySem.Calls PyProof.Rows
section
variable {prog:aH} {w:bh} {A:a_} {E:Value->ah->Prop} {s:ah} {vs:List Value}
theorem collect_src {T:String} {r d:Addr} {n:Nat} {P:Nat->Value->Prop} {OK:Heap->Prop} {Q:List Value->ah->Prop} (K:KdlSrc prog w T r d n P OK) (hh:A.handled=none) (hok:OK s.heap) (hn:n<=sizeLine)
  (h:∀ h' tk (us:List Value),(∀ b o,s.heap.get? b=some o->h'.get? b=some o)->s.heap.objs.size<h'.objs.size->us.length=n->(∀ j v,us[j]? = some v->P j v)->Q us { s with heap:=h',toks:=tk }) :
  aJ (model prog w) A (collect (.ref r)) Q E s:=by
 have hlt:=K.there _ hok
 unfold collect
 refine af (wpAny_runValue (iw entry_proto_collect' ?_))
 show aJ _ _ (do again (.builtin "list.__iadd__" ⟨[<- newList [],.ref r],[]⟩)) _ _ s
 refine af (fh (ar ⟨dP _ (by decide +kernel),iw entry_list_iadd' ?_⟩))
 show aJ _ _ (Builtin.List.listExtendWith (.ref s.heap.objs.size) (.ref r) (.ref s.heap.objs.size)) _ _ { s with heap:=s.heap.push (a0 "list" #[] 0) }
 rw [Around.under_plainId PySem.F.plain_list_iadd _]
 refine kdl_extend (A:=A) (R:=wants _ _) (s:={ s with heap:=s.heap.push (a0 "list" #[] 0) }) K hh (K.keep _ _ hok fun b _ o e=>ag _ e) s.heap.objs.size (fE hlt.1) (fE hlt.2) _ 0 (aF _ rfl) (fun h' tk acc' c' hk hS' hacc=>?_) hn
 show aJ (model prog w) A (do
   let o <- load s.heap.objs.size
   match o.data with
   | .seq xs _=>pure xs.toList
   | _=>unsupported "internal:collect") Q E { s with heap:=h',toks:=tk }
 refine af (wpAny_load hS' ?_)
 exact ar (h h' tk acc'.toList (fun b o e=>hk b o (aQ (aC e)) (ag _ e)) (aC hS') (by rw [bU];exact hacc.1) fun j v e=>hacc.2 j v (by rw [<- cg];exact e))
theorem Lh {n:Nat} {a:Addr} {P:jN->ah->Prop} (ho:s.heap.get? a=some (a0 "list" vs.toArray n)) (h2:vs.length<2)
  (h:∀ h' c,h'.get? a=some (a0 "list" vs.toArray c)->(∀ b o,b≠a->s.heap.get? b=some o->h'.get? b=some o)->P (.done (.ret .none)) { s with heap:=h' }) :
  aJ (model prog w) A (bg.«list.sort» ⟨[.ref a],[]⟩) P E s:=by
 have ha:a<s.heap.objs.size:=aC ho
 have s1:=bE s.heap a (aT fun _=>(#[]:Array Value))
 obtain⟨e1,ho1⟩:∃ e1,(s.heap.update a (aT fun _=>(#[]:Array Value))).get? a=some (a0 "list" #[] e1):=⟨_,dj ho fun _=>#[]⟩
 rw [list_sort_plain]
 refine af (iA ho rfl ?_)
 refine af (dH ho rfl ?_ (by rw [am,bj];omega) (bC _))
 refine af (f6 ho1 rfl ?_)
 refine af (iO ?_ (by show vs.length<=_;rw [bj];omega))
 refine af (fh ?_ (bC _))
 refine bq ?_
 show aJ (model prog w) A _ P E { s with heap:=((s.heap.update a (aT fun _=>(#[]:Array Value))).push (a0 "tuple" vs.toArray 0)).push (a0 "list" #[] 0) }
 dsimp only
 have hn2:vs.toArray.size<2:=by rw [am];omega
 rw [if_pos hn2,if_pos hn2]
 refine af (ar ?_)
 rw [StateT.run_pure]
 refine af (ar ?_)
 dsimp only
 have ho6:(((s.heap.update a (aT fun _=>(#[]:Array Value))).push (a0 "tuple" vs.toArray 0)).push (a0 "list" #[] 0)).get? a=some (a0 "list" #[] e1):=ag _ (ag _ ho1)
 have o6:∀ b o,b≠a->s.heap.get? b=some o->(((s.heap.update a (aT fun _=>(#[]:Array Value))).push (a0 "tuple" vs.toArray 0)).push (a0 "list" #[] 0)).get? b=some o:=fun b o nb e=>ag _ (ag _ ((s1.2 b nb).trans e))
 generalize ((s.heap.update a (aT fun _=>(#[]:Array Value))).push (a0 "tuple" vs.toArray 0)).push (a0 "list" #[] 0)=h6 at ho6 o6 ⊢
 have hout:gH (fun x:Keyed=>x.snd) (arrOf (jp j4 (vs.toArray.zip vs.toArray) #[] 7 none))=vs.toArray:=by
  show gH (fun x:Keyed=>x.snd) (vs.toArray.zip vs.toArray)=vs.toArray
  apply Array.ext'
  simp only [Array.toList_map,Array.toList_zip]
  exact List.map_snd_zip (ac _)
 refine af (f6 (s:={ s with heap:=h6 }) ho6 rfl ?_)
 refine af (dH (s:={ s with heap:=h6 }) ho6 rfl ?_ (bC _) (by rw [hout,am,bj];omega))
 have s2:=bE h6 a (aT fun _=>gH (fun x:Keyed=>x.snd) (arrOf (jp j4 (vs.toArray.zip vs.toArray) #[] 7 none)))
 obtain⟨c2,hc2⟩:∃ c2,(h6.update a (aT fun _=>gH (fun x:Keyed=>x.snd) (arrOf (jp j4 (vs.toArray.zip vs.toArray) #[] 7 none)))).get? a=some (a0 "list" (gH (fun x:Keyed=>x.snd) (arrOf (jp j4 (vs.toArray.zip vs.toArray) #[] 7 none))) c2):=⟨_,dj ho6 fun _=>_⟩
 rw [hout] at hc2 s2 ⊢
 simp only [bne_self_eq_false,cB,if_false]
 exact ar (h _ c2 hc2 fun b o nb e=>(s2.2 b nb).trans (o6 b o nb e))
theorem so_sortedC {x:Value} {OKQ:List Value->Heap->Nat->Prop} {Q:Value->ah->Prop} (hc:∀ R:List Value->ah->Prop,(∀ us h' tk,OKQ us h' tk->R us { s with heap:=h',toks:=tk })->aJ (model prog w) A.in1 (collect x) R (fun _ _=>False) s)
  (h:∀ us h' tk,OKQ us h' tk->us.length<64/\((us.length<2 -> ∀ h2 c,h2.get? h'.objs.size=some (a0 "list" us.toArray c)->(∀ b o,h'.get? b=some o->h2.get? b=some o)->Q (.ref h'.objs.size) { s with heap:=h2,toks:=tk })/\(2<=us.length -> ∀ D e1 h2,h'.objs.size<=D->h2.get? D=some (a0 "list" #[] e1)->(∀ b o,h'.get? b=some o->h2.get? b=some o) ->
   aJ (model prog w) A.in1.in1 (j6 us.toArray) (fun κ s'=>(kas_sort us.length).kasWp (kas_ask prog w A.in1.in1 κ us) (fun p s''=>SoFin D e1 (p.toList.map fun i=>us.getD i ba) (fun s3=>Q (.ref D) s3) s'') s') (fun _ _=>False) { s with heap:=h2,toks:=tk }))) :
  aJ (model prog w) A (call (.builtin "sorted") [x]) Q E s:=by
 refine Calls.call_function_entry kind_sorted plain_sorted entry_sorted (args_sorted1 _) ?_
 unfold bg.«sorted»
 refine af (m:=checkCount "sorted" 1 1 _) (ar ?_)
 refine af (bG (hc _ fun us h' tk ok=>?_) (fun _ _ z=>z) fun _ _ z=>z.elim)
 obtain⟨h64,hs,hb⟩:=h us h' tk ok
 refine af (fh ?_ (by rw [bj];omega))
 have hoL:(h'.push (a0 "list" us.toArray 0)).get? h'.objs.size=some (a0 "list" us.toArray 0):=aF _ rfl
 show aJ _ _ _ _ _ { s with heap:=h'.push (a0 "list" us.toArray 0),toks:=tk }
 refine af (bq (hG slot_list_sort ⟨_,hoL,rfl⟩ entry_list_sort ?body (args_list_sort _)))
 case body=>
  by_cases h2:2<=us.length
  ·refine Nx (s:={ s with heap:=h'.push (a0 "list" us.toArray 0),toks:=tk }) hoL h2 h64 fun e1 h2' g k=>?_
   refine bG (hb h2 _ e1 h2' (ac _) g fun b o q=>k b o (aQ (aC q)) (ag _ q)) (fun κ s' hk=>?_) fun _ _ x=>x
   rw [kat_ask_eq rfl] at hk ⊢
   exact kas_wp_mono hk fun p s'' hk'=>hk'.mono fun s3 hq=>⟨_,rfl,ar ⟨_,rfl,hq⟩⟩
  ·have h2:us.length<2:=by omega
   refine Lh (s:={ s with heap:=h'.push (a0 "list" us.toArray 0),toks:=tk }) hoL h2 fun h3 c g k=>?_
   exact⟨_,rfl,ar ⟨_,rfl,hs h2 h3 c g fun b o q=>k b o (aQ (aC q)) (ag _ q)⟩⟩
end
end PySem.W
namespace L2
open PySem PySem.Spec PyProof.Rows
theorem Wa:∀ {xs:List V} {us:List Value},xs.length=us.length->(∀ (i:Nat) x u,xs[i]? = some x->us[i]? = some u->RelV x u)->Vals xs us
 | [],[],_,_=>.nil
 | [],_::_,h,_=>by simp at h
 | _::_,[],h,_=>by simp at h
 | x::xs,u::us,h,g=>.cons (g 0 x u rfl rfl) (Wa (by simpa using h) fun i a b ha hb=>g (i+1) a b ha hb)
theorem aq6 {P:aH} {w:bh} {k:Key} {v:Value} (h:(As P w).is k v=true):RelV (kV k) v:=by
 rcases Az (show F7 k v=true from h) with ⟨i,t,rfl,rfl⟩|⟨x,t,rfl,rfl⟩
 ·exact⟨t,rfl⟩
 ·exact⟨t,rfl⟩
theorem L7 {P:aH} {w:bh} {kvs:List (Key×V)} {vs:List (Key×Value)} {us:List Value} (rel:KV kvs vs) (hl:us.length=vs.length) (h:∀ (j:Nat) v,us[j]? = some v -> ∃ k x,vs[j]? = some (k,x)/\(As P w).is k v=true):Vals (kvs.map fun kv=>kV kv.1) us:=by
 refine Wa (by rw [aj,rel.length,hl]) fun i x u hx hu=>?_
 obtain⟨k,y,hk,his⟩:=h i u hu
 have e:(kvs.map (·.1))[i]? = some k:=by rw [rel.keys,aP,hk];rfl
 rw [aP] at hx e
 obtain⟨kv,hkv,rfl⟩:=Option.map_eq_some_iff.mp hx
 rw [hkv] at e
 cases e
 exact aq6 his
section
variable {X:Cx}
noncomputable def aj5 (K:aa):List V->Hp->VK->Prop:=fun xs H Q=>∃ p zs,xs=[.ref p]/\(SqL K H p (zs.map V.str) \/ ∃ kvs,Rd H p (.dK kvs)/\kvs.map (·.1)=zs.map dO)/\zs.Nodup/\zs.length<64 /\ ∀ D,H D=none->Q (.ref D) (upd H D (.lst ((Cy ltS zs).map V.str)))
theorem V8 {zs:List Str} (h:zs.length<2):Cy ltS zs=zs:=by
 match zs,h with
 | [],_=>rfl
 | [z],_=>rfl
theorem Uh {zs:List Str} {us:List Value} (r:Vals (zs.map V.str) us) {i:Nat} (h:i<zs.length):∃ t,us.getD i ba=.str (zs.getD i ck) t:=by
 have hl:us.length=zs.length:=by have:=r.length;simpa using this.symm
 obtain⟨x,hx,rx⟩:=Rb r (i:=i) (by omega)
 rw [aP,au h] at hx
 cases hx
 obtain⟨t,e⟩:=rx
 refine⟨t,?_⟩
 rw [aA (l:=zs),au h]
 exact e
theorem Rl (hc:X.calm=true):Db X (.builtin "sorted") (aj5 X.K):=by
 intro pins s σ H xs us Q I r h
 obtain⟨p,zs,rfl,hp,nd,h64,q⟩:=h
 obtain⟨u,rfl,ru⟩:=Hg r
 cases ru
 refine PySem.W.so_sortedC (OKQ:=fun us h' tk=>(∀ b o,s.heap.get? b=some o->h'.get? b=some o)/\s.heap.objs.size<=h'.objs.size/\s.toks<=tk/\Vals (zs.map V.str) us) (fun R hR=>?_) fun us h' tk ⟨keep,hD,htk,rv⟩=>?_
 ·rcases hp with hp|⟨kvs,hp,ek⟩
  ·obtain⟨its,ri,pl,hz⟩:=I.list hp
   refine collect_list pl.isList (hR _ _ s.toks ⟨fun b o e=>?_,?_,ac _,ri⟩) (by have:=ri.length;rw [aj] at this;rw [bj];omega)
   ·have hlt:b<s.heap.objs.size:=aC e
    rw [iR _ _ _ _ (aQ hlt)]
    exact ag _ e
   ·rw [g7,iE]
    exact cN _
  ·obtain⟨z,lo,vs,rel,dof⟩:=D2 I.hok hp
   obtain⟨ep,dat⟩:=dof.dictAt
   refine bt (ac _) (PySem.W.collect_src (PySem.W.kdl_dict lo) (by simp [I.ok.hd hc]) dat (by rw [<- rel.length];exact z) fun h' tk us hk hs hl hi htk=>?_)
   refine hR us h' tk ⟨hk,fC hs,htk,?_⟩
   have v:=L7 rel hl hi
   have e:(kvs.map fun kv=>kV kv.1)=zs.map V.str:=by
    have:=congrArg (gQ kV) ek
    rw [cq,cq] at this
    exact this
   rwa [e] at v
 ·have hl:us.length=zs.length:=by have:=rv.length;simpa using this.symm
  refine⟨by omega,fun h2 h2' c g k=>?_,fun h2 D e1 h2' hD2 gD k=>?_⟩
  ·refine⟨.ref h'.objs.size,_,I.laid (t':=tk) (fun b o e=>k b o (keep b o e)) hD (o:=.lst ((Cy ltS zs).map V.str)) ⟨?_,us,c,?_,g⟩,rfl,q _ (I.hok.fresh hD)⟩
   ·rw [V8 (by omega),aj,bj];omega
   ·rw [V8 (by omega)];exact rv
  ·refine PySem.W.kas_kind (T:=.type "str") h2 (fun v hv=>?_) rfl rfl ?_
   ·obtain⟨i,hi,rfl⟩:=List.getElem_of_mem hv
    obtain⟨t,e⟩:=Uh rv (i:=i) (by omega)
    rw [aA,au hi] at e
    rw [show us[i]=_ from e]
    exact .now
   ·obtain⟨pp,h1,h3,h4,h5⟩:=Ml (lt:=ltS) (zs:=zs) ck (Nc nd) (by omega)
    refine PySem.W.kRun_wp (n:=us.length) (lt:=fun i j=>ltS (zs.getD i ck) (zs.getD j ck)) (a:=pp) (fun i j C hi hj hC=>?_) (by rw [hl];exact h1) ⟨gD,fun h3' c g2 sb=>?_⟩
    ·unfold PySem.W.kas_ask
     obtain⟨t1,e1⟩:=Uh rv (i:=i) (by omega)
     obtain⟨t2,e2⟩:=Uh rv (i:=j) (by omega)
     rw [e1,e2]
     exact PySem.W.kas_lt_str hC
    ·refine⟨.ref D,_,I.laid (t':=tk) (fun b o e=>(sb.2 b (aQ (aI (aC e) (aR hD hD2)))).trans (k b o (keep b o e))) (aR hD hD2) (o:=.lst ((Cy ltS zs).map V.str)) ⟨?_,_,c,?_,g2⟩,rfl,q D (I.hok.fresh (aR hD hD2))⟩
     ·rw [aj,(Bn ltS zs).length_eq,bj];omega
     ·have v:=G7 rv pp.toList (fun i hi=>by rw [hl];exact h4 i hi)
      have e:(pp.toList.map fun i=>(zs.map V.str).getD i .non)=(Cy ltS zs).map V.str:=by
       rw [<- h5,cq]
       refine eM fun i hi=>?_
       have:=h4 i hi
       rw [aA,aP,au this]
       show V.str zs[i]=V.str (zs.getD i ck)
       rw [aA,au this]
       rfl
      rwa [e] at v
end
end L2
namespace PySem.W
open PySem PySem.Calls PyProof.Rows
section
variable {prog:aH} {w:bh} {A:a_} {E:Value->ah->Prop} {s:ah} {vs:List Value}
noncomputable def SkFin (a b:Addr) (e e1:Nat) (ks out:List Value) (C:ah->Prop) (s:ah):Prop:=
 s.heap.get? a=some (a0 "list" #[] e1)/\s.heap.get? b=some (a0 "list" ks.toArray e) /\ ∀ h' c,h'.get? a=some (a0 "list" (dv out) c)->(∀ d,d≠a->d≠b->h'.get? d=s.heap.get? d)->C { s with heap:=h' }
theorem V3 {a kS:Addr} {ks:List Value} {st:SortSt} {e e1:Nat} {out:List Value} {P:jN->ah->Prop} (hne:a≠kS) (har:gH (fun x:Keyed=>x.snd) (arrOf st)=out.toArray) (h64:out.length<64) (k64:ks.length<64) (hf:failedOf st=none)
  (h:SkFin a kS e e1 ks out (fun s'=>P (.done (.ret .none)) s') s):aJ (model prog w) A (ksk_tail a false e1 (.ref kS) st) P E s:=by
 obtain⟨ha,hk,q⟩:=h
 unfold ksk_tail
 rw [har,hf]
 have s1:=bE s.heap kS (aT fun _=>(#[]:Array Value))
 have ha1:(s.heap.update kS (aT fun _=>(#[]:Array Value))).get? a=some (a0 "list" #[] e1):=(s1.2 a hne).trans ha
 refine af (dH hk rfl ?_ (by rw [am,bj];omega) (bC _))
 refine af (wpAny_letGo ?_)
 refine af (f6 (s:={ s with heap:=s.heap.update kS (aT fun _=>(#[]:Array Value)) }) ha1 rfl ?_)
 refine af (dH (s:={ s with heap:=s.heap.update kS (aT fun _=>(#[]:Array Value)) }) ha1 rfl ?_ (bC _) (by simp only [cB,if_false];rw [am,bj];omega))
 simp only [bne_self_eq_false,cB,if_false]
 have s2:=bE (s.heap.update kS (aT fun _=>(#[]:Array Value))) a (aT fun _=>out.toArray)
 obtain⟨c2,hc2⟩:∃ c2,((s.heap.update kS (aT fun _=>(#[]:Array Value))).update a (aT fun _=>out.toArray)).get? a=some (a0 "list" out.toArray c2):=⟨_,dj ha1 fun _=>_⟩
 exact ar (q _ c2 hc2 fun d d1 d2=>(s2.2 d d1).trans (s1.2 d d2))
theorem av6 {n:Nat} {a:Addr} {f:Value} {P:jN->ah->Prop} (ho:s.heap.get? a=some (a0 "list" vs.toArray n)) (h64:vs.length<64)
  (h:∀ e1 kS h',s.heap.objs.size<=kS->h'.get? a=some (a0 "list" #[] e1)->h'.get? kS=some (a0 "list" #[] 0)->(∀ b o,b≠a->s.heap.get? b=some o->h'.get? b=some o) ->
   ∃ G:List Value->ah->Prop,(∀ e,h'.get? kS=some (a0 "list" #[] e)->G [] { s with heap:=h' }) /\
    (∀ (j:Nat) x ks e s',vs[j]? = some x->ks.length=j->s'.heap.get? kS=some (a0 "list" ks.toArray e)->G ks s'->aJ (model prog w) A (call f [x]) (fun k s''=>s''.heap.get? kS=some (a0 "list" ks.toArray e) /\ ∀ h2 c,h2.get? kS=some (a0 "list" (ks++[k]).toArray c)->bA kS s''.heap h2->G (ks++[k]) { s'' with heap:=h2 }) (fun _ _=>False) s') /\
    (∀ ks e s',ks.length=vs.length->s'.heap.get? kS=some (a0 "list" ks.toArray e)->G ks s'->(vs.length<2->SkFin a kS e e1 ks vs (fun s3=>P (.done (.ret .none)) s3) s')/\(2<=vs.length ->
     aJ (model prog w) A (j6 ks.toArray) (fun κ s''=>(kas_sort vs.length).kasWp (kas_ask prog w A κ ks) (fun p s3=>SkFin a kS e e1 ks (p.toList.map fun i=>vs.getD i ba) (fun s4=>P (.done (.ret .none)) s4) s3) s'') (fun _ _=>False) s'))) :
  aJ (model prog w) A (ksk_tree a f false) P E s:=by
 have ha:a<s.heap.objs.size:=aC ho
 have s1:=bE s.heap a (aT fun _=>(#[]:Array Value))
 obtain⟨e1,ho1⟩:∃ e1,(s.heap.update a (aT fun _=>(#[]:Array Value))).get? a=some (a0 "list" #[] e1):=⟨_,dj ho fun _=>#[]⟩
 have hsz:((s.heap.update a (aT fun _=>(#[]:Array Value))).push (a0 "tuple" vs.toArray 0)).objs.size=s.heap.objs.size+1:=by rw [iE,g7]
 unfold ksk_tree
 refine af (iA ho rfl ?_)
 refine af (dH ho rfl ?_ (by rw [am,bj];omega) (bC _))
 refine af (f6 ho1 rfl ?_)
 refine af (iO ?_ (by show vs.length<=_;rw [bj];omega))
 refine af (fh ?_ (bC _))
 refine bq ?_
 show aJ (model prog w) A (ksk_rest a f false vs.toArray e1 (.ref ((s.heap.update a (aT fun _=>(#[]:Array Value))).push (a0 "tuple" vs.toArray 0)).objs.size)) P E { s with heap:=((s.heap.update a (aT fun _=>(#[]:Array Value))).push (a0 "tuple" vs.toArray 0)).push (a0 "list" #[] 0) }
 have hk0:(((s.heap.update a (aT fun _=>(#[]:Array Value))).push (a0 "tuple" vs.toArray 0)).push (a0 "list" #[] 0)).get? (((s.heap.update a (aT fun _=>(#[]:Array Value))).push (a0 "tuple" vs.toArray 0)).objs.size)=some (a0 "list" #[] 0):=aF _ rfl
 have ha0:(((s.heap.update a (aT fun _=>(#[]:Array Value))).push (a0 "tuple" vs.toArray 0)).push (a0 "list" #[] 0)).get? a=some (a0 "list" #[] e1):=ag _ (ag _ ho1)
 obtain⟨G,g0,gs,gf⟩:=h e1 _ _ (by rw [hsz];exact cN _) ha0 hk0 (fun b o nb e=>ag _ (ag _ ((s1.2 b nb).trans e)))
 have hne:a≠((s.heap.update a (aT fun _=>(#[]:Array Value))).push (a0 "tuple" vs.toArray 0)).objs.size:=by rw [hsz];exact aQ (Nat.lt_succ_of_lt ha)
 have gz:=g0 0 hk0
 generalize ((s.heap.update a (aT fun _=>(#[]:Array Value))).push (a0 "tuple" vs.toArray 0)).objs.size=kS at *
 generalize ((s.heap.update a (aT fun _=>(#[]:Array Value))).push (a0 "tuple" vs.toArray 0)).push (a0 "list" #[] 0)=h' at *
 unfold ksk_rest
 refine af (ju ?_)
 rw [<- Array.forIn_toList]
 refine af (ksk_fold (fun j s'=>∃ ks e,ks.length=j/\s'.heap.get? kS=some (a0 "list" ks.toArray e)/\G ks s') vs 0 _ ⟨[],0,rfl,hk0,gz⟩ (fun j x s' hx ⟨ks,e,hl,hk,hg⟩=>?_) fun s' ⟨ks,e,hl,hk,hg⟩=>?_)
 ·rw [jA] at hl
  have hj:j<vs.length:=(List.getElem?_eq_some_iff.mp hx).1
  refine af (gZ (bG (gs j x ks e s' hx hl hk hg) (fun k s'' hq=>?_) fun _ _ z=>z.elim))
  obtain⟨hk2,hq⟩:=hq
  dsimp only
  refine af (dH hk2 rfl ?_ (by rw [am,bj];omega) (by rw [Array.size_push,am,bj];omega))
  have e3:(ks.toArray.push k)=(ks++[k]).toArray:=by simp
  obtain⟨c,hc⟩:∃ c,(s''.heap.update kS (aT fun x=>x.push k)).get? kS=some (a0 "list" (ks++[k]).toArray c):=⟨_,by rw [<- e3];exact dj hk2 fun x=>x.push k⟩
  exact ar ⟨rfl,ks++[k],c,by rw [ay,hl,jA];rfl,hc,hq _ c hc (bE _ _ _)⟩
 ·rw [jA] at hl
  obtain⟨q1,q2⟩:=gf ks e s' hl hk hg
  refine af (iA hk rfl ?_)
  unfold ksk_end
  simp only [cB,if_false]
  by_cases h2:vs.toArray.size<2
  ·rw [if_pos h2,if_pos h2]
   refine af (ar ?_)
   rw [StateT.run_pure]
   refine af (ar ?_)
   dsimp only
   refine V3 hne ?_ h64 (by omega) rfl (q1 (by simpa using h2))
   show gH (fun x:Keyed=>x.snd) (ks.toArray.zip vs.toArray)=vs.toArray
   apply Array.ext'
   simp only [Array.toList_map,Array.toList_zip]
   exact List.map_snd_zip (by omega)
  ·have h2':2<=vs.length:=by rw [am] at h2;omega
   rw [if_neg h2,if_neg h2]
   refine af (bG (q2 h2') (fun κ s0 hk0=>?_) fun _ _ x=>x.elim)
   refine af (bG (kat_run (Q:=fun st' s'=>∃ p:Array Nat,p.size=vs.length/\arrOf st'=p.map (kas_item (ks.toArray.zip vs.toArray))/\failedOf st'=none/\SkFin a kS e e1 ks (p.toList.map fun i=>vs.getD i ba) (fun s''=>P (.done (.ret .none)) s'') s')
    hl h2' h64 (fun p' st' s' a1 a2 a3 a4=>⟨p',a1,a2,a3,a4⟩) hk0) ?_ fun _ _ e=>e)
   rintro⟨⟨⟩,st'⟩ s' ⟨p,hp,har,hf,hq⟩
   exact V3 hne (kat_snds hl har) (by rw [aj,bU,hp];exact h64) (by omega) hf hq
theorem sk_sorted {x:Value} {b:Addr} {OKQ:List Value->Heap->Nat->Prop} {Q:Value->ah->Prop} (hc:∀ R:List Value->ah->Prop,(∀ us h' tk,OKQ us h' tk->R us { s with heap:=h',toks:=tk })->aJ (model prog w) A.in1 (collect x) R (fun _ _=>False) s)
  (h:∀ us h' tk,OKQ us h' tk->us.length<64 /\ ∀ D e1 kS h2,h'.objs.size<=D->D<kS->h2.get? D=some (a0 "list" #[] e1)->h2.get? kS=some (a0 "list" #[] 0)->(∀ b o,h'.get? b=some o->h2.get? b=some o) ->
   ∃ G:List Value->ah->Prop,G [] { s with heap:=h2,toks:=tk } /\
    (∀ (j:Nat) x ks e s',us[j]? = some x->ks.length=j->s'.heap.get? kS=some (a0 "list" ks.toArray e)->G ks s'->aJ (model prog w) A.in1.in1 (call (.ref b) [x]) (fun k s''=>s''.heap.get? kS=some (a0 "list" ks.toArray e) /\ ∀ h2 c,h2.get? kS=some (a0 "list" (ks++[k]).toArray c)->bA kS s''.heap h2->G (ks++[k]) { s'' with heap:=h2 }) (fun _ _=>False) s') /\
    (∀ ks e s',ks.length=us.length->s'.heap.get? kS=some (a0 "list" ks.toArray e)->G ks s'->(us.length<2->SkFin D kS e e1 ks us (fun s3=>Q (.ref D) s3) s')/\(2<=us.length ->
     aJ (model prog w) A.in1.in1 (j6 ks.toArray) (fun κ s''=>(kas_sort us.length).kasWp (kas_ask prog w A.in1.in1 κ ks) (fun p s3=>SkFin D kS e e1 ks (p.toList.map fun i=>us.getD i ba) (fun s4=>Q (.ref D) s4) s3) s'') (fun _ _=>False) s'))) :
  aJ (model prog w) A (call (.builtin "sorted") [x] [("key", .ref b)]) Q E s:=by
 refine call_function_entry_kw kind_sorted plain_sorted entry_sorted (ksk_s1 _ _) ?_
 unfold bg.«sorted»
 refine af (m:=checkCount "sorted" 1 1 _) (ar ?_)
 refine af (bG (hc _ fun us h' tk ok=>?_) (fun _ _ z=>z) fun _ _ z=>z.elim)
 obtain⟨h64,hb⟩:=h us h' tk ok
 refine af (fh ?_ (by rw [bj];omega))
 have hoL:(h'.push (a0 "list" us.toArray 0)).get? h'.objs.size=some (a0 "list" us.toArray 0):=aF _ rfl
 show aJ _ _ _ _ _ { s with heap:=h'.push (a0 "list" us.toArray 0),toks:=tk }
 refine af (bq (wpAny_call_entry_kw slot_list_sort ⟨_,hoL,rfl⟩ entry_list_sort ?body (ksk_l1 _ _)))
 case body=>
  rw [ksk_t1]
  refine av6 (s:={ s with heap:=h'.push (a0 "list" us.toArray 0),toks:=tk }) hoL h64 fun e1 kS h2 hk g gk k=>?_
  have hk2:h'.objs.size<kS:=by
   have hk:(h'.push (a0 "list" us.toArray 0)).objs.size<=kS:=hk
   rw [iE] at hk;omega
  obtain⟨G,g0,gs,gf⟩:=hb h'.objs.size e1 kS h2 (ac _) hk2 g gk fun b o q=>k b o (aQ (aC q)) (ag _ q)
  refine⟨G,fun _ _=>g0,gs,fun ks e s' hl hk hg=>?_⟩
  obtain⟨q1,q2⟩:=gf ks e s' hl hk hg
  refine⟨fun h2=>?_,fun h2=>bG (q2 h2) (fun κ s'' hk=>?_) fun _ _ x=>x⟩
  ·obtain⟨r1,r2,r3⟩:=q1 h2
   exact⟨r1,r2,fun h' c x y=>⟨_,rfl,ar ⟨_,rfl,r3 h' c x y⟩⟩⟩
  ·rw [kat_ask_eq hl] at hk ⊢
   exact kas_wp_mono hk fun p s3 ⟨r1,r2,r3⟩=>⟨r1,r2,fun h' c x y=>⟨_,rfl,ar ⟨_,rfl,r3 h' c x y⟩⟩⟩
end
end PySem.W
namespace L2
open PySem PySem.Spec PyProof.Rows
theorem aw0 {lt:Str->Str->Bool} {zs:List Str} (h:zs.length<2):Cy lt zs=zs:=by
 match zs,h with
 | [],_=>rfl
 | [z],_=>rfl
noncomputable def ltK (kf:Str->Int) (a b:Str):Bool:=if kf a=kf b then ltS a b else decide (kf a<kf b)
theorem aq9 {kf:Str->Int} {zs:List Str} (nd:zs.Nodup):OrdL (ltK kf) zs where
 tot:=fun a ha b hb n=>by
  unfold ltK
  by_cases h:kf a=kf b
  ·rw [if_pos h,if_pos h.symm];exact (Nc nd).tot a ha b hb n
  ·rw [if_neg h,if_neg (cz h)]
   by_cases c:kf a<kf b
   ·rw [decide_eq_true c,decide_eq_false (by omega)];rfl
   ·rw [decide_eq_false c,decide_eq_true (by omega)];rfl
 tr:=fun a ha b hb c hc h1 h2=>by
  unfold ltK at *
  by_cases e1:kf a=kf b
  ·rw [if_pos e1] at h1
   by_cases e2:kf b=kf c
   ·rw [if_pos e2] at h2
    rw [if_pos (e1.trans e2)]
    exact (Nc nd).tr a ha b hb c hc h1 h2
   ·rw [if_neg e2] at h2
    rw [e1,if_neg e2]
    exact h2
  ·rw [if_neg e1] at h1
   have h1:=of_decide_eq_true h1
   by_cases e2:kf b=kf c
   ·rw [<- e2,if_neg e1]
    exact decide_eq_true h1
   ·rw [if_neg e2] at h2
    have h2:=of_decide_eq_true h2
    rw [if_neg (by omega)]
    exact decide_eq_true (by omega)
 nd:=nd
section
variable {X:Cx} {pins:List (Addr×Obj)} {σ:St} {H:Hp} {s:ah}
theorem Inv.adopt {a d:Addr} {o:HO} {h':Heap} (I:Inv X pins σ H s) (fa:Ct X pins H a) (fd:Ct X pins H d) (k:∀ b u,b≠a->b≠d->s.heap.get? b=some u->h'.get? b=some u) (new:ObjOk X.prog X.w (upd H a o) h' a o):Inv X pins σ (upd H a o) { s with heap:=h' }:=by
 have nit:∀ b u,H b=some u->b≠a/\b≠d:=fun b u e=>⟨Be e fa.1,Be e fd.1⟩
 have nc:∀ {b:Addr},b∉[a,d]->b≠a/\b≠d:=fun h=>by simpa using h
 refine I.step (g':=s.gens) (d':=s.drawn) (t':=s.toks) (ch:=[a,d]) (fun b hb=>?_) (fun b u _ _ hc e _=>k b u (nc hc).1 (nc hc).2 e) (fun b u _ _ hc e _=>⟨u.slots,k b u (nc hc).1 (nc hc).2 e⟩) (fun b u hc e n=>by rw [Ak (nc hc).1];exact n)
  (fun b u hc e=>⟨u,k b u (nc hc).1 (nc hc).2 e⟩) (fun b xs q=>by rw [Ak (nit b _ q).1];exact q) (fun b u v q=>by rw [Ak (nit b _ q).1];exact q) (fun b ps q=>⟨#[],by rw [Ak (nit b _ q).1,q];simp⟩) (fun m hm=>?_) (fun b u e=>?_) I.bare
 ·rcases List.mem_cons.mp hb with rfl|hb
  ·exact⟨fa.2.2.2.1,fa.2.1,fa.2.2.2.2.1,fa.2.2.2.2.2⟩
  ·have e:b=d:=by simpa using hb
   subst e
   exact⟨fd.2.2.2.1,fd.2.1,fd.2.2.2.2.1,fd.2.2.2.2.2⟩
 ·obtain⟨u,es,ep,ho,r⟩:=hm
  exact⟨u,es,ep,k _ u (cz fa.2.1) (cz fd.2.1) ho,r⟩
 ·by_cases hb:b=a
  ·subst hb;rw [Ad] at e;cases e;exact new
  ·rw [Ak hb] at e
   refine (I.hok b u e).stay (fun c v hc q=>?_) (fun c q=>by rw [Ak (nit c _ q).1];exact q) fun c xs q=>by rw [Ak (nit c _ q).1];exact q
   rcases hc with z|z
   ·rw [z] at q ⊢;exact k _ v (nit b u e).1 (nit b u e).2 q
   ·exact k c v (nit c _ z).1 (nit c _ z).2 q
theorem Wt {A:a_} {E:Value->ah->Prop} {m:Str} {g a C dx:Addr} {fs:List (Str×V)} {expr:Bool} {Q:Value->ah->Prop} (I:Inv X pins σ H s) (e:H a=some (.ins C dx fs)) (c:Cls X.K C) (k:A2 X.K C m g) (sg:b6 X.K (.ref g) "__get__" = some (some (.builtin "function.__get__"))) (tk:cO X.K (.ref g)=some false) (cn:PySem.W.copiedNames.contains m=false) (l:fs.lookup m=none)
  (h:∀ s',s'.heap.get? s.heap.objs.size=some (bZ (.ref g) (.ref a))->s.heap.objs.size<s'.heap.objs.size->Inv X pins σ H s'->Q (.ref s.heap.objs.size) s'):aJ (model X.prog X.w) A (i7 (.ref a) m expr) Q E s:=by
 obtain⟨mA,O,r,_,_,_⟩:=Fz I.hok e
 have hn:mA m=none:=RelO.none_of (by rw [<- l];exact r m)
 obtain⟨od,J,hl⟩:=O.look
 refine PySem.W.get_bind I.kIn J (dF (c.get m)).1 (PySem.W.findObj_fn c.hd k.at_ sg tk cn (by rw [hl,hn])) (dF (c.get m)).2 (dm (PySem.W.fn_get (s:={ s with toks:=s.toks+1 }) I.kIn (beq_iff_eq.mp k.fn) ?_))
 exact PySem.W.handed_on rfl (h _ (aF _ rfl) (by show _<(s.heap.push _).objs.size;rw [iE];exact cG _) (I.kept (t':=s.toks+1) fun b o e=>ag _ e))
theorem av2 {m:Str} {mi:MI} (K:ao4 X m mi) {bm a:Addr} {u:Value} {z:Str} {Q:VK} (I:Inv X pins σ H s) (hb:s.heap.get? bm=some (bZ (.ref mi.i.f) (.ref a))) (ru:RelV (.str z) u) (h:mi.i.sp [.ref a,.str z] H Q (fun v _ _=>∃ a,v=az a/\False)) :
  aJ (model X.prog X.w) X.A.in1.in1 (call (.ref bm) [u]) (EP X pins σ Q) (fun _ _=>False) s:=by
 obtain⟨CX,hx,FO⟩:=K.fi.ok
 have r2:Vals [.ref a,.str z] [az a,u]:=.cons rfl (.cons ru .nil)
 have hl:([az a,u]++[]).length=mi.i.ps.length:=FO.len _ _ _ _ h
 have hd:=K.fi.binds mi.i.dfs.length (ac _)
 rw [List.drop_of_length_le (by rw [K.fi.vals.length];exact ac _)] at hd
 have hb2:=hd s [az a,u] I.kIn hl
 rw [cb] at hb2
 refine dm (ks_codeAny_call_bound hb (eU (FO.run X.A.in1.in1 X.stack s H ⟨[az a,u],[]⟩ [az a,u] _ Q _ K.room.in1.in1 I.env0.in1.in1 hb2 r2 h) fun r s' hq=>?_))
 cases r with
 | error e=>
  have o:=I.ok
  have I':Inv { X with xe:=fun _ _=>False } pins σ H s:=⟨⟨o.mod,o.kind,o.glob,o.blt,o.above,o.inj,o.has,o.cab,o.hd,o.frames,o.stk,o.exf,o.bs,o.bsz,o.noex,o.exfs,o.funs,o.frf,o.tk⟩,I.os,I.bare,I.base,I.loc,I.cell,I.free,I.freeC,I.pin,I.hok,I.len⟩
  exact hx { X with xe:=fun _ _=>False } rfl rfl (fun _ _ _=>False) (fun _ _ _ _ _ _ _ z=>z.elim) pins σ H s e s' I' hq
 | ok fl=>
  cases fl with
  | ret u=>exact I.after hq
  | next=>exact bY hq
  | brk=>exact bY hq
  | cont=>exact bY hq
noncomputable def Xw (kf:Str->Int) (H:Hp) (zs:List Str) (ks:List Value):Prop:=∀ (i:Nat) k z,ks[i]? = some k->zs[i]? = some z -> ∃ q,k=.ref q/\H q=some (.tup [.int (kf z),.str z])
theorem Qn (I:Inv X pins σ H s) {kf:Str->Int}:∀ {zs:List Str} {ks:List Value},ks.length=zs.length->Xw kf H zs ks -> ∃ fs,il s.heap ks fs/\fs.length=zs.length /\ ∀ v∈fs,∃ i t,v=.int i t
 | [],[],_,_=>⟨[],PySem.W.KatTups.nil,rfl,fun v hv=>by cases hv⟩
 | [],_::_,h,_=>by simp at h
 | _::_,[],h,_=>by simp at h
 | z::zs,k::ks,h,ka=>by
  obtain⟨fs,kt,hl,hi⟩:=Qn I (zs:=zs) (ks:=ks) (by simpa using h) fun i k' z' h1 h2=>ka (i+1) k' z' h1 h2
  obtain⟨q,rfl,hq⟩:=ka 0 k z rfl rfl
  obtain⟨its,ri,⟨o,e,c,n,dd⟩,_⟩:=I.tuple (SqT.of hq)
  cases ri with
  | cons ra rr=>
   obtain⟨t,rfl⟩:=ra
   exact⟨_::fs,PySem.W.KatTups.cons e c dd rfl kt,by rw [aE,aE,hl],fun v hv=>(List.mem_cons.mp hv).elim (fun z=>⟨_,_,z⟩) (hi v)⟩
theorem bc1 (I:Inv X pins σ H s) {A:a_} {kf:Str->Int} {q1 q2:Addr} {z1 z2:Str} {C:Bool->ah->Prop} {E:Value->ah->Prop} (h1:H q1=some (.tup [.int (kf z1),.str z1])) (h2:H q2=some (.tup [.int (kf z2),.str z2])) (hC:C (ltK kf z1 z2) s) :
  aJ (model X.prog X.w) A (keyLt' (tuples' true) (.ref q1) (.ref q2)) C E s:=by
 obtain⟨i1,r1,⟨o1,e1,c1,m1,d1⟩,_⟩:=I.tuple (SqT.of h1)
 obtain⟨i2,r2,⟨o2,e2,c2,m2,d2⟩,_⟩:=I.tuple (SqT.of h2)
 obtain⟨u1,v1,rfl,⟨tk1,rfl⟩,⟨tv1,rfl⟩⟩:=r1.two
 obtain⟨u2,v2,rfl,⟨tk2,rfl⟩,⟨tv2,rfl⟩⟩:=r2.two
 refine PySem.W.kat_lt e1 d1 e2 d2 ?_
 refine PySem.W.kat_cons (wpAny_eqBool_int ?_)
 unfold ltK at hC
 refine PySem.W.kat_go (fun e=>?_) (fun e=>?_)
 ·have e:kf z1=kf z2:=by simpa using e
  rw [if_pos e] at hC
  refine PySem.W.kat_yes (PySem.W.kat_cons (wpAny_eqBool_str ?_))
  refine PySem.W.kat_go (fun e=>?_) (fun e=>?_)
  ·have e:z1=z2:=by simpa using e
   subst e
   have:ltS z1 z1=false:=by unfold ltS;exact decide_eq_false (List.lt_irrefl _)
   rw [this] at hC
   exact PySem.W.kat_yes (PySem.W.kat_nil hC)
  ·exact PySem.W.kat_no (PySem.W.kat_one _ _ (lt_str (Q:=PySem.W.BoolBack C) hC))
 ·have e:¬ kf z1=kf z2:=by simpa using e
  rw [if_neg e] at hC
  exact PySem.W.kat_no (oneLt_int hC)
theorem aw1 (hc:X.calm=true) {m:Str} {mi:MI} (K:ao4 X m mi) {bm a p:Addr} {zs:List Str} {kf:Str->Int} {Q:VK} (I:Inv X pins σ H s) (hbm:s.heap.get? bm=some (bZ (.ref mi.i.f) (.ref a))) (fb:Ct X pins H bm)
  (hp:SqL X.K H p (zs.map V.str) \/ ∃ kvs,Rd H p (.dK kvs)/\kvs.map (·.1)=zs.map dO) (nd:zs.Nodup) (h64:zs.length<64)
  (hk:∀ z∈zs,∀ H3,Same H H3->mi.i.sp [.ref a,.str z] H3 (fun v H4=>∃ q,v=.ref q/\Same H3 H4/\H4 q=some (.tup [.int (kf z),.str z])) (fun v _ _=>∃ a,v=az a/\False))
  (q:∀ H3 D,Same H H3->H D=none->H3 D=some (.lst ((Cy (ltK kf) zs).map V.str))->Q (.ref D) H3) :
  aJ (model X.prog X.w) X.A (call (.builtin "sorted") [.ref p] [("key", .ref bm)]) (EP X pins σ Q) X.xe s:=by
 refine PySem.W.sk_sorted (OKQ:=fun us h' tk=>(∀ b o,s.heap.get? b=some o->h'.get? b=some o)/\s.heap.objs.size<=h'.objs.size/\s.toks<=tk/\Vals (zs.map V.str) us) (fun R hR=>?_) fun us h' tk ⟨keep,hD,htk,rv⟩=>?_
 ·rcases hp with hp|⟨kvs,hp,ek⟩
  ·obtain⟨its,ri,pl,hz⟩:=I.list hp
   refine collect_list pl.isList (hR _ _ s.toks ⟨fun b o e=>?_,?_,ac _,ri⟩) (by have:=ri.length;rw [aj] at this;rw [bj];omega)
   ·have hlt:b<s.heap.objs.size:=aC e
    rw [iR _ _ _ _ (aQ hlt)]
    exact ag _ e
   ·rw [g7,iE]
    exact cN _
  ·obtain⟨z,lo,vs,rel,dof⟩:=D2 I.hok hp
   obtain⟨ep,dat⟩:=dof.dictAt
   refine bt (ac _) (PySem.W.collect_src (PySem.W.kdl_dict lo) (by simp [I.ok.hd hc]) dat (by rw [<- rel.length];exact z) fun h' tk us hk hs hl hi htk=>?_)
   refine hR us h' tk ⟨hk,fC hs,htk,?_⟩
   have v:=L7 rel hl hi
   have e:(kvs.map fun kv=>kV kv.1)=zs.map V.str:=by
    have:=congrArg (gQ kV) ek
    rw [cq,cq] at this
    exact this
   rwa [e] at v
 ·have hl:us.length=zs.length:=by have:=rv.length;simpa using this.symm
  refine⟨by omega,fun D e1 kS h2 hD2 hDk gD gk k=>?_⟩
  have lD:s.heap.objs.size<=D:=aR hD hD2
  have lk:s.heap.objs.size<=kS:=aR lD (fC hDk)
  have lb:bm<s.heap.objs.size:=aC hbm
  have I2:Inv X pins σ H { s with heap:=h2,toks:=tk }:=I.kept (t':=tk) fun b o e=>k b o (keep b o e)
  have nD:∀ p∈X.pn++pins,p.1≠D:=(I.fpOk lD (I.hok.fresh lD)).2.2.2.2.2
  have fD:∀ {H':Hp},H' D=none->Ct X pins H' D:=fun hn=>I.fpOk lD hn
  have fk:∀ {H':Hp},H' kS=none->Ct X (pins++[(bm,bZ (.ref mi.i.f) (.ref a)),(D,a0 "list" #[] e1)]) H' kS:=fun hn=>by
   obtain⟨a1,a2,a3,a4,a5,a6⟩:=I.fpOk (H':=H) lk (I.hok.fresh lk)
   refine⟨hn,a2,a3,a4,a5,fun p hp=>?_⟩
   rw [<- cK] at hp
   rcases List.mem_append.mp hp with hp|hp
   ·exact a6 p hp
   ·simp only [av,aO,or_false] at hp
    rcases hp with rfl|rfl
    ·exact aQ (aI lb lk)
    ·exact aQ hDk
  refine⟨fun ks s'=>∃ H',Inv X (pins++[(bm,bZ (.ref mi.i.f) (.ref a)),(D,a0 "list" #[] e1)]) σ H' s'/\Same H H'/\H' kS=none/\Xw kf H' zs ks,⟨H,?_,Same.refl _,I.hok.fresh lk,fun i k z h=>by simp at h⟩,?_,?_⟩
  ·refine I2.pins_of fun p hp=>?_
   rcases List.mem_append.mp hp with hp|hp
   ·exact I2.pin p (aU _ hp)
   ·simp only [av,aO,or_false] at hp
    rcases hp with rfl|rfl
    ·exact⟨k _ _ (keep _ _ hbm),fb.1,fb.2.1,fb.2.2.1,fun v z=>by cases z⟩
    ·have f:=fD (I.hok.fresh lD)
     exact⟨gD,f.1,f.2.1,f.2.2.1,fun v z=>by cases z⟩
  ·intro j x ks e s' hx hlk hks ⟨H',I',S,hn,ka⟩
   have hj:j<us.length:=(List.getElem?_eq_some_iff.mp hx).1
   obtain⟨u,hu,ru⟩:=rv.get (i:=j) (x:=.str (zs[j]'(by omega))) (by rw [aP,au (by omega)];rfl)
   rw [hx] at hu
   cases hu
   have I1:Inv X ((pins++[(bm,bZ (.ref mi.i.f) (.ref a)),(D,a0 "list" #[] e1)])++[(kS,a0 "list" ks.toArray e)]) σ H' s':=I'.pins_of fun p hp=>by
    rcases List.mem_append.mp hp with hp|hp
    ·exact I'.pin p (aU _ hp)
    ·have e:p=(kS,a0 "list" ks.toArray e):=by simpa using hp
     subst e
     have f:=fk hn
     exact⟨hks,f.1,f.2.1,f.2.2.1,fun v z=>by cases z⟩
   have hb1:=(I'.pin (bm,bZ (.ref mi.i.f) (.ref a)) (by simp)).1
   refine bG (av2 K I1 hb1 ru (hk _ (dI _) H' S)) (fun k s'' hq=>?_) fun _ _ z=>z
   obtain⟨v,H'',I'',rk,q,rfl,S2,hq⟩:=hq
   cases rk
   have pk:=I''.pin (kS,a0 "list" ks.toArray e) (by simp)
   refine⟨pk.1,fun h3 c g sb=>⟨H'',?_,S.trans S2,pk.2.1,fun i k' z h1 h2=>?_⟩⟩
   ·have f:=fk pk.2.1
    exact (I''.unpinned).turned (t':=s''.toks) (fun b o nb e=>(sb.2 b nb).trans e) f.1 f.2.1 f.2.2.2.1 f.2.2.2.2.1 f.2.2.2.2.2
   ·by_cases hi:i<ks.length
    ·rw [c6 hi] at h1
     obtain⟨q',e',h'⟩:=ka i k' z h1 h2
     exact⟨q',e',S2 _ _ h'⟩
    ·have hi2:i<(ks++[az q]).length:=(List.getElem?_eq_some_iff.mp h1).1
     rw [ay,cy] at hi2
     have ei:i=j:=by omega
     subst ei
     rw [cr (by omega),show i - ks.length=0 by omega] at h1
     cases h1
     rw [au (by omega)] at h2
     cases h2
     exact⟨q,rfl,hq⟩
  ·intro ks e s' hlk hks ⟨H',I',S,hn,ka⟩
   have hlz:ks.length=zs.length:=by omega
   have pD:=I'.pin (D,a0 "list" #[] e1) (by simp)
   have Iu:=I'.unpinned
   have fk':Ct X pins H' kS:=by
    have f:=fk hn
    exact⟨f.1,f.2.1,f.2.2.1,f.2.2.2.1,f.2.2.2.2.1,fun p hp=>f.2.2.2.2.2 p (by rw [<- cK];exact cm _ hp)⟩
   have fin:∀ out:List Value,Vals ((Cy (ltK kf) zs).map V.str) out->PySem.W.SkFin D kS e e1 ks out (fun s3=>EP X pins σ Q (.ref D) s3) s':=fun out ro=>by
    refine⟨pD.1,hks,fun h4 c g sm=>?_⟩
    refine⟨.ref D,upd H' D (.lst ((Cy (ltK kf) zs).map V.str)),Iu.adopt (fD pD.2.1) fk' (fun b u b1 b2 e=>(sm b b1 b2).trans e) ⟨?_,out,c,ro,g⟩,rfl,q _ D (fun b o e=>?_) (I.hok.fresh lD) Ad⟩
    ·rw [aj,(Bn _ zs).length_eq,bj];omega
    ·rw [Ak (Be (S b o e) pD.2.1)]
     exact S b o e
   refine⟨fun h2=>fin us ?_,fun h2=>?_⟩
   ·rw [aw0 (by omega)]
    exact rv
   ·obtain⟨fs,kt,kl,ki⟩:=Qn I' hlz ka
    refine PySem.W.kat_kind (T:=.type "int") kt (by omega) (fun v hv=>by obtain⟨i,t,rfl⟩:=ki v hv;exact .now) rfl ?_
    obtain⟨pp,h1,h3,h4,h5⟩:=Ml (lt:=ltK kf) (zs:=zs) ck (aq9 nd) (by omega)
    refine PySem.W.kRun_wp (n:=us.length) (lt:=fun i j=>ltK kf (zs.getD i ck) (zs.getD j ck)) (a:=pp) (fun i j C hi hj hC=>?_) (by rw [hl];exact h1) (fin _ ?_)
    ·unfold PySem.W.kas_ask
     have at_:∀ {i:Nat},i<us.length -> ∃ q,ks.getD i ba=.ref q/\H' q=some (.tup [.int (kf (zs.getD i ck)),.str (zs.getD i ck)]):=fun {i} hi=>by
      obtain⟨q,e,h⟩:=ka i (ks[i]'(by omega)) (zs[i]'(by omega)) (au _) (au _)
      refine⟨q,?_,?_⟩
      ·rw [aA,au (by omega)];exact e
      ·rw [aA,au (by omega)];exact h
     obtain⟨q1,e1,t1⟩:=at_ hi
     obtain⟨q2,e2,t2⟩:=at_ hj
     rw [e1,e2]
     exact bc1 I' t1 t2 hC
    ·have v:=G7 rv pp.toList (fun i hi=>by rw [hl];exact h4 i hi)
     have e:(pp.toList.map fun i=>(zs.map V.str).getD i .non)=(Cy (ltK kf) zs).map V.str:=by
      rw [<- h5,cq]
      refine eM fun i hi=>?_
      have:=h4 i hi
      rw [aA,aP,au this]
      show V.str zs[i]=V.str (zs.getD i ck)
      rw [aA,au this]
      rfl
     rwa [e] at v
end
end L2
set_option maxHeartbeats 4000000
namespace PySem
section
variable {prog:aH} {w:bh} {K:Type} [DecidableEq K] {knd:HeapKind prog w K} {A:a_} {E:Value->ah->Prop} {s:ah}
theorem Da {d a:Addr} {xs:List (K×Addr×Value)} {k:K} {v:Value} {Q:Value->ah->Prop} (hu:knd.room A) (hkey:knd.is s.heap k a) (hm:s.heap.DictOfH knd d xs)
  (h1:∀ p,jI xs k=some p->Q p.2 { s with toks:=s.toks+knd.draws k })
  (h2:jI xs k=none -> ∀ h',h'.DictOfH knd d (storedH xs k a v)->bA d s.heap h'->Q v { s with heap:=h',toks:=s.toks+knd.draws k })
  (hsz:xs.length<=sizeLine):aJ (model prog w) A (iN d (.ref a) v) Q E s:=by
 obtain⟨o,es,ep,ho,hc,hd,he,his,hn⟩:=hm
 unfold iN
 try with_reducible refine bq ?_
 refine af (knd.pyHash hu hkey ?_)
 refine af (wpAny_dictFind_heap (s:={ s with toks:=s.toks+knd.draws k }) hu hkey ho hd he his hn ?_ ?_)
 ·intro hno
  have hnot:k∉xs.map (·.1):=not_mem_keys_of_get hno
  refine af (ju (af (wpAny_updateDictKeys (hz:=by have e:=size_of_entries he;omega) (s:={ s with toks:=s.toks+knd.draws k }) ho hd (ar (h2 (fv hno) _ ⟨_,_,ep+1,bM _ ho (Obj.isFreed_of_dict (iG hd _)),
   hc.mapDictKeys _,iG hd _,?_,?_,?_⟩ (bE ..))))))
  ·rw [jV (fv hno)]
   simp [he,entryOfKey]
  ·rw [jV (fv hno)]
   intro x hx
   rcases List.mem_append.mp hx with hx|hx
   ·exact knd.keeps (his x hx) ho hd (bE ..)
   ·simp only [bL] at hx
    subst hx
    exact knd.keeps hkey ho hd (bE ..)
  ·rw [jV (fv hno)]
   rw [bw,d8]
   refine⟨hn,by simp,?_⟩
   intro x hx y hy
   simp only [aM,fB,bL] at hy
   subst hy
   exact fun e=>hnot (e▸hx)
 ·intro j p hj
  refine af (wpAny_dictEntries (s:={ s with toks:=s.toks+knd.draws k }) ho hd ?_)
  rw [entry_at he j,hj]
  exact af (ju (ar (h1 p (atKey_of_get hn hj))))
theorem F8 (knd:HeapKind prog w K) (d a:Addr) (hd:(d==cE)=false) (dflt:Value) :
  MeetsIn prog w (bg.«dict.setdefault» ⟨[.ref d,.ref a,dflt],[]⟩) (fun A R s=>knd.room A.in1 /\ ∃ k xs,knd.is s.heap k a/\s.heap.DictOfH knd d xs/\xs.length<=sizeLine /\
   (∀ p,jI xs k=some p->R (.ok (.ret p.2)) { s with toks:=s.toks+knd.draws k }) /\
   (jI xs k=none -> ∀ h',h'.DictOfH knd d (storedH xs k a dflt)->bA d s.heap h'->R (.ok (.ret dflt)) { s with heap:=h',toks:=s.toks+knd.draws k })):=
 .of_wp fun A R s ⟨hu,k,xs,hkey,hm,hz,h1,h2⟩=>by
  unfold bg.«dict.setdefault»
  refine af ?_
  unfold Builtin.Dict.keyAndDefault
  refine af (wpAny_notOrdered_dict hm.typeIs ?_)
  show aJ _ _ (pure (d,az a,some dflt)) _ _ s
  refine ar ?_
  show aJ _ _ (if (d==cE)=true then _ else (iN d (.ref a) dflt >>= _)) _ _ s
  rw [if_neg (by rw [hd];exact ak)]
  exact af (Da hu hkey hm (fun p hp=>ar ⟨_,rfl,h1 p hp⟩) (fun hn h' hm' hs'=>ar ⟨dflt,rfl,h2 hn h' hm' hs'⟩) hz)
end
end PySem
namespace L2
open PySem PySem.Spec PyProof.Rows
noncomputable def Vy:V->List V->Hp->VK->Prop:=fun x xs H Q=>∃ p b kvs ks v,x=.ref p/\xs=[.ref b,v]/\H p=some (.dT kvs)/\H b=some (.tup (gQ kV ks))/\kvs.length<sizeLine/\(match A9 kvs ks with
 | some w=>Q w H
 | none=>Q v (upd H p (.dT (C9 kvs ks v))))
theorem W8 {X:Cx} (hu:X.A.units+64<cLine):MtR X "dict.setdefault" Vy:=by
 intro pins s σ H x xs v us Q I rx rs h
 obtain⟨p,b,kvs,ks,y,rfl,rfl,e,eb,hl,q⟩:=h
 cases rx
 obtain⟨u1,u2,rfl,ru,rv⟩:=rs.two
 cases ru
 obtain⟨z,hd,ms,rel,dd⟩:=ax3 I.hok e
 have hz:ms.length<=sizeLine:=by rw [<- fO rel];exact z
 have hv:=rel.val ks
 refine eT dR dd.typeIs fI (fG _ _ _) (F8 (f9 (As X.prog X.w)) p b hd u2) ⟨cF (by omega),ks,ms,Eh I.hok eb,dd,hz,fun r hr=>?_,fun hr h' dd' hs=>?_⟩
 ·rw [hr] at hv
  cases e2:A9 kvs ks with
  | none=>rw [e2] at hv;cases hv
  | some w=>rw [e2] at hv q;exact⟨w,H,I.tok _,hv,q⟩
 ·rw [hr] at hv
  cases e2:A9 kvs ks with
  | some w=>rw [e2] at hv;cases hv
  | none=>
   rw [e2] at q
   have hl2:(C9 kvs ks y).length<=sizeLine:=by have:=Co kvs ks y;omega
   refine⟨y,_,?_,rv,q⟩
   obtain⟨q,es,ep,hq,h2,h3,h4,_,h5⟩:=dd'
   refine Fp I (by rw [e];exact bv) hs ⟨q,hq⟩ ⟨hl2,hd,_,(rel.put ks eb rv).keeps fun c ys ec=>?_,q,es,ep,hq,h2,h3,h4,h5⟩
   rw [Ak (a15 ec e (fun z=>nomatch z))]
   exact ec
noncomputable abbrev RF:=List V->Hp->VK->Prop
noncomputable def Ly (x:V) (T:String):Bool:=match x with
 | .int _=>T == "int"
 | .bl _=>T == "bool" || T == "int"
 | .str _=>T == "str"
 | _=>false
noncomputable def okT (T:String):Bool:=["int", "bool", "str", "list", "tuple", "dict"].contains T
noncomputable def Dq (K:aa):RF:=fun xs H Q=>match xs with
 | [.int i,.ty T]=>okT T=true/\Q (.bl (Ly (.int i) T)) H
 | [.bl i,.ty T]=>okT T=true/\Q (.bl (Ly (.bl i) T)) H
 | [.str i,.ty T]=>okT T=true/\Q (.bl (Ly (.str i) T)) H
 | [.non,.ty T]=>okT T=true/\Q (.bl (Ly .non T)) H
 | [x,.ty T]=>∃ t b,TyX K H x t/\cj K t (.type T)=some b/\Q (.bl b) H
 | [x,.ref C]=>(∃ t b,TyX K H x t/\cj K t (.ref C)=some b/\Q (.bl b) H)\/a24 K x (.ref C) H Q
 | _=>False
noncomputable def Q3 (K:aa):RF:=fun xs H Q=>match xs with
 | [.str z]=>z.length<=sizeLine/\Q (.int z.length) H
 | [.ref p]=>(∃ ys,(SqL K H p ys\/SqT K H p ys)/\Q (.int ys.length) H) \/ ∃ kvs,Rd H p (.dK kvs)/\Q (.int kvs.length) H
 | _=>False
noncomputable def Nt (K:aa):RF:=fun xs H Q=>match xs with
 | [.ref p]=>∃ bs:List Bool,SqL K H p (bs.map V.bl)/\Q (.bl (bs.all fun b=>b)) H
 | _=>False
noncomputable def au8:RF:=fun xs H Q=>match xs with
 | [.str x]=>x.length=1/\Q (.int (x.cps.getD 0 0:Nat)) H
 | _=>False
noncomputable def Sm (K:aa) (calm:Bool):RF:=fun xs H Q=>False\/(calm=true/\aj5 K xs H Q)
inductive BF where
 | bf (id:String)|ty (T:String)
noncomputable def a93 (K:aa) (calm:Bool) (x:Str):Option (BF×RF):=
 if x = "len" then some (.bf "len", Q3 K) else
 if x = "isinstance" then some (.bf "isinstance", Dq K) else
 if x = "all" then (if calm=true then some (.bf "all", Nt K) else none) else
 if x = "ord" then some (.bf "ord", au8) else
 if x = "sorted" then some (.bf "sorted", Sm K calm) else none
noncomputable def BF.val:BF->Value
 | .bf id=>.builtin id
 | .ty T=>.type T
section
variable {X:Cx}
theorem R0 {K:aa} {x:V} {T:String} (hx:Bj x=true) (h:okT T=true):∃ t,(∀ H,TyOf K H x t)/\cj K t (.type T)=some (Ly x T):=by
 have hT:T = "int" \/ T = "bool" \/ T = "str" \/ T = "list" \/ T = "tuple" \/ T = "dict" := by
  unfold okT at h
  simpa using h
 cases x with
 | int i=>refine⟨_,fun H=>TyOf.int i,?_⟩;rcases hT with rfl|rfl|rfl|rfl|rfl|rfl <;> rfl
 | bl i=>refine⟨_,fun H=>TyOf.bl i,?_⟩;rcases hT with rfl|rfl|rfl|rfl|rfl|rfl <;> rfl
 | str i=>refine⟨_,fun H=>TyOf.str i,?_⟩;rcases hT with rfl|rfl|rfl|rfl|rfl|rfl <;> rfl
 | non=>refine⟨_,fun H=>TyOf.non,?_⟩;rcases hT with rfl|rfl|rfl|rfl|rfl|rfl <;> rfl
 | _=>cases hx
theorem aa3:Db X (.builtin "isinstance") (Dq X.K):=by
 intro pins s σ H xs us Q I r h
 have sc:∀ x T,xs=[x,.ty T]->Bj x=true->okT T=true->Q (.bl (Ly x T)) H->aJ (model X.prog X.w) X.A (call (.builtin "isinstance") us) (EP X pins σ Q) X.xe s:=fun x T e hx hT q=>by
  subst e
  obtain⟨t,ht,hk⟩:=R0 (K:=X.K) hx hT
  exact aa2 pins s σ H _ us Q I r ⟨x,T,t,_,rfl,ht H,hk,q⟩
 unfold Dq at h
 split at h
 ·exact sc _ _ rfl rfl h.1 h.2
 ·exact sc _ _ rfl rfl h.1 h.2
 ·exact sc _ _ rfl rfl h.1 h.2
 ·exact sc _ _ rfl rfl h.1 h.2
 ·obtain⟨t,b,ty,e,q⟩:=h
  obtain⟨u,v,rfl,ru,rv⟩:=r.two
  cases rv
  exact bt (ac _) (Iy I ru ty e fun tk htk=>⟨.bl b,H,I.tok tk htk,rfl,q⟩)
 ·obtain⟨u,v,rfl,ru,rv⟩:=r.two
  rcases h with ⟨t,b,ty,e,q⟩|h
  ·cases rv
   exact bt (ac _) (Iy I ru ty e fun tk htk=>⟨.bl b,H,I.tok tk htk,rfl,q⟩)
  ·exact Wg I ru rv h
 ·exact h.elim
theorem Wh:Db X (.builtin "len") (Q3 X.K):=by
 intro pins s σ H xs us Q I r h
 unfold Q3 at h
 split at h
 ·exact Mv pins s σ H _ us Q I r ⟨_,rfl,h.1,h.2⟩
 ·rcases h with ⟨ys,h1,h2⟩|⟨kvs,h1,h2⟩
  ·exact Mu pins s σ H _ us Q I r ⟨_,ys,rfl,h1,h2⟩
  ·obtain⟨u,rfl,ru⟩:=Hg r
   cases ru
   exact b62 I h1 fun t s' I'=>⟨.int _,H,I',⟨t,rfl⟩,h2⟩
 ·exact h.elim
theorem Wf (hc:X.calm=true):Db X (.builtin "all") (Nt X.K):=by
 intro pins s σ H xs us Q I r h
 unfold Nt at h
 split at h
 ·obtain⟨bs,h1,h2⟩:=h
  exact aa1 hc pins s σ H _ us Q I r ⟨_,bs,rfl,h1,h2⟩
 ·exact h.elim
theorem Wi:Db X (.builtin "ord") au8:=by
 intro pins s σ H xs us Q I r h
 unfold au8 at h
 split at h
 ·exact aa4 pins s σ H _ us Q I r ⟨_,rfl,h.1,h.2⟩
 ·exact h.elim
theorem ao9 (hu:X.A.units+64<cLine) {x:Str} {f:BF} {r:RF} {c:Bool} (h:a93 X.K c x=some (f,r)) (hc:c=X.calm):cA x=some f.val/\Db X f.val r:=by
 unfold a93 at h
 by_cases e:x = "len"
 ·rw [if_pos e] at h;cases h;rw [e];exact⟨PySem.boot_len,Wh⟩
 rw [if_neg e] at h
 by_cases e:x = "isinstance"
 ·rw [if_pos e] at h;cases h;rw [e];exact⟨PyProof.Rows.boot_isinstance,aa3⟩
 rw [if_neg e] at h
 by_cases e:x = "all"
 ·rw [if_pos e] at h
  by_cases ec:c=true
  ·rw [if_pos ec] at h;cases h;rw [e];exact⟨PyProof.Rows.boot_all,Wf (hc▸ec)⟩
  ·rw [if_neg ec] at h;cases h
 rw [if_neg e] at h
 by_cases e:x = "ord"
 ·rw [if_pos e] at h;cases h;rw [e];exact⟨PyProof.Rows.boot_ord,Wi⟩
 rw [if_neg e] at h
 by_cases e:x = "sorted"
 ·rw [if_pos e] at h;cases h;rw [e];exact⟨G8,fun pins s σ H xs us Q I r h=>h.elim bY fun z=>Rl (hc▸z.1) pins s σ H xs us Q I r z.2⟩
 rw [if_neg e] at h
 cases h
noncomputable abbrev RM:=V->List V->Hp->VK->Prop
structure BM where
 T:String
 id:String
 r:RM
noncomputable def rMt (K:aa) (bs:List BM):V->Hp->(Hp->(List V->Hp->Prop)->Prop)->VK->Prop:=fun x H1 ta Q=>
 match bs with
 | []=>False
 | [b]=>tyV K b.T x H1/\ta H1 fun xs H2=>b.r x xs H2 Q
 | b::rest=>(tyV K b.T x H1/\ta H1 fun xs H2=>b.r x xs H2 Q)\/rMt K rest x H1 ta Q
structure a57 (X:Cx) (m:Str) (b:BM):Prop where
 pa:PlainAttrs b.T
 slot:Slot b.T m b.id
 ty:typeOf (.builtin b.id)=pure (.type "method_descriptor")
 mt:MtR X b.id b.r
noncomputable def aj2 (K:aa):RM:=fun x xs H Q=>∃ z p ys,x=.str z/\xs=[.ref p]/\SqL K H p (ys.map V.str)/\(ys.map (·.length)).sum+ys.length * z.length<=16777216/\Q (.str (Txt.join z ys)) H
noncomputable def Mf:RM:=fun x xs H Q=>match x,xs with
 | .ref a,[y]=>∃ o,D9 H a y o/\Q (o.getD .non) H
 | .ref a,[y,z]=>∃ o,D9 H a y o/\Q (o.getD z) H
 | _,_=>False
theorem ar0 (hu:X.A.units+64<cLine):MtR X "dict.get" Mf:=by
 intro pins s σ H x xs v us Q I rx rs h
 unfold Mf at h
 split at h
 ·obtain⟨o,g,q⟩:=h
  obtain⟨u,rfl,ru⟩:=rs.one
  cases rx
  exact a97 (by omega) I g ru fun w' s' I' r'=>⟨_,H,I',r',q⟩
 ·obtain⟨o,g,q⟩:=h
  obtain⟨u,w,rfl,ru,rw'⟩:=rs.two
  cases rx
  exact a98 (by omega) I g ru rw' fun w' s' I' r'=>⟨_,H,I',r',q⟩
 ·exact h.elim
noncomputable def Vx:RM:=fun x vs H Q=>cd1 x vs H Q\/aj3 x vs H Q
noncomputable def Mg:RM:=fun x xs H Q=>∃ p k v kvs,x=.ref p/\xs=[kV k]/\H p=some (.dK kvs)/\A9 kvs k=some v/\Q v (upd H p (.dK (Ha kvs k)))
theorem ar1:MtR X "dict.pop" Mg:=by
 intro pins s σ H x xs v us Q I rx rs h
 obtain⟨p,k,y,kvs,rfl,rfl,e,l,q⟩:=h
 obtain⟨u,rfl,ru⟩:=rs.one
 cases rx
 exact b63 I e ru l (.inl rfl) fun w' s' I' r'=>⟨y,_,I',r',q⟩
noncomputable def aj4:RM:=fun x xs H Q=>∃ p k v kvs,x=.ref p/\xs=[kV k,v]/\H p=some (.dK kvs)/\kvs.length<sizeLine/\(match A9 kvs k with
 | some w=>Q w H
 | none=>Q v (upd H p (.dK (C9 kvs k v))))
theorem af3:MtR X "dict.setdefault" aj4:=by
 intro pins s σ H x xs v us Q I rx rs h
 obtain⟨p,k,y,kvs,rfl,rfl,e,hl,q⟩:=h
 cases rx
 obtain⟨u1,u2,rfl,ru,rv⟩:=rs.two
 obtain⟨z,hd,vs,rel,dd⟩:=ab7 I.hok e
 have hv:=rel.val k
 refine eT dR dd.typeIs fI (fG _ _ _) (kt_meets_setdefault (As X.prog X.w) p (D3 ru) hd u2) ⟨vs,dd,by rw [<- rel.length];exact z,fun r hr=>?_,fun hr h' dd' hs=>?_⟩
 ·rw [hr] at hv
  cases e2:A9 kvs k with
  | none=>rw [e2] at hv;cases hv
  | some w=>rw [e2] at hv q;exact⟨w,H,I.tok _,hv,q⟩
 ·rw [hr] at hv
  cases e2:A9 kvs k with
  | some w=>rw [e2] at hv;cases hv
  | none=>
   rw [e2] at q
   have hl2:(C9 kvs k y).length<=sizeLine:=by have:=Co kvs k y;omega
   have he:∃ q,h'.get? p=some q:=let ⟨q,_,_,hq,_⟩:=dd';⟨q,hq⟩
   exact⟨y,_,Fp I (by rw [e];exact bv) hs he (Ro hl2 hd (rel.put k rv) dd'),rv,q⟩
noncomputable def Jq:RM:=fun x vs H Q=>Vy x vs H Q\/aj4 x vs H Q
noncomputable def mtR (K:aa) (m:Str):List BM:=
 if m = "append" then [⟨"list", "list.append", Cg⟩] else
 if m = "get" then [⟨"dict", "dict.get", Mf⟩] else
 if m = "extend" then [⟨"list", "list.extend", Hz⟩] else
 if m = "join" then [⟨"str", "str.join", aj2 K⟩] else
 if m = "count" then [⟨"list", "list.count", Jo K⟩] else
 if m = "index" then [⟨"list", "list.index", Jp⟩] else
 if m = "setdefault" then [⟨"dict", "dict.setdefault", Jq⟩] else
 if m = "pop" then [⟨"list", "list.pop", Vx⟩,⟨"dict", "dict.pop", Mg⟩] else []
theorem ae9 {m:Str} {b:BM} (hu:X.A.units+64<cLine) (h:b∈mtR X.K m):a57 X m b:=by
 unfold mtR at h
 by_cases e:m = "append"
 ·rw [if_pos e] at h
  have:b=⟨"list", "list.append", Cg⟩:=by simpa using h
  subst this;subst e
  exact⟨cI,PySem.F.slot_list_append,PySem.F.type_list_append,Ma⟩
 rw [if_neg e] at h
 by_cases e:m = "get"
 ·rw [if_pos e] at h
  have:b=⟨"dict", "dict.get", Mf⟩:=by simpa using h
  subst this;subst e
  exact⟨ff,cX,PySem.F.type_dict_get,ar0 hu⟩
 rw [if_neg e] at h
 by_cases e:m = "extend"
 ·rw [if_pos e] at h
  have:b=⟨"list", "list.extend", Hz⟩:=by simpa using h
  subst this;subst e
  exact⟨cI,PySem.F.slot_list_extend,PySem.F.type_list_extend,W7⟩
 rw [if_neg e] at h
 by_cases e:m = "join"
 ·rw [if_pos e] at h
  have:b=⟨"str", "str.join", aj2 X.K⟩:=by simpa using h
  subst this;subst e
  exact⟨PySem.F.plainAttrs_str,PySem.F.slot_str_join,PySem.F.type_str_join,ar2⟩
 rw [if_neg e] at h
 by_cases e:m = "count"
 ·rw [if_pos e] at h
  have:b=⟨"list", "list.count", Jo X.K⟩:=by simpa using h
  subst this;subst e
  exact⟨cI,gT,PySem.F.type_list_count,af0 hu⟩
 rw [if_neg e] at h
 by_cases e:m = "index"
 ·rw [if_pos e] at h
  have:b=⟨"list", "list.index", Jp⟩:=by simpa using h
  subst this;subst e
  exact⟨cI,gU,PySem.F.type_list_index,af1⟩
 rw [if_neg e] at h
 by_cases e:m = "setdefault"
 ·rw [if_pos e] at h
  have:b=⟨"dict", "dict.setdefault", Jq⟩:=by simpa using h
  subst this;subst e
  exact⟨ff,dR,PySem.F.type_dict_setdefault,fun pins s σ H x vs v us Q I rx rv h=>h.elim (W8 hu pins s σ H x vs v us Q I rx rv) (af3 pins s σ H x vs v us Q I rx rv)⟩
 rw [if_neg e] at h
 by_cases e:m = "pop"
 ·rw [if_pos e] at h
  rcases List.mem_cons.mp h with this|h
  rotate_left
  ·have:b=⟨"dict", "dict.pop", Mg⟩:=by simpa using h
   subst this;subst e
   exact⟨ff,ik,PySem.F.type_dict_pop,ar1⟩
  subst this;subst e
  exact⟨cI,PySem.F.slot_list_pop,PySem.F.type_list_pop,fun pins s σ H x vs v us Q I rx rv h=>h.elim (bc6 pins s σ H x vs v us Q I rx rv) (af2 pins s σ H x vs v us Q I rx rv)⟩
 rw [if_neg e] at h
 cases h
theorem Nu {K:aa}:∀ {bs:List BM} {x:V} {H1:Hp} {ta:Hp->(List V->Hp->Prop)->Prop} {Q:VK},rMt K bs x H1 ta Q -> ∃ b∈bs,tyV K b.T x H1/\ta H1 fun xs H2=>b.r x xs H2 Q
 | [],_,_,_,_,h=>h.elim
 | [b],_,_,_,_,h=>⟨b,by simp,h⟩
 | b::c::rest,x,H1,ta,Q,h=>by
  rcases h with h|h
  ·exact⟨b,by simp,h⟩
  ·obtain⟨d,hd,q⟩:=Nu h
   exact⟨d,ax _ hd,q⟩
noncomputable def B0:Expr->Bool
 | .Call (.Name x _) [] [] _=>!(x==("super" : Str))
 | _=>true
theorem C8 {e:Expr} (h:B0 e=true) (f:Str) (env:Env) (whole:Sem Value):gW e f env whole=whole:=by
 unfold gW
 split
 ·rename_i id p pos
  have:(id==("super" : Str))=false:=by
   have h':(!(id==("super" : Str)))=true:=h
   simpa using h'
  have e2:(id != "super")=true:=by
   show (!(id == "super"))=true
   rw [this]
   rfl
  rw [e2]
  simp
 ·rfl
variable {o:Expr} {do':DE} {es:List Expr} {r:DA} {m:Str} {apos cpos:Pos}
theorem bl3 {bs:List BM} (hb:∀ b∈bs,a57 X m b) (ho:QE X o do') (h1:B0 o=true) (h4:(apos.endLine==cpos.line)=true) :
  QE X (.Call (.Attribute o m apos) [] [] cpos) (dMt (rMt X.K bs) do' Ai):=by
 intro Ex mt pins s σ H Q I h
 refine wpAny_Call_method0_late (C8 h1 m X.env _) h4 (thn (ho Ex mt pins s σ H _ I h) fun v s1 ⟨x,H1,I1,r1,q1⟩=>?_)
 obtain⟨b,hbm,ty,q⟩:=Nu q1
 obtain⟨k1,k2⟩:=an6 I1 r1 ty
 have B:=hb b hbm
 exact⟨b.T,b.id,B.pa,B.slot,B.ty,k1,k2,hW rfl (PySem.evalArgs_none (B.mt pins s1 σ H1 x [] v [] Q I1 r1 .nil q))⟩
theorem cc5 {bs:List BM} {e:Expr} (hb:∀ b∈bs,a57 X m b) (ho:QE X o do') (ha:QA X (e::es) r) (h1:B0 o=true) (h2:(e::es).all noStar=true) (h3:(e::es).length<30) (h4:(apos.endLine==cpos.line)=true) :
  QE X (.Call (.Attribute o m apos) (e::es) [] cpos) (dMt (rMt X.K bs) do' r):=by
 intro Ex mt pins s σ H Q I h
 have hs:=bu▸h2
 rw [aw] at hs
 have hfew:((iu cpos (cD (e::es) X.env)).all (fun x=>!x.1)&&(j1 cpos (i9 [] X.env)).all (fun x=>x.1.isSome)
   && decide ((e::es).length+([]:List jM).length+(if ([]:List jM).isEmpty then 0 else 1)<30))=true:=by
  rw [Hd h2]
  have:decide ((e::es).length+([]:List jM).length+(if ([]:List jM).isEmpty then 0 else 1)<30)=true:=by
   rw [decide_eq_true_iff]
   simpa using h3
  rw [this]
  rfl
 refine wpAny_Call_method_late (C8 h1 m X.env _) hfew h4 rfl (thn (ho Ex mt pins s σ H _ I h) fun v s1 ⟨x,H1,I1,r1,q1⟩=>?_)
 obtain⟨b,hbm,ty,q⟩:=Nu q1
 obtain⟨k1,k2⟩:=an6 I1 r1 ty
 have B:=hb b hbm
 refine⟨b.T,b.id,B.pa,B.slot,B.ty,k1,k2,?_⟩
 have hA:=ha Ex mt cpos pins s1 σ H1 _ I1 q
 rw [A4 hs.1] at hA ⊢
 refine hW (by show (false||(iu cpos (cD es X.env)).any (·.1))=false;rw [A8 hs.2] <;> rfl) (Calls.evalArgs_plain ?_)
 exact thn hA fun us s2 ⟨vs,H2,I2,r2,q2⟩=>B.mt pins s2 σ H2 x vs v us Q I2 r1 r2 q2
variable {x:Str} {p pos:Pos} {G:Sg}
theorem bk4 {f:BF} {rf:RF} {e:Expr} (hc:Db X f.val rf) (hg:Gl X x) (hm:X.mg x=none) (hv:cA x=some f.val) (ha:QA X (e::es) r) (hs:(e::es).all noStar=true) (hn:x ≠ "__name__") (hdb:(x==("__debug__" : Str))=false) :
  QE X (.Call (.Name x p) (e::es) [] pos) (dFn (fun vs H Q _=>rf vs H Q) r):=by
 intro Ex mt
 have h:=bu▸hs
 rw [aw] at h
 cases f with
 | bf id=>exact ag5 hc hg hm hv (ha Ex mt) hn hdb (A4 h.1 es X.env) (A8 h.2 X.env pos)
 | ty T=>exact Xe hc hg hm hv (ha Ex mt) hn hdb (A4 h.1 es X.env) (A8 h.2 X.env pos)
noncomputable def spE (sp:Sp) (dvs:List V):List V->Hp->VK->EK->Prop:=fun vs H Q E=>sp (vs++dvs) H Q (fun v _ H'=>∃ a,v=.ref a/\E a H')
theorem E2 {i:FI} (F:Dw X i) {j:Nat} (hj:j<=i.dfs.length) {Ex:St->EK} (mt:Meets X Ex) {pins:List (Addr×Obj)} {σ:St} {H:Hp} {s:ah} {Q:VK} {us:List Value} {vs:List V}
  (I:Inv X pins σ H s) (r:Vals vs us) (h:spE i.sp (i.dfs.drop j) vs H Q (Ex σ)):aJ (model X.prog X.w) X.A (call (.ref i.f) us) (EP X pins σ Q) X.xe s:=by
 obtain⟨CX,hx,FO⟩:=F.ok
 have r2:Vals (vs++i.dfs.drop j) (us++i.ds.drop j):=r.append (F.vals.drop j)
 have hl:(us++i.ds.drop j).length=i.ps.length:=by rw [<- r2.length];exact FO.len _ _ _ _ h
 refine dm (eU (FO.run X.A X.stack s H ⟨us,[]⟩ (us++i.ds.drop j) (vs++i.dfs.drop j) Q _ F.room I.env0 (F.binds j hj s us I.kIn hl) r2 h) fun r s' hq=>?_)
 cases r with
 | error e=>exact hx X rfl rfl Ex mt pins σ H s e s' I hq
 | ok fl=>
  cases fl with
  | ret u=>exact I.after hq
  | next=>exact bY hq
  | brk=>exact bY hq
  | cont=>exact bY hq
theorem ah8 {i:FI} (F:Dw X i) {j:Nat} (hj:j<=i.dfs.length) (hg:Gl X x) (hm:X.mg x=some (.ref i.f)) (hdb:(x==("__debug__" : Str))=false) :
  QE X (.Call (.Name x p) [] [] pos) (dFn (spE i.sp (i.dfs.drop j)) Ai):=by
 intro Ex mt pins s σ H Q I h
 refine bT (Cw I hg hm ?_ hdb)
 exact eN I.kIn F.kp (E2 (us:=[]) F hj mt I .nil h)
theorem at5 {i:FI} {e:Expr} (F:Dw X i) {j:Nat} (hj:j<=i.dfs.length) (hg:Gl X x) (hm:X.mg x=some (.ref i.f)) (ha:QA X (e::es) r) (hs:(e::es).all noStar=true) (hdb:(x==("__debug__" : Str))=false) :
  QE X (.Call (.Name x p) (e::es) [] pos) (dFn (spE i.sp (i.dfs.drop j)) r):=by
 intro Ex mt pins s σ H Q I h
 have h2:=bu▸hs
 rw [aw] at h2
 refine bT (Cw I hg hm ?_ hdb)
 refine cY (h₀:=X.base) I.ok.mod.kin F.kp (thn (ha Ex mt pos pins s σ H _ I h) fun us s1 ⟨vs,H1,I1,r,q⟩=>⟨I1.kIn,?_⟩) (A4 h2.1 es X.env) (A8 h2.2 X.env pos)
 exact E2 F hj mt I1 r q
noncomputable def b59 (l:List FI) (n:Nat) (o:DE) (t:DA):DE:=fun σ H Q E=>o σ H (fun x H1=>∃ i,i∈l/\x=.ref i.f/\(n<=i.ps.length/\i.ps.length<=n+i.dfs.length)/\t σ H1 (fun vs H2=>spE i.sp (i.dfs.drop (n+i.dfs.length - i.ps.length)) vs H2 Q E) E) E
theorem bk5 {l:List FI} {e:Expr} {d:DE} (hF:∀ i∈l,Dw X i) (ho:QE X (.Name x p) d) (ha:QA X (e::es) r) (hs:(e::es).all noStar=true) :
  QE X (.Call (.Name x p) (e::es) [] pos) (b59 l (e::es).length d r):=by
 intro Ex mt pins s σ H Q I h
 have h2:=bu▸hs
 rw [aw] at h2
 refine bT (thn (ho Ex mt pins s σ H _ I h) fun v s1 ⟨x,H1,I1,r1,q1⟩=>?_)
 obtain⟨i,hi,rfl,hl,q⟩:=q1
 cases r1
 have F:=hF i hi
 refine cY (h₀:=X.base) I1.ok.mod.kin F.kp (thn (ha Ex mt pos pins s1 σ H1 _ I1 q) fun us s2 ⟨vs,H2,I2,r,q⟩=>⟨I2.kIn,?_⟩) (A4 h2.1 es X.env) (A8 h2.2 X.env pos)
 exact E2 F (by have:=hl.1;omega) mt I2 r q
noncomputable def mkX (C:Addr):Option FI->Nat->List V->Hp->VK->EK->Prop
 | none,_=>fun _ H Q _=>∀ a,H a=none->Q (.ref a) (upd H a (D4 a C none))
 | some i,j=>fun vs H Q E=>∀ a,H a=none->i.sp (.ref a::(vs++i.dfs.drop j)) (upd H a (D4 a C none)) (fun v H2=>v=.non/\Q (.ref a) H2) (fun v _ H'=>∃ b,v=.ref b/\E b H')
theorem V1 {C:Addr} {oi:Option FI} {j:Nat} (c:ECls X.K C) (hi:E7 X C oi) (hj:∀ i,oi=some i->j<=i.dfs.length) {Ex:St->EK} (mt:Meets X Ex) {pins:List (Addr×Obj)} {σ:St} {H:Hp} {s:ah} {Q:VK} {us:List Value} {vs:List V}
  (I:Inv X pins σ H s) (rv:Vals vs us) (hl:vs.length<=1000) (h:mkX C oi j vs H Q (Ex σ)):aJ (model X.prog X.w) X.A (call (.ref C) us) (EP X pins σ Q) X.xe s:=by
 cases oi with
 | none=>exact Sq c hi I rv hl h
 | some i=>
  obtain⟨h1,h2,F,hr⟩:=hi
  obtain⟨CX,hx,FO⟩:=F.ok
  exact Xl c h1 h2 FO hr (F.binds j (hj i rfl)) (F.vals.drop j) I rv hl (fun e s1 s' H1 I1 q=>hx X rfl rfl Ex mt pins σ H1 s1 e s' I1 q) h
theorem Vu {C:Addr} {oi:Option FI} {j:Nat} (c:ECls X.K C) (hi:E7 X C oi) (hj:∀ i,oi=some i->j<=i.dfs.length) (kp:aq X.K (.ref C)=true) (hg:Gl X x) (hm:X.mg x=some (.ref C)) (hdb:(x==("__debug__" : Str))=false) :
  QE X (.Call (.Name x p) [] [] pos) (dFn (mkX C oi j) Ai):=by
 intro Ex mt pins s σ H Q I h
 refine bT (Cw I hg hm ?_ hdb)
 exact eN I.kIn kp (V1 (us:=[]) c hi hj mt I .nil (by simp) h)
theorem Si {C:Addr} {oi:Option FI} {j:Nat} {e:Expr} (c:ECls X.K C) (hi:E7 X C oi) (hj:∀ i,oi=some i->j<=i.dfs.length) (kp:aq X.K (.ref C)=true) (hg:Gl X x) (hm:X.mg x=some (.ref C)) (ha:QA X (e::es) r) (hs:(e::es).all noStar=true) (hdb:(x==("__debug__" : Str))=false) :
  QE X (.Call (.Name x p) (e::es) [] pos) (dFn (fun vs H Q E=>vs.length<=1000/\mkX C oi j vs H Q E) r):=by
 intro Ex mt pins s σ H Q I h
 have h2:=bu▸hs
 rw [aw] at h2
 refine bT (Cw I hg hm ?_ hdb)
 refine cY (h₀:=X.base) I.ok.mod.kin kp (thn (ha Ex mt pos pins s σ H _ I h) fun us s1 ⟨vs,H1,I1,r,q⟩=>⟨I1.kIn,?_⟩) (A4 h2.1 es X.env) (A8 h2.2 X.env pos)
 exact V1 c hi hj mt I1 r q.1 q.2
noncomputable def mkC (C:Addr):Option FI->Nat->List V->Hp->VK->EK->Prop
 | none,_=>fun vs H Q _=>vs=[] /\ ∀ a dx,H a=none->H dx=none->dx≠a->Q (.ref a) (upd (upd H dx (.own a)) a (.ins C dx []))
 | some i,j=>fun vs H Q E=>∀ a dx,H a=none->H dx=none->dx≠a ->
   i.sp (.ref a::(vs++i.dfs.drop j)) (upd (upd H dx (.own a)) a (.ins C dx [])) (fun v H2=>v=.non/\Q (.ref a) H2) (fun v _ H'=>∃ b,v=.ref b/\E b H')
theorem Xk {C:Addr} (h1:aS X.K C=true) (h2:ae X.K (.ref C) "__init__" = some (some (.builtin "object.__init__"))) {pins:List (Addr×Obj)} {σ:St} {H:Hp} {s:ah} {Q:VK}
  (I:Inv X pins σ H s) (h:∀ a dx,H a=none->H dx=none->dx≠a->Q (.ref a) (upd (upd H dx (.own a)) a (.ins C dx []))):aJ (model X.prog X.w) X.A (call (.ref C) []) (EP X pins σ Q) X.xe s:=by
 have hq:=h (s.heap.objs.size+1) s.heap.objs.size (I.hok.fresh (cN _)) (I.hok.fresh (ac _)) (aQ (cG _))
 have I2:=Inv.made (C:=C) I
 have e2:((s.heap.push bp).push (bD C s.heap.objs.size)).get? (s.heap.objs.size+1)=some (bD C s.heap.objs.size):=by
  have z:=aF (s.heap.push bp) (o:=bD C s.heap.objs.size) rfl
  rwa [dM] at z
 refine dm (W5 I.kIn h1 h2 (fun self=>.of_pure (PySem.W.oi_bind self)) ?_)
 have ty:fP (model X.prog X.w) ((s.heap.push bp).push (bD C s.heap.objs.size)) (typeOf (.ref (s.heap.objs.size+1))) (.ref C):=(PySem.W.Looks.ld e2).andThen .now
 have io:fP (model X.prog X.w) ((s.heap.push bp).push (bD C s.heap.objs.size)) (js (.ref (s.heap.objs.size+1)) (.type "object")) true:=
  ty.andThen ((g8 (M:=model X.prog X.w) I.kIn h1).top.keeps fun b o e=>ag _ (ag _ e))
 refine c7 PySem.W.oi_plain PySem.W.entry_oi (PySem.W.check_slot (s:={ s with heap:=(s.heap.push bp).push (bD C s.heap.objs.size) }) (i := "object.__init__") (owner := "object") (self:=.ref (s.heap.objs.size+1)) PySem.W.oi_kind PySem.W.oi_split io (PySem.W.oi_args _) ?_)
 rw [PySem.W.oi_run]
 exact ar ⟨rfl,⟨.ref _,_,I2,rfl,hq⟩⟩
theorem av3 {C f:Addr} {CX:CXT} {k:Nat} {fd:ai} {ps:List Str} {sp:Sp} {ds:List Value} {dvs:List V} {E:XK} {pins:List (Addr×Obj)} {σ:St} {H:Hp} {s:ah} {Q:VK} {us:List Value} {vs:List V}
  (M:Mk X.K C f) (F:FnOk X.prog X.w X.K X.mg X.base CX k f fd ps sp) (hr:Room (k+1) X.A) (hb:Binds X.K fd ps ds) (hd:Vals dvs ds) (hx:∀ H1 s1 e s',Inv X pins σ H1 s1->CX X.stack H1 s1 E e s'->X.xe e s') (I:Inv X pins σ H s) (r:Vals vs us)
  (h:∀ x dx,H x=none->H dx=none->dx≠x->sp (.ref x::(vs++dvs)) (upd (upd H dx (.own x)) x (.ins C dx [])) (fun v H2=>v=.non/\Q (.ref x) H2) E) :
  aJ (model X.prog X.w) X.A (call (.ref C) us) (EP X pins σ Q) X.xe s:=by
 have hq:=h (s.heap.objs.size+1) s.heap.objs.size (I.hok.fresh (cN _)) (I.hok.fresh (ac _)) (aQ (cG _))
 have I2:=Inv.made (C:=C) I
 have r2:Vals (V.ref (s.heap.objs.size+1)::(vs++dvs)) (az (s.heap.objs.size+1)::(us++ds)):=.cons rfl (r.append hd)
 have hl:(az (s.heap.objs.size+1)::us++ds).length=ps.length:=by
  have e:=r2.length
  rw [F.len _ _ _ _ hq] at e
  exact e.symm
 refine dm (ae7 (f:=f) I.kIn M.makes M.init (beq_iff_eq.mp M.fn) (eU (F.run _ X.stack _ _ ⟨az (s.heap.objs.size+1)::us,[]⟩ (az (s.heap.objs.size+1)::(us++ds)) _ _ E (hr.make C us [])
  (I2.env0.make C us []) (hb _ (az (s.heap.objs.size+1)::us) I2.kIn hl) r2 hq) fun r s' hq'=>?_))
 cases r with
 | error e=>exact hx _ _ e s' I2 hq'
 | ok fl=>
  cases fl with
  | ret u=>
   obtain⟨v,H',I3,rv,ev,q3⟩:=I2.after hq'
   subst ev
   exact⟨rv,⟨V.ref (s.heap.objs.size+1),H',I3,rfl,q3⟩⟩
  | next=>exact bY hq'
  | brk=>exact bY hq'
  | cont=>exact bY hq'
theorem V0 {C:Addr} {oi:Option FI} {j:Nat} (hi:Xx X C oi) (hj:∀ i,oi=some i->j<=i.dfs.length) {Ex:St->EK} (mt:Meets X Ex) {pins:List (Addr×Obj)} {σ:St} {H:Hp} {s:ah} {Q:VK} {us:List Value} {vs:List V}
  (I:Inv X pins σ H s) (rv:Vals vs us) (kp:aq X.K (.ref C)=true) (h:mkC C oi j vs H Q (Ex σ)):aJ (model X.prog X.w) X.A (call (.ref C) us) (EP X pins σ Q) X.xe s:=by
 cases oi with
 | none=>
  obtain⟨rfl,h⟩:=h
  cases rv
  exact Xk hi.1 hi.2 I h
 | some i=>
  obtain⟨h0,h1,h2,F,hr⟩:=hi
  obtain⟨CX,hx,FO⟩:=F.ok
  exact av3 ⟨h0,h1,h2,kp⟩ FO hr (F.binds j (hj i rfl)) (F.vals.drop j) (fun H1 s1 e s' I1 q=>hx X rfl rfl Ex mt pins σ H1 s1 e s' I1 q) I rv h
theorem Vt {C:Addr} {oi:Option FI} {j:Nat} (hi:Xx X C oi) (hj:∀ i,oi=some i->j<=i.dfs.length) (kp:aq X.K (.ref C)=true) (hg:Gl X x) (hm:X.mg x=some (.ref C)) (hdb:(x==("__debug__" : Str))=false) :
  QE X (.Call (.Name x p) [] [] pos) (dFn (mkC C oi j) Ai):=by
 intro Ex mt pins s σ H Q I h
 refine bT (Cw I hg hm ?_ hdb)
 exact eN I.kIn kp (V0 (us:=[]) hi hj mt I .nil kp h)
theorem bl2 {C:Addr} {oi:Option FI} {j:Nat} {e:Expr} (hi:Xx X C oi) (hj:∀ i,oi=some i->j<=i.dfs.length) (kp:aq X.K (.ref C)=true) (hg:Gl X x) (hm:X.mg x=some (.ref C)) (ha:QA X (e::es) r) (hs:(e::es).all noStar=true) (hdb:(x==("__debug__" : Str))=false) :
  QE X (.Call (.Name x p) (e::es) [] pos) (dFn (mkC C oi j) r):=by
 intro Ex mt pins s σ H Q I h
 have h2:=bu▸hs
 rw [aw] at h2
 refine bT (Cw I hg hm ?_ hdb)
 refine cY (h₀:=X.base) I.ok.mod.kin kp (thn (ha Ex mt pos pins s σ H _ I h) fun us s1 ⟨vs,H1,I1,r,q⟩=>⟨I1.kIn,?_⟩) (A4 h2.1 es X.env) (A8 h2.2 X.env pos)
 exact V0 hi hj mt I1 r kp q
noncomputable def Ba (m:Str) (n:Nat) (l:List MI) (o:DE) (t:DA):DE:=fun σ H Q E=>o σ H (fun x H1=>∃ a dx fs mi,x=.ref a/\mi∈l/\H1 a=some (.ins mi.C dx fs)/\fs.lookup m=none/\(n+1<=mi.i.ps.length/\mi.i.ps.length<=n+1+mi.i.dfs.length) /\
 t σ H1 (fun vs H2=>spE mi.i.sp (mi.i.dfs.drop (n+1+mi.i.dfs.length - mi.i.ps.length)) (.ref a::vs) H2 Q E) E) E
theorem Jm {es:List Expr} {P:Value->ah->Prop} {s:ah} (h1:B0 o=true) (h2:es.all noStar=true) (h3:es.length<30) (h4:(apos.endLine==cpos.line)=true)
  (h:aJ (model X.prog X.w) X.A (eval o X.env) (fun ov s1=>∀ pl,aJ (model X.prog X.w) X.A (getMethod ov m pl) (fun fx s2=>aJ (model X.prog X.w) X.A (callWith cpos fx.1 fx.2 (iu cpos (cD es X.env)) (j1 cpos (i9 [] X.env))) P X.xe s2) X.xe s1) X.xe s) :
  aJ (model X.prog X.w) X.A (eval (.Call (.Attribute o m apos) es [] cpos) X.env) P X.xe s:=by
 have few:methodCallForm (es.length+([]:List jM).length) (iu cpos (cD es X.env)) (j1 cpos (i9 [] X.env))=true:=by
  unfold methodCallForm
  rw [Hd h2]
  simpa [j1,i9] using h3
 rw [arm_eval_Call,C8 h1]
 refine af (thn h fun ov s1 h1=>af (c4 ?_))
 unfold methodCall calleeOf
 rw [few,if_pos rfl]
 refine af (bq (thn (h1 _) fun fx s2 h2=>?_))
 have hp:methodCallPos true o X.env apos cpos=pure cpos:=by unfold methodCallPos;rw [h4];rfl
 rw [hp]
 exact af (ar h2)
theorem at8 {l:List MI} (hl:∀ mi∈l,Cls X.K mi.C/\A2 X.K mi.C m mi.i.f/\Dw X mi.i) (ho:QE X o do') (h1:B0 o=true) (h4:(apos.endLine==cpos.line)=true) :
  QE X (.Call (.Attribute o m apos) [] [] cpos) (Ba m 0 l do' Ai):=by
 intro Ex mt pins s σ H Q I h
 refine Jm (es:=[]) h1 rfl (by decide) h4 (thn (ho Ex mt pins s σ H _ I h) fun u s1 ⟨x,H1,I1,rx,a,dx,fs,mi,ex,hm,ea,hf,hn,q⟩ pl=>?_)
 subst ex
 obtain rfl:u=az a:=rx
 obtain⟨c,k,F⟩:=hl mi hm
 refine Iq I1 ea c k hf ?_
 exact eN (first:=[.ref a]) I1.kIn k.kp (E2 (us:=[.ref a]) (vs:=[.ref a]) F (by omega) mt I1 (.cons rfl .nil) q)
theorem bl7 {l:List MI} {e:Expr} (hl:∀ mi∈l,Cls X.K mi.C/\A2 X.K mi.C m mi.i.f/\Dw X mi.i) (ho:QE X o do') (ha:QA X (e::es) r) (h1:B0 o=true) (h2:(e::es).all noStar=true) (h3:(e::es).length<30) (h4:(apos.endLine==cpos.line)=true) :
  QE X (.Call (.Attribute o m apos) (e::es) [] cpos) (Ba m (es.length+1) l do' r):=by
 intro Ex mt pins s σ H Q I h
 refine Jm h1 h2 h3 h4 (thn (ho Ex mt pins s σ H _ I h) fun u s1 ⟨x,H1,I1,rx,a,dx,fs,mi,ex,hm,ea,hf,hn,q⟩ pl=>?_)
 subst ex
 obtain rfl:u=az a:=rx
 obtain⟨c,k,F⟩:=hl mi hm
 refine Iq I1 ea c k hf ?_
 have hs:=bu▸h2
 rw [aw] at hs
 refine cY (first:=[.ref a]) (h₀:=X.base) I.ok.mod.kin k.kp (thn (ha Ex mt cpos pins s1 σ H1 _ I1 q) fun us s2 ⟨vs,H2,I2,r2,q2⟩=>⟨I2.kIn,?_⟩) (A4 hs.1 es X.env) (A8 hs.2 X.env cpos)
 exact E2 (us:=.ref a::us) (vs:=.ref a::vs) F (by omega) mt I2 (.cons rfl r2) q2
theorem bk8 {C:Addr} {i:FI} {e:Expr} {x:Str} {p:Pos} (ho:QE X (.Name x p) (dC (.ref C))) (S:Ur X.K C i.f) (F:Dw X i) (hl:(e::es).length<=i.ps.length/\i.ps.length<=(e::es).length+i.dfs.length) (ha:QA X (e::es) r) (h1:B0 (.Name x p)=true) (h2:(e::es).all noStar=true) (h3:(e::es).length<30) (h4:(apos.endLine==cpos.line)=true) :
  QE X (.Call (.Attribute (.Name x p) "__init__" apos) (e::es) [] cpos) (dFn (spE i.sp (i.dfs.drop ((e::es).length+i.dfs.length - i.ps.length))) r):=by
 intro Ex mt pins s σ H Q I h
 refine Jm h1 h2 h3 h4 (thn (ho Ex mt pins s σ H (fun y H1=>y=.ref C/\H1=H) I ⟨rfl,rfl⟩) fun u s1 ⟨y,H1,I1,rx,ey,eH⟩ pl=>?_)
 subst ey eH
 obtain rfl:u=az C:=rx
 refine PySem.W.method_cls I1.kIn S.ga (PySem.W.cls_value I1.kIn S.rd S.fc S.hh ?_)
 have I2:=I1.tok (s1.toks+1)
 have hs:=bu▸h2
 rw [aw] at hs
 refine cY (first:=[]) (h₀:=X.base) I.ok.mod.kin F.kp (thn (ha Ex mt cpos pins _ σ _ _ I2 h) fun us s2 ⟨vs,H2,I3,r2,q2⟩=>⟨I3.kIn,?_⟩) (A4 hs.1 es X.env) (A8 hs.2 X.env cpos)
 exact E2 (us:=us) (vs:=vs) F (by omega) mt I3 r2 q2
noncomputable def P6:DE:=fun _ H Q _=>∀ p,H p=none->Q (.ref p) (upd H p (.dK []))\/Q (.ref p) (upd H p (.dT []))
theorem at7:QE X (.Dict [] [] pos) P6:=fun Ex mt pins s σ H Q I h=>by
 have fr:=I.hok.fresh (ac s.heap.objs.size)
 rcases h _ fr with q|q
 ·exact wpAny_Dict_empty ⟨.ref _,_,I.laid (a:=s.heap.objs.size) (o:=.dK []) (t':=s.toks) (fun _ _ q=>ag _ q) (ac _) (ab6 s.heap I.big),rfl,q⟩
 ·exact wpAny_Dict_empty ⟨.ref _,_,I.laid (a:=s.heap.objs.size) (o:=.dT []) (t':=s.toks) (fun _ _ q=>ag _ q) (ac _) (ab9 s.heap I.big),rfl,q⟩
end
end L2
set_option maxHeartbeats 1000000
namespace L2
open PySem PySem.Spec PyProof.Rows
noncomputable def ab3 (K:aa) (m:Str) (l:List MI) (a o:DE):DE:=fun σ H Q E=>Ab a Ai σ H (fun xs H1=>o σ H1 (fun y H2=>∃ (p b dx:Addr) (fs:List (Str×V)) (mi:MI) (zs:List Str) (kf:Str->Int),xs=[.ref p]/\(SqL K H2 p (zs.map V.str) \/ ∃ kvs,Rd H2 p (.dK kvs)/\kvs.map (·.1)=zs.map dO)/\zs.Nodup/\zs.length<64/\y=.ref b/\mi∈l/\H2 b=some (.ins mi.C dx fs)/\fs.lookup m=none /\
 (∀ z∈zs,∀ H3,Same H2 H3->spE mi.i.sp [] [.ref b,.str z] H3 (fun v H4=>∃ q,v=.ref q/\Same H3 H4/\H4 q=some (.tup [.int (kf z),.str z])) (fun _ _=>False)) /\ ∀ H3 D,Same H2 H3->H2 D=none->H3 D=some (.lst ((Cy (ltK kf) zs).map V.str))->Q (.ref D) H3) E) E
section
variable {X:Cx} {a o:Expr} {da do':DE} {p ap kp pos:Pos} {m:Str}
theorem at9 {l:List MI} (hc:X.calm=true) (hl:∀ mi∈l,ao4 X m mi) (hg:Gl X "sorted") (hm:X.mg "sorted" = none) (ha:QE X a da) (ho:QE X o do') (hs:noStar a=true) (h1:B0 o=true):QE X (.Call (.Name "sorted" p) [a] [⟨some "key", .Attribute o m ap,kp⟩] pos) (ab3 X.K m l da do'):=by
 intro Ex mt pins s σ H Q I h
 have hA:QA X [a] (Ab da Ai):=Hy ha No hs
 refine bT (Gv I hg hm G8 ?_ (by decide) (by decide))
 refine callWith_builtin_kwB (first:=[]) ?_ rfl ?_
 ·rw [A4 hs [] X.env];rfl
 have e0:cD [a] X.env=[(false,eval a X.env)]:=by rw [A4 hs [] X.env];rfl
 have hh:=hA Ex mt pos pins s σ H _ I h
 rw [e0] at hh ⊢
 refine af (thn hh fun us s1 ⟨vs,H1,I1,r1,q1⟩=>af (ar (bq ?_)))
 show aJ (model X.prog X.w) X.A (do
  let l <- evalAll [do let v <- eval (.Attribute o m ap) X.env;i_ pos;pure v]
  let ps <- (pure us:Sem (List Value))
  pure (⟨ps,[("key" : Str)].zip l⟩:Args)) _ _ s1
 refine af (wpAny_evalAll_cons (af (Uw (C8 h1 _ X.env _) (thn (ho Ex mt pins s1 σ H1 _ I1 q1) fun ov s2 ⟨y,H2,I2,ry,q2⟩=>?_))))
 obtain⟨pp,b,dx,fs,mi,zs,kf,rfl,hp,nd,h64,rfl,hm,eb,hf,hk,q⟩:=q2
 cases ry
 obtain⟨u,rfl,ru⟩:=Hg r1
 cases ru
 have K:=hl mi hm
 refine Wt I2 eb K.c K.k K.sg K.tk K.cn hf fun s3 g3 l3 I3=>?_
 refine af (c4 (ar (wpAny_evalAll_nil (af (ar (ar ?_))))))
 exact aw1 hc K I3 g3 (I2.fpOk (ac _) (I2.hok.fresh (ac _))) hp nd h64 hk q
end
end L2
set_option maxHeartbeats 4000000
namespace L2
open PySem PySem.Spec PyProof.Rows
noncomputable def a60 (lo st:Int) (n:Nat):It:=⟨fun i _=>i<n,fun i H x H'=>H'=H/\x=.int (lo+(i:Int) * st),fun i _=>n<=i⟩
theorem Xs {P:aH} {w:bh} {K:aa} {tg:Expr} (it:Addr) (lo st:Int) (n:Nat):P3 P w K tg (a60 lo st n) [it] it (fun i h=>iS h it (lo+(i:Nat) * st) ((n:Int) - (i:Nat)) st) where
 mem:=List.mem_singleton.mpr rfl
 obj:=fun i h q b hb=>by
  obtain rfl:=List.mem_singleton.mp hb
  exact⟨_,q,fun v z=>by cases (show Data.fields _=Data.cell v from z)⟩
 keep:=fun i h h' q k=>k it (List.mem_singleton.mpr rfl) _ q
 item:=by
  intro X hP hw hK hc i pins s σ H E I hf q go
  subst hP hw hK
  obtain⟨g0,g1,_,g3,g4,g5⟩:=hf it (List.mem_singleton.mpr rfl)
  refine bt (ac _) ((Walks.range (prog:=X.prog) (w:=X.w) (I.ok.hd hc) it lo st n).item i s _ _ go q fun v h' tk hv q' kk htk=>?_)
  obtain⟨t,rfl⟩:=hv
  have I1:Inv X pins σ H { s with heap:=h',toks:=tk }:=I.turned (fun b o nb e=>kk b o (fun z=>nb (List.mem_singleton.mp z)) e) g0 g1 g3 g4 g5
  exact⟨_,rfl,Ir (s:={ s with heap:=h',toks:=tk }) (n := "range_iterator") q' rfl rfl (by decide) ⟨.int (lo+(i:Int) * st),H,I1,⟨t,rfl⟩,⟨rfl,rfl⟩,q',fun b hb=>(hf b hb).1⟩⟩
 done:=by
  intro X hP hw hK hc i pins s σ H E I hf q go
  subst hP hw hK
  obtain⟨g0,g1,_,g3,g4,g5⟩:=hf it (List.mem_singleton.mpr rfl)
  exact ic (I.ok.hd hc) q (by have:n<=i:=go;omega) fun h' eb=>⟨rfl,I.turned (t':=s.toks) (fun b o nb e=>eb b o nb e) g0 g1 g3 g4 g5⟩
 self:=fun _ _ _ _ _ q h=>ib q h
section
variable {X:Cx} {tg:Expr}
theorem aw2 {pins:List (Addr×Obj)} {σ:St} {H:Hp} {s:ah} {R:It->Hp->Prop} {E:Value->ah->Prop} {lo hi st:Int} {t u v:Tok} {tk:Nat} (I:Inv X pins σ H s) (htk:s.toks<=tk) (sm:iQ lo hi st=true)
  (q:R (a60 lo st (bX lo hi st).toNat) H):aJ (model X.prog X.w) X.A (pyIter (.ref s.heap.objs.size)) (PIE X pins σ tg R) E { s with heap:=s.heap.push { cls:=.type "range", data:=.fields #[.int lo t,.int hi u,.int st v] },toks:=tk }:=by
 refine jo (IsRange.new ..) sm ?_
 have I1:Inv X pins σ H { s with heap:=s.heap.push { cls:=.type "range", data:=.fields #[.int lo t,.int hi u,.int st v] },toks:=tk }:=I.kept fun b o e=>ag _ e
 generalize s.heap.push { cls:=.type "range", data:=.fields #[.int lo t,.int hi u,.int st v] }=h1 at I1 ⊢
 refine⟨h1.objs.size,[h1.objs.size],_,_,H,rfl,I1.kept (t':=tk) fun b o e=>ag _ e,Xs _ lo st (bX lo hi st).toNat,?_,fun b hb=>?_,q⟩
 ·have e:lo+((0:Nat):Int) * st=lo:=by rw [Int.natCast_zero,Int.zero_mul,Int.add_zero]
  have f:(((bX lo hi st).toNat:Nat):Int) - ((0:Nat):Int)=bX lo hi st:=by
   rw [<- rangeSize_toNat,Int.natCast_zero,Int.sub_zero]
  show iS _ _ (lo+((0:Nat):Int) * st) ((((bX lo hi st).toNat:Nat):Int) - ((0:Nat):Int)) st
  rw [e,f]
  exact aF _ rfl
 ·obtain rfl:=List.mem_singleton.mp hb
  exact I1.fpOk (ac _) (I1.hok.fresh (ac _))
end
noncomputable def QI (X:Cx) (tg e:Expr) (t:DI):Prop:=∀ Ex,Meets X Ex->PI X tg e (fun σ H R=>t σ H R (Ex σ))
noncomputable def iNo:DI:=fun _ _ _ _=>False
noncomputable def onD (p:Addr) (H:Hp) (R:Obj->List (Key×V)->Hp->Prop):Prop:=(∃ kvs,H p=some (.dK kvs) /\ ∀ o,R o kvs (upd H p (.frz o (.dK kvs)))) \/ ∃ o kvs,H p=some (.frz o (.dK kvs))/\R o kvs H
theorem bh6 {X:Cx} {pins:List (Addr×Obj)} {σ:St} {H:Hp} {s:ah} {p:Addr} {R:Obj->List (Key×V)->Hp->Prop} (I:Inv X pins σ H s) (h:onD p H R):∃ o kvs H',Inv X pins σ H' s/\H' p=some (.frz o (.dK kvs))/\R o kvs H':=by
 rcases h with ⟨kvs,e,q⟩|⟨o,kvs,e,q⟩
 ·obtain⟨o,ep,_,_,I'⟩:=I.froze e
  exact⟨o,kvs,_,I',Ad,q o⟩
 ·exact⟨o,kvs,H,I,e,q⟩
noncomputable def D7 (K:aa) (a:DE):DI:=fun σ H R E=>a σ H (fun x H1=>match x with
 | .str z=>R (Its z) H1
 | .ref p=>((∃ xs,SqL K H1 p xs)/\R (Itl K p) H1)\/((∃ xs,SqT K H1 p xs)/\R (Itt K p) H1)\/onD p H1 fun o kvs H2=>R (Itd p o kvs) H2
 | _=>False) E
noncomputable def ad6 (t:DA):DI:=fun σ H R E=>t σ H (fun vs H1=>match vs with
 | [.int j]=>(-(2 ^ 62)<=j/\j<2 ^ 62)/\R (Itr 0 j.toNat) H1
 | [.int i,.int j]=>(-(2 ^ 62)<=i/\i<2 ^ 62 /\ -(2 ^ 62)<=j/\j<2 ^ 62)/\R (Itr i (j - i).toNat) H1
 | [.int i,.int j,.int k]=>(iQ i j k=true/\1<=k/\k<=1000)/\R (a60 i k (bX i j k).toNat) H1
 | _=>False) E
section
variable {X:Cx} {tg e a b:Expr} {da:DE} {r:DA} {p pos:Pos}
theorem cc7:QI X tg e iNo:=fun _ _ _ _ _ _ _ _ h=>h.elim
theorem ai5 (ha:QE X e da):QI X tg e (D7 X.K da):=by
 intro Ex mt pins s σ H R I h
 refine thn (ha Ex mt pins s σ H _ I h) fun v s1 ⟨x,H1,I1,r1,q1⟩=>?_
 cases x with
 | str z=>
  obtain⟨t,rfl⟩:=r1
  refine wpAny_pyIter_strU ?_
  refine⟨s1.heap.objs.size,[s1.heap.objs.size],_,_,H1,rfl,I1.kept (t':=s1.toks) fun b o e=>ag _ e,an5 s1.heap.objs.size z t (strIterType z) (by unfold strIterType;split <;> simp),⟨_,aF _ rfl,rfl,rfl⟩,fun b hb=>?_,q1⟩
  have e:b=s1.heap.objs.size:=by simpa using hb
  subst e
  exact I1.fpOk (ac _) (I1.hok.fresh (ac _))
 | ref a=>
  cases r1
  rcases q1 with ⟨⟨xs,hq⟩,q⟩|⟨⟨xs,hq⟩,q⟩|q
  ·obtain⟨its,rv,p,hz⟩:=I1.list hq
   refine wpAny_pyIter_list p.isList ?_
   refine⟨s1.heap.objs.size,[s1.heap.objs.size],_,_,H1,rfl,I1.kept (t':=s1.toks) fun b o e=>ag _ e,Xr a _,⟨_,aF _ rfl,rfl,rfl⟩,fun b hb=>?_,q⟩
   have e:b=s1.heap.objs.size:=by simpa using hb
   subst e
   exact I1.fpOk (ac _) (I1.hok.fresh (ac _))
  ·obtain⟨its,rv,p,hz⟩:=I1.tuple hq
   refine wpAny_pyIter_tuple (show s1.heap.IsTuple a its.toArray from p) ?_
   refine⟨s1.heap.objs.size,[s1.heap.objs.size],_,_,H1,rfl,I1.kept (t':=s1.toks) fun b o e=>ag _ e,Uk a _,⟨_,aF _ rfl,rfl,rfl⟩,fun b hb=>?_,q⟩
   have e:b=s1.heap.objs.size:=by simpa using hb
   subst e
   exact I1.fpOk (ac _) (I1.hok.fresh (ac _))
  ·obtain⟨o,kvs,H2,I2,e,q⟩:=bh6 I1 q
   exact ap6 I2 e q
 | _=>exact (show False from q1).elim
variable {es:List Expr}
theorem ai4 (hg:Gl X "range") (hm:X.mg "range" = none) (ha:QA X (a::es) r) (hs:(a::es).all noStar=true):QI X tg (.Call (.Name "range" p) (a::es) [] pos) (ad6 r):=by
 intro Ex mt pins s σ H R I h
 have h2:=bu▸hs
 rw [aw] at h2
 refine Call_ (Gv I hg hm boot_range (d6 (thn (ha Ex mt pos pins s σ H _ I h) fun us s1 ⟨vs,H1,I1,r1,q1⟩=>?_) (A4 h2.1 es X.env) (A8 h2.2 X.env pos)))
 dsimp only at q1
 split at q1
 ·obtain⟨⟨h1,h2⟩,q⟩:=q1
  obtain⟨u,rfl,t,rfl⟩:=Hg r1
  exact call_range_1 (Q5 I1 (by first|exact ac _|exact bc _ _|omega|(dsimp only;omega)) (by omega) (by omega) h1 h2 (by simpa using q))
 ·obtain⟨⟨h1,h2,h3,h4⟩,q⟩:=q1
  obtain⟨u,v,rfl,⟨t,rfl⟩,⟨t',rfl⟩⟩:=co7 r1
  exact call_range_2 (Q5 I1 (by first|exact ac _|exact bc _ _|omega|(dsimp only;omega)) h1 h2 h3 h4 q)
 ·obtain⟨⟨h1,h2,h3⟩,q⟩:=q1
  cases r1 with
  | cons ra rr=>cases rr with
   | cons rb rr=>cases rr with
    | cons rc rr=>
     cases rr
     obtain⟨t,rfl⟩:=ra
     obtain⟨t',rfl⟩:=rb
     obtain⟨t2,rfl⟩:=rc
     exact call_range_3 (by omega) (aw2 I1 (by first|exact ac _|exact bc _ _|omega|(dsimp only;omega)) h1 q) (.inl (hX (by omega)))
 ·exact q1.elim
noncomputable def gNo:DG:=fun _ _ _ _=>False
noncomputable def gdS:List DG->List V->St->Hp->(St->Hp->Prop)->Prop
 | [],[],σ,H,Q=>Q σ H
 | g::gs,v::vs,σ,H,Q=>g v σ H fun σ' H'=>gdS gs vs σ' H' Q
 | _,_,_,_,_=>False
noncomputable def gdT (K:aa) (n:Nat) (gs:List DG):DG:=fun v σ H Q=>match v with
 | .ref a=>∃ xs,SqT K H a xs/\xs.length=n/\gdS gs xs σ H Q
 | _=>False
theorem Qw:PG X tg gNo:=fun _ _ _ _ _ _ _ _ _ h=>h.elim
theorem cb9:PGs X [] (gdS []):=by
 intro pins s σ H vs us Q I r h
 cases vs with
 | nil=>exact as6 pins s σ H [] us Q I r ⟨rfl,h⟩
 | cons v vs=>exact (show False from h).elim
theorem cb8 {g:DG} {gs:List DG} {ts:List Expr} (h1:PG X tg g) (h2:PGs X ts (gdS gs)) (hs:(cL (tg::ts) X.env).map (·.2)=jC tg X.env::(cL ts X.env).map (·.2)):PGs X (tg::ts) (gdS (g::gs)):=by
 intro pins s σ H vs us Q I r h
 cases vs with
 | nil=>exact (show False from h).elim
 | cons v vs=>exact ag7 h1 h2 hs pins s σ H (v::vs) us Q I r ⟨v,vs,rfl,h⟩
theorem cs8 {ts:List Expr} {k n:Nat} {gs:List DG} (hc:X.calm=true) (h:PGs X ts (gdS gs)) (hn:(cL ts X.env).length=n) (hst:(cL ts X.env).findIdx? (·.1)=none):PG X (.Tuple ts k pos) (gdT X.K n gs):=by
 intro pins s σ H v u Q I r hw
 cases v with
 | ref a=>exact bj5 hc h hn hst pins s σ H _ u Q I r (let ⟨xs,h1,h2,h3⟩:=hw;⟨a,xs,rfl,h1,h2,h3⟩)
 | _=>exact (show False from hw).elim
end
end L2
set_option maxHeartbeats 1000000
namespace L2
open PySem PySem.Spec PyProof.Rows
noncomputable def Oh (K:aa) (a:Addr) (n:Nat):It:=
 ⟨fun i H=>i<n /\ ∃ xs,SqL K H a xs/\xs.length=n,fun i H x H'=>H'=H /\ ∀ xs,SqL K H a xs->xs[n - 1 - i]? = some x,fun i _=>n<=i⟩
theorem an4 {P:aH} {w:bh} {K:aa} {tg:Expr} (a it:Addr) (n:Nat):P3 P w K tg (Oh K a n) [it] it (fun i h=>i<=n/\h.IsRevIter it a ((n:Int) - 1 - (i:Int))) where
 mem:=by simp
 obj:=fun i h st b hb=>by
  have e:b=it:=by simpa using hb
  subst e
  obtain⟨_,o,e,c,d⟩:=st
  exact⟨o,e,fun v z=>by rw [d] at z;cases z⟩
 keep:=fun i h h' st k=>⟨st.1,by
  obtain⟨_,o,e,c,d⟩:=st
  exact⟨o,k it (by simp) o e,c,d⟩⟩
 item:=by
  intro X hP hw hK hc i pins s σ H E I hf st hg
  subst hP hw hK
  obtain⟨hi,xs,hq,hl⟩:=hg
  obtain⟨its,rv,p,hz⟩:=I.list hq
  have hx:xs[n - 1 - i]? = some (xs[n - 1 - i]'(by omega)):=au _
  obtain⟨u,hu,ru⟩:=rv.get hx
  obtain⟨f0,f1,f2,f3,f4,f5⟩:=hf it (by simp)
  have e0:(n:Int) - 1 - (i:Int)=((n - 1 - i:Nat):Int):=by omega
  have st2:=st.2
  rw [e0] at st2
  refine wpAny_pyNext_rev_item st2 p.isList (x:=u) (by simpa using hu) fun h' st' sb=>?_
  have I1:Inv X pins σ H { s with heap:=h' }:=I.turned (t':=s.toks) (fun b o hb e=>(sb.2 b hb).trans e) f0 f1 f3 f4 f5
  obtain⟨o,e,c,d⟩:=id st'
  refine⟨u,rfl,Ir (s:={ s with heap:=h' }) e c d (by decide) ⟨_,H,I1,ru,⟨rfl,fun ys hy=>by rw [I.list_inj hy hq];exact hx⟩,⟨hi,?_⟩,fun b hb=>(hf b hb).1⟩⟩
  rw [show (n:Int) - 1 - ((i+1:Nat):Int)=((n - 1 - i:Nat):Int) - 1 by omega]
  exact st'
 done:=by
  intro X hP hw hK hc i pins s σ H E I hf st hg
  subst hP hw hK
  obtain⟨f0,f1,f2,f3,f4,f5⟩:=hf it (by simp)
  have hg:n<=i:=hg
  have st2:=st.2
  rw [show (n:Int) - 1 - (i:Int) = -1 by have:=st.1;omega] at st2
  exact wpAny_pyNext_rev_end (I.ok.hd hc) st2 fun h' eb=>⟨rfl,I.turned (t':=s.toks) (fun b o hb e=>eb b o hb e) f0 f1 f3 f4 f5⟩
 self:=fun _ _ _ _ _ st h=>iI st.2 h
noncomputable def aq2 (K:aa) (a:DE):DI:=fun σ H R E=>a σ H (fun x H1=>match x with
 | .ref p=>∃ xs,SqL K H1 p xs/\R (Oh K p xs.length) H1
 | _=>False) E
theorem aa0:cA "reversed" = some (.type "reversed"):=by decide +kernel
theorem bm0 {X:Cx} {tg a:Expr} {da:DE} {p pos:Pos} (hg:Gl X "reversed") (hm:X.mg "reversed" = none) (ha:QE X a da) (hs:noStar a=true):QI X tg (.Call (.Name "reversed" p) [a] [] pos) (aq2 X.K da):=by
 intro Ex mt pins s σ H R I h
 have hA:QA X [a] (Ab da Ai):=Hy ha No hs
 refine Call_ (Gv I hg hm aa0 (d6 (thn (hA Ex mt pos pins s σ H (fun vs H1=>∃ x,vs=[x]/\(match x with | .ref p=>∃ xs,SqL X.K H1 p xs/\R (Oh X.K p xs.length) H1|_=>False)) I ?_) fun us s1 ⟨vs,H1,I1,r1,q1⟩=>?_) (A4 hs [] X.env) rfl))
 ·have h2:da σ H (fun x H1=>∃ y,[x]=[y]/\(match y with | .ref p=>∃ xs,SqL X.K H1 p xs/\R (Oh X.K p xs.length) H1|_=>False)) (Ex σ):=by
   have e:(fun (x:V) (H1:Hp)=>∃ y,[x]=[y]/\(match y with | .ref p=>∃ xs,SqL X.K H1 p xs/\R (Oh X.K p xs.length) H1|_=>False))=fun x H1=>(match x with | .ref p=>∃ xs,SqL X.K H1 p xs/\R (Oh X.K p xs.length) H1|_=>False):=by
    funext x H1
    apply propext
    constructor
    ·rintro⟨y,e,h⟩
     cases e
     exact h
    ·exact fun h=>⟨x,rfl,h⟩
   rw [e]
   exact h
  exact h2
 ·obtain⟨x,rfl,q⟩:=q1
  obtain⟨u,rfl,ru⟩:=Hg r1
  cases x with
  | ref l=>
   cases ru
   obtain⟨xs,hq,q⟩:=q
   obtain⟨its,rv,pl,hz⟩:=I1.list hq
   refine call_reversed_list pl.isList ?_
   have e:((its.toArray.size:Nat):Int) - 1=(xs.length:Int) - 1 - ((0:Nat):Int):=by rw [am,rv.length];omega
   rw [e]
   have st:(s1.heap.push (revObj l ((xs.length:Int) - 1 - ((0:Nat):Int)))).IsRevIter s1.heap.objs.size l ((xs.length:Int) - 1 - ((0:Nat):Int)):=⟨_,aF _ rfl,rfl,rfl⟩
   refine iI st ?_
   refine⟨s1.heap.objs.size,[s1.heap.objs.size],_,_,H1,rfl,I1.kept (t':=s1.toks) fun b o e=>ag _ e,an4 l s1.heap.objs.size xs.length,⟨bC _,st⟩,fun b hb=>?_,q⟩
   have e:b=s1.heap.objs.size:=by simpa using hb
   subst e
   exact I1.fpOk (ac _) (I1.hok.fresh (ac _))
  | _=>exact (show False from q).elim
end L2
set_option maxHeartbeats 4000000
namespace L2
open PySem PySem.Spec PyProof.Rows
noncomputable def Cj (cs:List (Str×Addr)):List (Str×b9)->List (Str×Addr)->List (Str×Addr)
 | [],acc=>acc
 | (n,k)::r,acc=>if k==.free then Cj cs r ((n,(cs.lookup n).getD 0)::acc) else Cj cs r acc
theorem Lb {scope:Scope} {env:Env} (h:∀ y∈scope.names,y.2=.free -> ∃ c,env.cells.lookup y.1=some c):closureFor scope env=pure (Cj env.cells scope.names []):=by
 unfold closureFor
 generalize scope.names=names at h
 suffices ∀ acc,(forIn names acc fun (x:Str×b9) cs=>do
   if (x.2==.free)=true then do
    let c <- cellOf env x.1
    pure (dX ((x.1,c)::cs))
   else pure (dX cs):Sem (List (Str×Addr)))=pure (Cj env.cells names acc) by
  have:=this []
  simp only [bind_pure]
  exact this
 induction names with
 | nil=>intro acc;rfl
 | cons y r ih=>
  intro acc
  obtain⟨n,k⟩:=y
  rw [List.forIn_cons]
  unfold Cj
  by_cases e:(k==dE)=true
  ·obtain⟨c,hc⟩:=h (n,k) (by simp) (bS e)
   have ec:cellOf env n=pure c:=by
    unfold cellOf
    rw [show env.cells.lookup n=some c from hc]
   simp only [e,if_true,ec,pure_bind]
   rw [ih (fun y hy=>h y (ax _ hy))]
   rw [show env.cells.lookup n=some c from hc]
   rfl
  ·have e':(k==dE)=false:=by simpa using e
   simp only [e',cB,if_false,pure_bind]
   rw [ih (fun y hy=>h y (ax _ hy))]
theorem Gm {cs:List (Str×Addr)}:∀ {names:List (Str×b9)} {acc:List (Str×Addr)} {p:Str×Addr},p∈Cj cs names acc->p∈acc\/((p.1,dE)∈names/\p.2=(cs.lookup p.1).getD 0)
 | [],_,_,h=>.inl h
 | (n,k)::r,acc,p,h=>by
  unfold Cj at h
  by_cases e:(k==dE)=true
  ·rw [if_pos e] at h
   rcases Gm h with h|⟨h1,h2⟩
   ·rcases List.mem_cons.mp h with h|h
    ·subst h
     exact .inr ⟨by rw [bS e];simp,rfl⟩
    ·exact .inl h
   ·exact .inr ⟨ax _ h1,h2⟩
  ·rw [if_neg e] at h
   rcases Gm h with h|⟨h1,h2⟩
   ·exact .inl h
   ·exact .inr ⟨ax _ h1,h2⟩
theorem Gk {cs:List (Str×Addr)}:∀ {names:List (Str×b9)} {acc:List (Str×Addr)} {p:Str×Addr},p∈acc->p∈Cj cs names acc
 | [],_,_,h=>h
 | (n,k)::r,acc,p,h=>by
  unfold Cj
  split
  ·exact Gk (ax _ h)
  ·exact Gk h
theorem Lp {cs:List (Str×Addr)}:∀ {names:List (Str×b9)} {acc:List (Str×Addr)} {n:Str},(n,dE)∈names->n∈(Cj cs names acc).map (·.1)
 | [],_,_,h=>by cases h
 | (m,k)::r,acc,n,h=>by
  unfold Cj
  rcases List.mem_cons.mp h with e|h
  ·cases e
   rw [if_pos (show (dE==dE)=true from rfl)]
   exact List.mem_map.mpr ⟨_,Gk (b8),rfl⟩
  ·split <;> exact Lp h
noncomputable def Q6 (sc:List (Str×b9)) (names:List (Str×b9)):List (Str×b9):=names.map fun (n,k)=>if (k==.free&&sc.lookup n==some .cell) then (n,.cell) else (n,k)
noncomputable def Qq (names:List (Str×b9)):List Str:=(names.filter fun y=>(y.2==.local) && !(y.1==(".0" : Str))).map (·.1)
noncomputable def Rt (names:List (Str×b9)):List Str:=(names.filter fun y=>y.2==.free).map (·.1)
noncomputable def cfV (o:Option b9):Bool:=o==some .cell||o==some .free
noncomputable def Ck (G:Sg) (names:List (Str×b9)):Sg:={ G with N:=Qq names++Rt names,sc:=Q6 G.sc names,top:=false }
noncomputable def Eu (G:Sg) (names:List (Str×b9)):List (Option Nat):=(Qq names).map (fun _=>none)++(Rt names).map (fun x=>Bt G.N x 0)
noncomputable def Ea (G:Sg) (sc:Scope):Bool:=
 (sc.names.all fun y=>!(y.2==.cell))&&(sc.names.all fun y=>!(y.2==.local)||(sc.names.lookup y.1==some .local))&&(sc.kind==.function) &&
 decide (Qq sc.names++Rt sc.names).Nodup&&((Rt sc.names).all fun x=>(Bt G.N x 0).isSome&&cfV (G.sc.lookup x)&&cfV ((Q6 G.sc sc.names).lookup x)) &&
 ((Qq sc.names).all fun x=>(Q6 G.sc sc.names).lookup x==some .local)
section
variable {X:Cx} {G:Sg} {sc:Scope}
theorem Fm {o:Option b9} (h:cfV o=true):o=some .cell\/o=some .free:=by
 unfold cfV at h
 rw [dW] at h
 exact h.elim (fun e=>.inl (bS e)) fun e=>.inr (bS e)
theorem Ff (O:GOk X G):(gy sc X.env).names=Q6 G.sc sc.names:=by
 unfold gy Q6
 apply eM
 rintro⟨n,k⟩ _
 have e:X.env.kindOf n=G.sc.lookup n:=O.sc n
 dsimp only
 rw [e,O.kind]
 simp
theorem Mz (O:GOk X G) (h:Ea G sc=true):Id X (Ck G sc.names).N (Eu G sc.names) sc (Cj X.env.cells sc.names []):=by
 unfold Ea at h
 simp only [aw,bO,gI,decide_eq_true_eq,dW] at h
 obtain⟨⟨⟨⟨⟨h1,h2⟩,h3⟩,h4⟩,h5⟩,h6⟩:=h
 have fr:∀ y∈sc.names,y.2=.free -> ∃ c,X.env.cells.lookup y.1=some c:=fun y hy hf=>by
  refine O.cel y.1 ?_
  rw [O.sc]
  refine Fm (h5 y.1 ?_).1.2
  exact List.mem_map.mpr ⟨y,List.mem_filter.mpr ⟨hy,by rw [hf];rfl⟩,rfl⟩
 have nc:∀ y∈sc.names,y.2≠.cell:=fun y hy e=>by
  have:=h1 y hy
  rw [e] at this
  cases this
 refine⟨Lb fr,nc,bS h3,fun y hy hl=>?_,fun x c hx=>?_,fun x hx=>?_,?_,fun k j x e1 e2=>?_⟩
 ·rcases h2 y hy with z|z
  ·rw [hl] at z;cases z
  ·exact bS z
 ·have hm:=bN hx
  rcases Gm hm with z|⟨z1,z2⟩
  ·cases z
  ·obtain⟨c',hc'⟩:=fr _ z1 rfl
   have z2':c=(X.env.cells.lookup x).getD 0:=z2
   rw [show X.env.cells.lookup x=some c' from hc'] at z2' ⊢
   rw [z2']
   rfl
 ·have hn:(gy sc X.env).names=Q6 G.sc sc.names:=Ff O
  have key:∀ kd,(gy sc X.env).names.lookup x=some kd->cfV (some kd)=true -> ∃ c,(Cj X.env.cells sc.names []).lookup x=some c:=fun kd hkd hc=>by
   rw [hn] at hkd
   have hm:=bN hkd
   unfold Q6 at hm
   obtain⟨⟨n,k⟩,hy,e⟩:=List.mem_map.mp hm
   dsimp only at e
   have hfree:k=.free/\n=x:=by
    have hkc:=nc _ hy
    by_cases e1:(k==dE&&G.sc.lookup n==some .cell)=true
    ·rw [if_pos e1] at e
     rw [aw] at e1
     exact⟨bS e1.1,congrArg Prod.fst e⟩
    ·rw [if_neg e1] at e
     cases e
     rcases Fm hc with z|z
     ·exact absurd (aN z) hkc
     ·exact⟨aN z,rfl⟩
   obtain⟨rfl,rfl⟩:=hfree
   exact ae8 (Lp hy)
  rcases hx with hx|hx
  ·exact key _ hx rfl
  ·exact key _ hx rfl
 ·unfold Eu Ck
  simp
 ·have e1':(Qq sc.names++Rt sc.names)[k]? = some x:=e1
  have e2':((Qq sc.names).map (fun _=>(none:Option Nat))++(Rt sc.names).map (fun x=>Bt G.N x 0))[k]? = some (some j):=e2
  by_cases hlt:k<(Qq sc.names).length
  ·rw [c6 (by simpa using hlt),aP] at e2'
   cases q:(Qq sc.names)[k]? with
   | none=>rw [q] at e2';cases e2'
   | some z=>rw [q] at e2';cases e2'
  ·rw [cr (by simpa using hlt)] at e1' 
   rw [cr (by simpa using hlt),aj,aP,e1'] at e2'
   have hs:Bt G.N x 0=some j:=aN e2'
   have hx:x∈Rt sc.names:=a9 e1'
   obtain⟨⟨_,c1⟩,c2⟩:=h5 x hx
   refine⟨by rw [O.N];exact Dv hs,?_,?_⟩
   ·rw [O.sc];exact Fm c1
   ·rw [Ff O];exact Fm c2
theorem U1 (O:GOk X G) (h:Ea G sc=true) (fp:List Addr) (C:Addr) (s:ah) (H:Hp) (xe:Value->ah->Prop) :
  GOk (X.comp (Ck G sc.names).N sc (Cj X.env.cells sc.names []) fp C s H xe) (Ck G sc.names):=by
 have S:=Mz O h
 unfold Ea at h
 simp only [aw,bO,gI,decide_eq_true_eq,dW] at h
 obtain⟨⟨⟨⟨⟨h1,h2⟩,h3⟩,h4⟩,h5⟩,h6⟩:=h
 have hn:(gy sc X.env).names=Q6 G.sc sc.names:=Ff O
 refine⟨O.K,bS h3,(fun z=>by cases z),rfl,h4,fun x=>?_,fun x hx=>?_,fun z=>(by cases z),O.calm,O.hd,O.units,fun x hx=>S.has x hx,fun x g e=>?_,O.bl,fun z=>(by cases z),O.fr⟩
 ·show (gy sc X.env).names.lookup x=_
  rw [hn]
  rfl
 ·show Vis (gy sc X.env) x
  unfold Vis
  rw [hn]
  rcases List.mem_append.mp hx with q|q
  ·exact .inl (bS (h6 x q))
  ·exact .inr (Fm (h5 x q).2)
 ·refine GBOk.to (X:=X) ?_ ?_ ?_ ?_ ?_ ?_ (O.gb x g e)
  ·rfl
  ·rfl
  ·rfl
  ·rfl
  ·exact fun _ r=>r
  ·exact fun i F=>⟨F.kp,F.ok,F.room,F.binds,F.vals⟩
end
noncomputable def Fa:St->Hp->(Option Int->Hp->Prop)->EK->Prop:=fun _ H Q _=>Q none H
noncomputable def Fn (a:DE):St->Hp->(Option Int->Hp->Prop)->EK->Prop:=fun σ H Q E=>a σ H (fun x H1=>match x with
 | .int i=>Q (some i) H1
 | _=>False) E
noncomputable abbrev DO:=St->Hp->(Option Int->Hp->Prop)->EK->Prop
noncomputable def ct6 (K:aa):V->Option Int->Option Int->Hp->VK->Prop:=fun x lo hi H Q=>match x with
 | .str z=>z.length<=sizeLine/\Q (.str (jO z lo hi)) H
 | .ref a=>(∃ xs,SqL K H a xs /\ ∀ p,H p=none->Q (.ref p) (upd H p (.lst (Gn xs lo hi)))) \/
   (∃ xs,SqT K H a xs/\((HT.sIx xs.length 0 lo=0/\HT.sIx xs.length xs.length hi=xs.length)->Q (.ref a) H)/\(¬ (HT.sIx xs.length 0 lo=0/\HT.sIx xs.length xs.length hi=xs.length) -> ∀ p,H p=none->Q (.ref p) (upd H p (.tup (Gn xs lo hi)))))
 | _=>False
noncomputable def dSl (K:aa) (a:DE) (l h:DO):DE:=fun σ H Q E=>a σ H (fun x H1=>l σ H1 (fun lo H2=>h σ H2 (fun hi H3=>ct6 K x lo hi H3 Q) E) E) E
noncomputable def QO (X:Cx) (e:Option Expr) (t:DO):Prop:=∀ Ex,Meets X Ex->PO X e (fun σ H Q=>t σ H Q (Ex σ))
theorem Fx {prog:aH} {w:bh} {A:a_} {E:Value->ah->Prop} {s:ah} {t sl:Addr} {items:Array Value} {vl vu:Value} {lo hi:Option Int} {Q:Value->ah->Prop} (ht:IsTup s.heap t items) (hs:s.heap.IsSliceOf sl vl vu .none) (pl:jb vl lo) (pu:jb vu hi)
  (hw:HT.sIx items.size 0 lo=0/\HT.sIx items.size items.size hi=items.size) (h:Q (.ref t) s):aJ (model prog w) A (i8 (.ref t) (.ref sl)) Q E s:=by
 obtain⟨os,hos,hcs,hds⟩:=id hs
 have hTs:s.TypeIs (.ref sl) "slice" := ⟨os,hos,hcs⟩
 unfold i8
 try with_reducible refine bq ?_
 first|refine af (ar ?_)|skip
 refine af (wpAny_sequenceKey ht.typeIs (by decide) ?_)
 refine af (g6 (name:=d7 "__getitem__") ht.typeIs bJ
  (hG bJ ht.typeIs PyProof.Rows.entry_tuple_getitem ?_ (PyProof.Rows.args_tuple_getitem _ _)))
 show aJ _ _ (ge (.ref t) >>= _) _ _ s
 refine af (tupleItemsOf_ ht ?_)
 refine af (jH hTs ?_)
 rw [if_pos (by decide)]
 refine af (HT.sliceApplied_gen hs pl pu ?_)
 have hy:(((HT.sIx items.size 0 lo:Nat):Int)==0&&(1:Int)==1&&(HT.sIx items.size items.size hi - HT.sIx items.size 0 lo)==items.size)=true:=by
  rw [hw.1,hw.2]
  simp
 show aJ _ _ (if (((HT.sIx items.size 0 lo:Nat):Int)==0&&(1:Int)==1&&(HT.sIx items.size items.size hi - HT.sIx items.size 0 lo)==items.size)=true then _ else _) _ _ s
 rw [if_pos hy]
 refine af (m:=Builtin.Tuple.tupleIsExact _) (af (jH ht.typeIs (ar ?_)))
 rw [if_pos (by decide)]
 exact af (ju (ar ⟨_,rfl,ar h⟩))
noncomputable def ct5 (K:aa):V->Option Int->Option Int->Hp->VK->Prop:=fun x lo hi H Q=>∃ a xs,x=.ref a/\SqT K H a xs/\(HT.sIx xs.length 0 lo=0/\HT.sIx xs.length xs.length hi=xs.length)/\Q (.ref a) H
theorem by2 {X:Cx}:SlR X (ct5 X.K):=by
 intro pins s σ H x v vl vu lo hi sl Q I rx hs pl pu h
 obtain⟨a,xs,rfl,hx,hw,q⟩:=h
 cases rx
 obtain⟨its,r,ht,hz⟩:=I.tuple hx
 have hlen:its.toArray.size=xs.length:=by rw [am];exact r.length.symm
 exact⟨"tuple", _,PyProof.Rows.slot_tuple_getitem.lookup,ht.typeIs,Fx ht hs pl pu (by rw [hlen];exact hw) ⟨.ref a,H,I,rfl,q⟩⟩
section
variable {X:Cx} {G:Sg} {e:Expr} {de:DE} {lo hi:Option Expr} {dl dh:DO} {pos p2:Pos}
theorem Vv:QO X none Fa:=fun _ _=>as7
theorem Vw (h:QE X e de):QO X (some e) (Fn de):=by
 intro Ex m pins s σ H Q I hw
 rw [evalPart_some]
 refine thn (h Ex m pins s σ H _ I hw) fun u s1 ⟨x,H1,I1,r1,q1⟩=>?_
 cases x with
 | int i=>obtain⟨t,rfl⟩:=r1;exact⟨some i,H1,I1,.int i t,q1⟩
 | _=>exact (show False from q1).elim
theorem Ni (e:Expr) (z:Str) (t:Tok) (r:Value):letTemporaryGo e (.str z t) r=pure ():=by
 cases e <;> rfl
theorem ai3 (he:QE X e de) (hl:QO X lo dl) (hh:QO X hi dh):QE X (.Subscript e (.Slice lo hi none p2) pos) (dSl X.K de dl dh):=by
 intro Ex m pins s σ H Q I h
 refine Subscript_ (thn (he Ex m pins s σ H _ I h) fun v s1 ⟨x,H1,I1,r1,q1⟩=>?_)
 refine wpAny_Slice (thn (hl Ex m pins s1 σ H1 _ I1 q1) fun vl s2 ⟨l,H2,I2,pl,q2⟩=>thn (hh Ex m pins s2 σ H2 _ I2 q2) fun vu s3 ⟨u,H3,I3,pu,q3⟩=>?_)
 rw [evalPart_none]
 refine ar ?_
 show aJ (model X.prog X.w) X.A (jm e (.Slice lo hi none p2) v (.ref s3.heap.objs.size)) (EP X pins σ Q) X.xe { s3 with heap:=s3.heap.push { cls:=.type "slice", data:=.fields #[vl,vu,.none] } }
 have I4:Inv X pins σ H3 { s3 with heap:=s3.heap.push { cls:=.type "slice", data:=.fields #[vl,vu,.none] } }:=I3.kept (t':=s3.toks) fun b ob q=>ag _ q
 have gen:∀ r,SlR X r->r x l u H3 Q->aJ (model X.prog X.w) X.A (jm e (.Slice lo hi none p2) v (.ref s3.heap.objs.size)) (EP X pins σ Q) X.xe { s3 with heap:=s3.heap.push { cls:=.type "slice", data:=.fields #[vl,vu,.none] } }:=fun r hr q=>by
  obtain⟨T,id,hT,ht,hg⟩:=hr pins _ σ H3 x v vl vu l u s3.heap.objs.size Q I4 r1 (Heap.IsSliceOf.new ..) pl pu q
  exact j7 (ops:=[.ref s3.heap.objs.size,v]) ht hT hg (by with_unfolding_all rfl)
 cases x with
 | str z=>
  obtain⟨hz,q⟩:=q3
  obtain⟨t,rfl⟩:=r1
  have hk:KeptH (fun h=>Inv X pins σ H3 { s3 with heap:=h }):=fun h ob J=>J.kept (t':=s3.toks) fun b o eb=>ag _ eb
  have fin:∀ h' t' k,Inv X pins σ H3 { s3 with heap:=h' }->(fun (a:Value) (s':ah)=>s3.toks<=s'.toks->EP X pins σ Q a s') (.str (jO z l u) t') { s3 with heap:=h',toks:=k }:=fun h' t' k J htk=>⟨.str _,H3,J.tok k htk,⟨_,rfl⟩,q⟩
  refine bt (n:=s3.toks) (ac _) ?_
  cases pl with
  | none=>
   cases pu with
   | none=>exact gA (SBH.sliceItem_nn hk I3 fin hz) (by with_unfolding_all rfl) (Ni e z t)
   | int j uj=>exact gA (SBH.sliceItem_ns hk I3 fin hz) (by with_unfolding_all rfl) (Ni e z t)
  | int i ui=>
   cases pu with
   | none=>exact gA (SBH.sliceItem_sn hk I3 fin hz) (by with_unfolding_all rfl) (Ni e z t)
   | int j uj=>exact gA (SBH.sliceItem_ss hk I3 fin hz) (by with_unfolding_all rfl) (Ni e z t)
 | ref a=>
  rcases q3 with ⟨xs,h1,h2⟩|⟨xs,h1,h2,h3⟩
  ·exact gen _ av7 ⟨a,xs,rfl,h1,h2⟩
  ·by_cases hw:HT.sIx xs.length 0 l=0/\HT.sIx xs.length xs.length u=xs.length
   ·exact gen _ by2 ⟨a,xs,rfl,h1,hw,h2 hw⟩
   ·exact gen _ by3 ⟨a,xs,rfl,h1,hw,h3 hw⟩
 | _=>exact (show False from q3).elim
noncomputable def Ji:Expr->Bool
 | .Set _ _ _=>false
 | _=>true
theorem Jj {e:Expr} (h:Ji e=true) (env:Env) (x:Value):d_ e env x=pure x:=by
 cases e with
 | Set _ _ _=>cases h
 | _=>rfl
theorem Ek:Meets X (fun _ _ _=>False):=fun _ _ _ _ _ _ _ h=>h.elim
variable {tg iter elt:Expr} {ifs:List Expr} {sc:Scope} {wi:DI} {g:DG} {tc:DT}
noncomputable def Sb (G:Sg) (x:Str):Bool:=(G.sc.lookup x==some .local)||(G.top&&(G.sc.lookup x==some .cell))
noncomputable def wG:Nat->Sg->Expr->DG
 | 0,_,_=>gNo
 | n+1,G,e=>match e with
  | .Name x _=>match Bt G.N x 0 with
   | some i=>if Sb G x=true then gdN i else gNo
   | none=>gNo
  | .Tuple ts _ _=>if G.calm=true/\ts.all noStar=true then gdT G.K ts.length (ts.map (wG n G)) else gNo
  | _=>gNo
theorem Nk (O:GOk X G) {x:Str} (h:Sb G x=true):Loc X.env.scope x/\(X.fn x=true\/X.env.scope.names.lookup x=some .local):=by
 unfold Sb at h
 rw [dW,aw] at h
 rcases h with h|⟨h1,h2⟩
 ·have:X.env.scope.names.lookup x=some .local:=by rw [O.sc];exact bS h
  exact⟨.inl this,.inr this⟩
 ·have:X.env.scope.names.lookup x=some .cell:=by rw [O.sc];exact bS h2
  exact⟨.inr this,.inl (O.top h1 x)⟩
theorem D1 {e:Expr} (h:noStar e=true) (es:List Expr) (env:Env):cL (e::es) env=(false,jC e env)::cL es env:=by
 cases e with
 | Starred _ _=>cases h
 | _=>rfl
theorem Ie {es:List Expr} (h:es.all noStar=true) (env:Env):(cL es env).length=es.length/\(cL es env).findIdx? (·.1)=none:=by
 induction es with
 | nil=>exact⟨rfl,rfl⟩
 | cons e es ih=>
  rw [bu,aw] at h
  obtain⟨h1,h2⟩:=ih h.2
  rw [D1 h.1]
  refine⟨by rw [aE,aE,h1],?_⟩
  rw [List.findIdx?_cons,h2]
  rfl
theorem Rf:∀ (n:Nat) (X:Cx) (G:Sg),GOk X G -> ∀ e,PG X e (wG n G e)
 | 0,_,_,_,_=>Qw
 | n+1,X,G,O,e=>by
  cases e with
  | Name x p=>
   unfold wG
   dsimp only
   split
   ·rename_i i e
    split
    ·rename_i h
     obtain⟨h1,h2⟩:=Nk O h
     exact as5 (by rw [O.N];exact O.nd) (by rw [O.N];exact Dv e) h1 h2
    ·exact Qw
   ·exact Qw
  | Tuple ts k p=>
   unfold wG
   dsimp only
   split
   ·rename_i h
    obtain⟨h1,h2⟩:=h
    obtain⟨h3,h4⟩:=Ie h2 X.env
    rw [<- O.K]
    refine cs8 (O.calm▸h1) ?_ h3 h4
    clear h3 h4
    induction ts with
    | nil=>exact cb9
    | cons t ts ih=>
     rw [bu,aw] at h2
     refine cb8 (Rf n X G O t) (ih h2.2) ?_
     rw [D1 h2.1]
     rfl
   ·exact Qw
  | _=>exact Qw
end
end L2
namespace L2
open PySem PySem.Spec
structure Up (l:List Addr) (e C:Addr) (dx:Option Addr) (h h':Heap):Prop where
 exc:∃ (vs':Array Value) (T:Addr) (oT:Obj) (ts':Array Value),h'.get? e=some (Av C dx vs')/\vs'.size=6/\vs'[1]? = some (.ref T)/\h.objs.size<=T/\T≠e/\h'.get? T=some oT/\oT.data=.fields ts'/\3<ts'.size /\ ∀ vs,h.get? e=some (Av C dx vs)->vs'[2]? = vs[2]?
 keep:∀ b o,b≠e->b∉l->h.get? b=some o->h'.get? b=some o
 slot:∀ b o,b≠e->h.get? b=some o -> ∃ sl,h'.get? b=some { o with slots:=sl }
noncomputable abbrev tbO (fs:Array Value):Obj:={ cls:=.type "traceback", dict:=none,data:=.fields fs }
noncomputable abbrev Jc (T:Addr):Obj->Obj:=bH (·.setIfInBounds 1 (.ref T))
noncomputable abbrev Hq (h:Heap) (e:Addr) (fs:Array Value):Heap:=(h.push (tbO fs)).update e (Jc h.objs.size)
section
variable {h:Heap} {e C:Addr} {dx:Option Addr} {vs fs:Array Value}
theorem apart (q:h.get? e=some (Av C dx vs)):h.objs.size≠e:=fE (aC q)
theorem Qp (T:Addr):(Jc T (Av C dx vs)).data=.fields (vs.setIfInBounds 1 (.ref T)):=rfl
theorem Rp (q:h.get? e=some (Av C dx vs)):(Hq h e fs).get? e=some (Av C dx (vs.setIfInBounds 1 (.ref h.objs.size))):=
 bM (Jc h.objs.size) (ag (tbO fs) q) (cW (Qp h.objs.size))
theorem Rq (q:h.get? e=some (Av C dx vs)):(Hq h e fs).get? h.objs.size=some (tbO fs):=
 (aY (h.push (tbO fs)) (Jc h.objs.size) (apart q).symm).trans (aF h rfl)
theorem Hb {b:Addr} {o:Obj} (ne:b≠e) (q:h.get? b=some o):(Hq h e fs).get? b=some o:=
 (aY (h.push (tbO fs)) (Jc h.objs.size) ne.symm).trans (ag (tbO fs) q)
theorem R3 {h0:Heap} {l:List Addr} (hz:h.objs.size=h0.objs.size) (k1:∀ b,b∉l->h.get? b=h0.get? b) (k2:∀ b o,h0.get? b=some o -> ∃ sl,h.get? b=some { o with slots:=sl }) (q:h.get? e=some (Av C dx vs)) (hs:vs.size=6) (hf:3<fs.size) :
  Up l e C dx h0 (Hq h e fs) where
 exc:=⟨_,h.objs.size,_,_,Rp q,by rw [c8];exact hs,dS (by omega),by omega,apart q,Rq q,rfl,hf,fun vs0 q0=>by
  obtain⟨sl,z⟩:=k2 e _ q0
  rw [q] at z
  cases z
  exact cu (by decide)⟩
 keep:=fun b o ne nl hb=>Hb ne ((k1 b nl).trans hb)
 slot:=fun b o ne hb=>let ⟨sl,z⟩:=k2 b o hb;⟨sl,Hb ne z⟩
end
section
variable {M:Model} {A:a_} {E:Value->ah->Prop} {s:ah} {base:Heap} {env:Env} {outer:List Env} {L e C:Addr} {dx:Option Addr} {vs:Array Value} {Q:Unit->ah->Prop}
theorem W9 {head:Value} {hadNext:Bool} {env0:Env} (hfr:A.frames=some (env0::outer)) (hl:s.heap.FunFrames base (env0::outer)) (h0:env0.frame=some L) (hf:env.frame=some L) (q:s.heap.get? e=some (Av C dx vs)) (hs:vs.size=6) (k:∀ h',Up (frs (env0::outer)) e C dx s.heap h'->Q () { s with heap:=h' }) :
  aJ M A ((j3 env >>= fun a=>entryPlaceOf L hadNext >>= fun pl=>fR head a .none (jS L) .none pl >>= fun b=>setField (.ref e) 1 b)) Q E s:=by
 have off:e∉frs (env0::outer):=fun z=>by
  obtain⟨_,o,z1,z2⟩:=hl.mem z
  rw [q] at z1
  cases z1
  exact z2 vs rfl
 have fe:j3 env=j3 env0:=by unfold j3;rw [hf,h0]
 rw [fe]
 refine af (wpAny_frameOf_fun hfr hl h0 fun h1 ⟨a1,a2,a3⟩=>af (wpAny_entryPlaceOf fun pl hpl=>?_))
 unfold fR newFields
 refine af (dq ?_ (hpl.sizeOk5 _ _ _ _ _))
 have q1:h1.get? e=some (Av C dx vs):=(a2 e off).trans q
 have lt:3<([head,.ref L,.none,jS L,.none]++(if pl.isEmpty then iK 6 ba else pl)).toArray.size:=by rw [am,ay];simp only [aE,List.length_nil];omega
 generalize ([head,.ref L,.none,jS L,.none]++(if pl.isEmpty then iK 6 ba else pl)).toArray=fs at lt ⊢
 exact gG (ag (tbO fs) q1) rfl (show 1<vs.size by omega) (k _ (R3 a1 a2 a3 q1 hs lt))
end
end L2
namespace L2
open PySem PySem.Spec PyProof.Rows
open Sem (wp)
noncomputable def b51 (n:Nat) (a:Addr) (H':Hp) (s':ah):Prop:=
 ∃ (C:Addr) (dx:Option Addr) (vs:Array Value) (T:Addr) (oT:Obj) (ts:Array Value),FlO H' a C dx/\s'.heap.get? a=some (Av C dx vs)/\vs.size=6/\vs[1]? = some (.ref T)/\T≠a/\s'.heap.get? T=some oT/\oT.data=.fields ts/\ts[3]? = some .none/\n<=T/\H' T=none
noncomputable def CXE (P:aH) (w:bh):CXT:=fun outer H s E e s'=>
 ∃ (a:Addr) (H':Hp),e=.ref a/\(s'.os=s.os/\s.toks<=s'.toks)/\gN s'.gens/\Un (frs outer) [] H H' s.heap s'.heap/\HOk P w H' s'.heap/\b51 s.heap.objs.size a H' s'/\E e none H'
section
variable {X:Cx} {pins:List (Addr×Obj)} {σ:St} {H:Hp} {s:ah} {a C:Addr} {dx:Option Addr} {h':Heap}
theorem aq8 (I:Inv X pins σ H s) (ea:FlO H a C dx) (L:Up (frs X.stack) a C dx s.heap h'):Un (frs X.stack) [] H H s.heap h' where
 keep:=fun b o q n hb _=>L.keep b o (fun z=>by rw [z] at n;rcases ea with ea|ea <;> (rw [ea] at n;cases n)) hb q
 slot:=fun b o q n _ _=>L.slot b o (fun z=>by rw [z] at n;rcases ea with ea|ea <;> (rw [ea] at n;cases n)) q
 free:=fun b o _ n _=>n
 there:=fun b o q _=>by
  by_cases hb:b=a
  ·obtain⟨vs',T,oT,ts',h1,_⟩:=L.exc
   exact⟨_,by rw [hb];exact h1⟩
  ·obtain⟨sl,h1⟩:=L.slot b o hb q
   exact⟨_,h1⟩
 tups:=fun _ _ e=>e
 frzs:=fun _ _ _ e=>e
 tbls:=fun b ps e=>⟨#[],by rw [e];simp⟩
theorem aq7 (I:Inv X pins σ H s) (ea:FlO H a C dx) (L:Up (frs X.stack) a C dx s.heap h'):HOk X.prog X.w H h':=fun b o e=>by
 by_cases hb:b=a
 ·subst hb
  obtain⟨vs',T,oT,ts',h1,h2,_,_,_,_,_,_,hc⟩:=L.exc
  rcases ea with ea|ea
  ·obtain⟨vs,g1,_,g3⟩:=ac8 I ea
   rw [ea] at e
   cases e
   exact ac7 h1 h2 ((hc vs g1).trans g3)
  ·rw [ea] at e
   cases e
   exact ac5 h1 h2
 ·refine (I.hok b o e).stay (fun c u hc q=>L.keep c u ?_ ?_ q) (fun _ q=>q) fun _ _ q=>q
  ·rcases hc with rfl|hc
   ·exact hb
   ·rintro rfl
    rcases ea with ea|ea <;> (rw [ea] at hc;cases hc)
  ·intro hm
   have n:=I.stkFree c hm
   rcases hc with rfl|hc
   ·rw [n] at e;cases e
   ·rw [n] at hc;cases hc
end
end L2
namespace L2
open PySem PySem.Spec PyProof.Rows
open Sem (wp)
section
variable {X:Cx} {pins:List (Addr×Obj)} {σ:St} {H:Hp} {s:ah} {a:Addr} {E:Value->ah->Prop} {Q:Unit->ah->Prop}
noncomputable def FlyT (X:Cx) (pins:List (Addr×Obj)) (H:Hp) (a:Addr) (s:ah) (z:Value):Prop:=
 ∃ (C:Addr) (dx:Option Addr) (vs:Array Value) (T:Addr) (oT:Obj) (ts:Array Value),FlO H a C dx/\s.heap.get? a=some (Av C dx vs)/\vs.size=6/\vs[1]? = some (.ref T)/\T≠a/\s.heap.get? T=some oT/\oT.data=.fields ts/\ts[3]? = some z/\Ct X pins H T
theorem FlyT.at {z:Value} (F:FlyT X pins H a s z):E5 X pins H a s:=by
 obtain⟨C,dx,vs,T,oT,ts,h1,h2,h3,q1,q2,q3,q4,q5,q6⟩:=F
 exact⟨C,dx,vs,h1,h2,h3,.inr ⟨T,oT,ts,q1,q2,q3,q4,⟨z,q5⟩,q6⟩⟩
theorem ci7 {C T:Addr} {dx:Option Addr} {vs ts:Array Value} {oT:Obj} {y:Value} (I:Inv X pins σ H s) (h1:FlO H a C dx) (h2:s.heap.get? a=some (Av C dx vs)) (h3:vs.size=6) (q1:vs[1]? = some (.ref T)) (q2:T≠a) (q3:s.heap.get? T=some oT) (q4:oT.data=.fields ts) (q5:ts[3]? = some y) (q6:Ct X pins H T) (v:Value) :
  Inv X pins σ H { s with heap:=s.heap.update T (bH (·.setIfInBounds 3 v)) }/\FlyT X pins H a { s with heap:=s.heap.update T (bH (·.setIfInBounds 3 v)) } v/\(s.heap.update T (bH (·.setIfInBounds 3 v))).get? a=some (Av C dx vs):=by
 have ha:(s.heap.update T (bH (·.setIfInBounds 3 v))).get? a=some (Av C dx vs):=(aY _ _ q2).trans h2
 obtain⟨c0,d0,dt0,sl0⟩:=oT
 cases (show dt0=.fields ts from q4)
 have hT:(s.heap.update T (bH (·.setIfInBounds 3 v))).get? T=some ⟨c0,d0,.fields (ts.setIfInBounds 3 v),sl0⟩:=bM _ q3 (cW (vs:=ts.setIfInBounds 3 v) rfl)
 exact⟨I.turned (t':=s.toks) (fun b o ne e=>(aY _ _ (cz ne)).trans e) q6.1 q6.2.1 q6.2.2.2.1 q6.2.2.2.2.1 q6.2.2.2.2.2,⟨C,dx,vs,T,_,_,h1,ha,h3,q1,q2,hT,rfl,dS (Array.getElem?_eq_some_iff.mp q5).1,q6⟩,ha⟩
theorem V2 {A:a_} {fr:Option Addr} {z:Value} (I:Inv X pins σ H s) (F:FlyT X pins H a s z) (h:∀ s',Inv X pins σ H s'->FlyT X pins H a s' (fr.elim .none fun f=>jS f)->Q () s'):aJ (model X.prog X.w) A (iB (.ref a) fr) Q E s:=by
 obtain⟨C,dx,vs,T,oT,ts,h1,h2,h3,q1,q2,q3,q4,q5,q6⟩:=F
 obtain⟨I',F',_⟩:=ci7 I h1 h2 h3 q1 q2 q3 q4 q5 q6 (fr.elim .none fun f=>jS f)
 unfold iB
 refine af (cw h2 rfl q1 ?_)
 rw [if_pos (by simp)]
 exact gG q3 q4 (Array.getElem?_eq_some_iff.mp q5).1 (h _ I' F')
theorem af8 {env:Env} (I:Inv X pins σ H s) {e0:Env} {o0:List Env} {L:Addr} (hs:X.stack=e0::o0) (h0:e0.frame=some L) (hf:env.frame=some L) (F:E5 X pins H a s) (h:∀ s' z,Inv X pins σ H s'->FlyT X pins H a s' z->Q () s') :
  aJ (model X.prog X.w) X.A (jk (.ref a) env) Q E s:=by
 obtain⟨C,dx,vs,h1,h2,h3,h4⟩:=F
 have fr:X.A.frames=some (e0::o0):=hs▸I.ok.frames
 have new:∀ {s1:ah} {head:Value} {hadNext:Bool},Inv X pins σ H s1->s1.heap.get? a=some (Av C dx vs)->aJ (model X.prog X.w) X.A ((j3 env >>= fun y=>entryPlaceOf L hadNext >>= fun pl=>fR head y .none (jS L) .none pl >>= fun b=>setField (.ref a) 1 b)) Q E s1:=fun {s1 head hadNext} I1 q=>by
  have fn:s1.heap.FunFrames X.base (e0::o0):=hs▸I1.stack
  refine W9 (base:=X.base) fr fn h0 hf q h3 fun h' L=>?_
  rw [<- hs] at L
  have I':=I1.call (h':=h') (g':=s1.gens) (t':=s1.toks) (d':=s1.drawn) (ch:=[]) (aq8 I1 h1 L) (aq7 I1 h1 L) I1.bare (fun b z=>absurd z (by simp))
  obtain⟨vs',T,oT,ts',a1,a2,a3,a4,a5,a6,a7,a8,_⟩:=L.exc
  exact h _ _ I' ⟨C,dx,vs',T,oT,ts',h1,a1,a2,a3,a5,a6,a7,gq a8,I1.fpOk a4 (I1.hok.fresh a4)⟩
 unfold jk
 simp only [hf]
 rcases h4 with c|⟨T,oT,ts,c,ne,hT,hd,⟨z,hz⟩,fp⟩
 ·refine af (cw h2 rfl c ?_)
  rw [if_neg (by decide)]
  exact new I h2
 ·refine af (cw h2 rfl c ?_)
  rw [if_pos (by simp)]
  refine af (cw hT hd hz ?_)
  by_cases e:(z==jS L)=true
  ·rw [if_pos e]
   exact ar (h s z I ⟨C,dx,vs,T,oT,ts,h1,h2,h3,c,ne,hT,hd,hz,fp⟩)
  ·rw [if_neg e]
   obtain⟨I',_,ha⟩:=ci7 I h1 h2 h3 c ne hT hd hz fp .none
   exact af (gG hT hd (Array.getElem?_eq_some_iff.mp hz).1 (new I' ha))
theorem Vn (I:Inv X pins σ H s) (hs:X.stack=X.env::X.outer) (hf:X.env.frame=some X.env.locals) (F:E5 X pins H a s) (h:∀ s',Inv X pins σ H s'->FlyT X pins H a s' .none->Q () s') :
  aJ (model X.prog X.w) X.A (jk (.ref a) X.env) (fun _ s1=>aJ (model X.prog X.w) X.A (iB (.ref a) none) Q E s1) E s:=
 af8 I hs hf hf F fun s1 z I1 F1=>V2 I1 F1 h
theorem Gq {A:a_} (I:Inv X pins σ H s) (F:E5 X pins H a s) (h:∀ s',Inv X pins σ H s'->E5 X pins H a s'->Q () s'):aJ (model X.prog X.w) A (iB (.ref a) none) Q E s:=by
 obtain⟨C,dx,vs,h1,h2,h3,h4⟩:=F
 rcases h4 with h4|⟨T,oT,ts,q1,q2,q3,q4,⟨z,q5⟩,q6⟩
 ·unfold iB
  refine af (cw h2 rfl h4 ?_)
  rw [if_neg (by decide)]
  exact ar (h s I ⟨C,dx,vs,h1,h2,h3,.inl h4⟩)
 ·exact V2 I ⟨C,dx,vs,T,oT,ts,h1,h2,h3,q1,q2,q3,q4,q5,q6⟩ fun s' I' F'=>h s' I' F'.at
end
section
variable {prog:aH} {w:bh} {A:a_} {E:Value->ah->Prop} {s:ah} {K:aa} {a C D:Addr} {dx:Option Addr} {vs:Array Value} {b:Bool} {Q:Bool->ah->Prop}
open PySem.W in
theorem Jd (X:K.In s.heap) (c:ECls K C) (d:ECls K D) (ha:s.heap.get? a=some (Av C dx vs)) (m:mroIn K C (.ref D)=some b) (h:Q b s) :
  aJ (model prog w) A (excMatches (.ref a) (.ref D)) Q E s:=by
 obtain⟨nm,qn,N,bs,bm,hdct,sn,sub,ab,col,dd,k0,k1,k2,k3,k5,hl,ht,hd⟩:=c.obj
 obtain⟨nm',qn',N',bs',bm',hdct',sn',sub',ab',col',dd',k0',k1',k2',k3',k5',hl',ht',hd'⟩:=d.obj
 have hC:=X _ _ hl
 have hD:=X _ _ hl'
 have hcB:(az D::bm').contains (.type "BaseException")=true:=by rw [bn,Bi ht' (show valTail.contains (.type "BaseException")=true by decide +kernel),eP]
 have hcD:(az C::bm).contains (.ref D)=b:=by
  unfold mroIn at m
  obtain⟨cd,e,em⟩:∃ cd,clsIn K C=some cd/\cd.mro=.ref C::bm:=⟨_,by unfold clsIn;rw [hl],rfl⟩
  rw [e,cf,em] at m
  exact aN m
 have f:=tc_notTuple
 obtain⟨hp,g,dr,tk,os⟩:=s
 unfold excMatches
 repeat (first|with_reducible refine aW ha ?_|with_reducible refine aW hD ?_|(with_reducible refine bW hD ?_;rw [hcB])|(with_reducible refine bW hC ?_;rw [hcD])|wp_step)
 cases b <;> (wp_walk;exact h)
end
end L2
namespace L2
open PySem PySem.Spec PyProof.Rows
section
variable {X:Cx} {G:Sg} {elt tg iter:Expr} {ifs:List Expr} {sc:Scope} {wi:DI} {g:DG} {tc:DT} {de:DE} {pos:Pos}
theorem b65 {pins pins':List (Addr×Obj)} {σ:St} {H2 H':Hp} {s2:ah} {N':List Str} {cl:List (Str×Addr)} {fp:List Addr} {C T:Addr} {xe:Value->ah->Prop} (I2:Inv X pins σ H2 s2) (f2:∀ b∈fp,Ct X pins H2 b)
  (F:Ct (X.comp N' sc cl fp C s2 H2 xe) pins' H' T):Ct X pins H' T:=by
 obtain⟨r1,r2,r3,r4,r5,r6⟩:=F
 rcases r4 with r4|r4
 ·exact⟨r1,(f2 T r4).2⟩
 ·exact I2.fpOk r4 r1
theorem Je {Ex:St->EK} (m:Meets X Ex) (fr:FrH X) {pins:List (Addr×Obj)} {σ:St} {H2:Hp} {s2:ah} {N':List Str} {cl:List (Str×Addr)} {fp:List Addr} {C D:Addr} {us:Option (Value->Sem Unit)} {Q2:Value->ah->Prop} (I2:Inv X pins σ H2 s2) (f2:∀ b∈fp,Ct X pins H2 b)
  (hC:s2.heap.objs.size<=C):Meets (X.comp N' sc cl fp C s2 H2 (Bd X sc cl us Q2 D C)) (fun _ a H'=>Ex σ a H'):=by
 intro pins' σ' H' s' a I' F' hE
 obtain⟨e0,o0,L,f1,f3,f4⟩:=fr
 refine af8 (X:=X.comp N' sc cl fp C s2 H2 (Bd X sc cl us Q2 D C)) (env:=j2 sc cl C X.env) I' f1 f3 f4 F' fun s3 z I3 F3=>?_
 obtain⟨mm,hn,_⟩:=id I3.loc
 refine⟨mm,hn,fun h' sb cenv hce=>?_⟩
 have I4:Inv X pins σ H' s3:=I2.call' (ch:=fp) I3.os I3.base I3.hok I3.bare fun b hb=>⟨(f2 b hb).2.2.2.1,(f2 b hb).2.1,(f2 b hb).2.2.2.2.1,(f2 b hb).2.2.2.2.2⟩
 have fo:=I2.fpOk hC I3.free
 obtain⟨g0,g1,g2,g3,g4,g5⟩:=id fo
 have I5:Inv X pins σ H' { s3 with heap:=h' }:=I4.turned (t':=s3.toks) (fun b o hb e=>(sb.2 b hb).trans e) g0 g1 g3 g4 g5
 obtain⟨C0,dx,vs,T,oT,ts,h1,h2,h3,q1,q2,q3,q4,q5,q6⟩:=F3
 have na:a≠C:=fun z=>by rcases h1 with h1|h1 <;> (rw [z,g0] at h1;cases h1)
 have nT:T≠C:=q6.2.1
 have F5:FlyT X pins H' a { s3 with heap:=h' } z:=⟨C0,dx,vs,T,oT,ts,h1,(sb.2 a na).trans h2,h3,q1,q2,(sb.2 T nT).trans q3,q4,q5,b65 I2 f2 q6⟩
 unfold PySem.passOn
 refine af (cw (s:={ s3 with heap:=h' }) ((sb.2 a na).trans h2) rfl q1 ?_)
 rw [if_neg (by simp)]
 refine af (V2 I5 F5 fun s6 I6 F6=>?_)
 exact wpAny_throw (m pins σ H' s6 a I6 F6.at hE)
noncomputable def ao5 (X:Cx) (ifs:List Expr) (t:DT):Prop:=∀ Ex,Meets X Ex->Wd X ifs (fun σ H Q=>t σ H Q (Ex σ))
theorem Qz:ao5 X [] Eb:=fun _ _=>ag9
theorem Q0 {c:Expr} {t:DT} (h:QT X c t):ao5 X [c] t:=fun Ex m=>ah0 (h Ex m)
theorem Vs (O:GOk X G) (hc:X.calm=true) (hk:Ea G sc=true) (hs:Ji iter=true) (hi:QI X tg iter wi) (hg:∀ X',GOk X' (Ck G sc.names)->PG X' tg g) (ht:∀ X',GOk X' (Ck G sc.names)->ao5 X' ifs tc) (he:∀ X',GOk X' (Ck G sc.names)->QE X' elt de) :
  QE X (.ListComp elt [⟨tg,iter,ifs,0⟩] sc pos) (C3 (Eu G sc.names) wi g tc de):=by
 intro Ex m pins s σ H Q I h
 exact ab0 hc (Mz O hk) (hi Ex m) (fun Q2 fp C D s2 H2 I2 f2 hC=>
  have M:=Je (N':=(Ck G sc.names).N) (cl:=Cj X.env.cells sc.names []) (us:=none) (Q2:=Q2) (D:=D) m O.fr I2 f2 hC
  have K:=U1 O hk fp C s2 H2 (Bd X sc (Cj X.env.cells sc.names []) none Q2 D C)
  ⟨hg _ K,ht _ K _ M,he _ K _ M⟩) I h (fun x=>Jj hs X.env x)
end
noncomputable def Uz (K:aa) (op:BoolOp):List DE->DE
 | []=>dNo
 | [a]=>a
 | a::r=>match op with
  | .And=>Cu K a (Uz K op r)
  | .Or=>ab2 K a (Uz K op r)
noncomputable def Uy (op:BoolOp):List DT->DT
 | []=>fun _ _ _ _=>False
 | [a]=>a
 | a::r=>match op with
  | .And=>E8 a (Uy op r)
  | .Or=>dOr a (Uy op r)
noncomputable def Cn:List DE->DA
 | []=>Ai
 | a::r=>Ab a (Cn r)
noncomputable def tNo:DT:=fun _ _ _ _=>False
noncomputable def Xu (G:Sg) (ops:List jL) (bs:List Expr) (a:DE) (ds:List DE):DE:=match ops,bs,ds with
 | [op],[b],[d]=>if cZ op b=false then Ah (Lf G.K op) a d else dNo
 | [op,op'],[b,c],[d,d']=>if lastMarks [op,op'] [b,c]=false then C2 (Lf G.K op) (Lf G.K op') a d d' else dNo
 | _,_,_=>dNo
noncomputable def an8 (G:Sg) (x:Str) (es:List Expr) (ds:List DE):DE:=
 if F0 G x=true/\(Bt G.N x 0)=none/\es.all noStar=true then (match G.gb.lookup x with
  | some (.fn i)=>if es.length<=i.ps.length/\i.ps.length<=es.length+i.dfs.length then dFn (spE i.sp (i.dfs.drop (es.length+i.dfs.length - i.ps.length))) (Cn ds) else dNo
  | some (.exc C oi)=>(match oi with
   | none=>if es.isEmpty=true then dFn (mkX C none 0) (Cn ds) else dFn (fun vs H Q E=>vs.length<=1000/\mkX C none 0 vs H Q E) (Cn ds)
   | some i=>if es.length+1<=i.ps.length/\i.ps.length<=es.length+1+i.dfs.length then (if es.isEmpty=true then dFn (mkX C (some i) (es.length+1+i.dfs.length - i.ps.length)) (Cn ds)
    else dFn (fun vs H Q E=>vs.length<=1000/\mkX C (some i) (es.length+1+i.dfs.length - i.ps.length) vs H Q E) (Cn ds)) else dNo)
  | some (.cls C oi)=>(match oi with
   | none=>if es.isEmpty=true then dFn (mkC C none 0) (Cn ds) else dNo
   | some i=>if es.length+1<=i.ps.length/\i.ps.length<=es.length+1+i.dfs.length then dFn (mkC C (some i) (es.length+1+i.dfs.length - i.ps.length)) (Cn ds) else dNo)
  | some _=>dNo
  | none=>if G.bl.contains x=true then (match a93 G.K G.calm x with
   | some (_,r)=>if es.isEmpty=true then dNo else dFn (fun vs H Q _=>r vs H Q) (Cn ds)
   | none=>dNo) else dNo) else dNo
noncomputable def ao0 (G:Sg) (o:Expr) (m:Str) (es:List Expr) (ap cp:Pos) (d:DE) (ds:List DE):DE:=
 if B0 o=true/\es.all noStar=true/\es.length<30/\(ap.endLine==cp.line)=true then (match Bp G.gb m with
  | none=>dMt (rMt G.K (mtR G.K m)) d (Cn ds)
  | some l=>Ba m es.length l d (Cn ds)) else dNo
noncomputable def a49 (G:Sg) (o:Expr) (m:Str) (es:List Expr) (ap cp:Pos):Option FI:=match o with
 | .Name c _=>if m = "__init__" /\ F0 G c=true/\Bt G.N c 0=none/\es.isEmpty=false/\B0 o=true/\es.all noStar=true/\es.length<30/\(ap.endLine==cp.line)=true then (match G.gb.lookup c with
  | some (.ini _ i)=>if es.length<=i.ps.length/\i.ps.length<=es.length+i.dfs.length then some i else none
  | _=>none) else none
 | _=>none
noncomputable def ab4 (d:DE):DE:=fun σ H Q E=>d σ H (fun v H'=>Thaw H H' (Q v)) E
theorem au0 {X:Cx} {e:Expr} {d:DE} (h:QE X e d):QE X e (ab4 d):=fun Ex mt pins s σ H Q I q=>
 thn (h Ex mt pins s σ H _ I q) fun v s1 ⟨x,H1,I1,r1,q1⟩=>
  let ⟨H2,I2,q2⟩:=Thaw.inv I I1 q1
  ⟨x,H2,I2,r1,q2⟩
noncomputable def Um (G:Sg) (o:Expr) (m:Str) (es:List Expr) (ap cp:Pos) (d:DE) (ds:List DE):DE:=match a49 G o m es ap cp with
 | some i=>dFn (spE i.sp (i.dfs.drop (es.length+i.dfs.length - i.ps.length))) (Cn ds)
 | none=>ao0 G o m es ap cp d ds
noncomputable def P8 (G:Sg) (e:Expr):Option (List (Key×V)):=match e with
 | .Name x _=>if F0 G x=true then (match G.gb.lookup x with
  | some (.dic _ kvs)=>some kvs
  | _=>none) else none
 | _=>none
noncomputable def Vi (G:Sg) (ops:List jL) (bs:List Expr):Option (Bool×List (Key×V)):=match ops,bs with
 | [.In],[b]=>if cZ .In b=false then (P8 G b).map fun k=>(false,k) else none
 | [.NotIn],[b]=>if cZ .NotIn b=false then (P8 G b).map fun k=>(true,k) else none
 | _,_=>none
noncomputable def a13 (G:Sg) (x:Str) (es:List Expr):Bool:=(Bt G.N x 0).isSome && !es.isEmpty&&es.all noStar
mutual
noncomputable def wE:Nat->Sg->Expr->DE
 | 0,_,_=>dNo
 | n+1,G,e=>match e with
  | .Constant c _ _=>an9 c
  | .Name x _=>Rg G x
  | .BinOp a op b _=>Ah (rOp G.K op) (wE n G a) (wE n G b)
  | .UnaryOp .USub a _=>dUn Mh (wE n G a)
  | .UnaryOp .Not a _=>ab1 G.K (wE n G a)
  | .UnaryOp .Invert a _=>dUn aj1 (wE n G a)
  | .BoolOp op es _=>Uz G.K op (es.map (wE n G))
  | .Compare a ops bs _=>match Vi G ops bs with
   | some (neg,kvs)=>dUn (Sk neg kvs) (wE n G a)
   | none=>Xu G ops bs (wE n G a) (bs.map (wE n G))
  | .IfExp t a b _=>b61 (wT n G t) (wE n G a) (wE n G b)
  | .List es _=>if es.all noStar=true then Dj (Cn (es.map (wE n G))) else dNo
  | .Tuple es _ _=>if es.all noStar=true then Cl (Cn (es.map (wE n G))) else dNo
  | .Subscript a (.Slice lo hi none _) _=>dSl G.K (wE n G a) (match lo with|none=>Fa|some l=>Fn (wE n G l)) (match hi with|none=>Fa|some h=>Fn (wE n G h))
  | .Subscript a b _=>if E1 b=true then (match P8 G a with
   | some kvs=>dUn (bn6 kvs) (wE n G b)
   | none=>Ah (Ap G.K) (wE n G a) (wE n G b)) else dNo
  | .Attribute o f _=>if B0 o=true then dUn (Aq G.K f) (wE n G o) else dNo
  | .Call (.Name x _) es [] _=>if a13 G x es=true then b59 (ax6 G.gb) es.length (Rg G x) (Cn (es.map (wE n G))) else an8 G x es (es.map (wE n G))
  | .Call (.Name x _) [a] [⟨some k,.Attribute o m _,_⟩] _=>if x = "sorted" /\ k = "key" /\ F0 G x=true/\G.gb.lookup x=none/\G.bl.contains x=true/\noStar a=true/\B0 o=true/\G.calm=true then (match Ft G.gb m with
   | some l=>ab3 G.K m l (wE n G a) (wE n G o)
   | none=>dNo) else dNo
  | .Dict ks vs _=>if ks.isEmpty=true/\vs.isEmpty=true then P6 else dNo
  | .Call (.Attribute o m ap) es [] cp=>Um G o m es ap cp (wE n G o) (es.map (wE n G))
  | .ListComp elt [⟨tg,iter,ifs,0⟩] sc _=>if G.calm=true/\Ea G sc=true/\Ji iter=true then
    C3 (Eu G sc.names) (wI n G tg iter) (wG n (Ck G sc.names) tg) (match ifs with | []=>Eb | [c]=>wT n (Ck G sc.names) c|_=>tNo) (wE n (Ck G sc.names) elt) else dNo
  | _=>dNo
noncomputable def wT:Nat->Sg->Expr->DT
 | 0,_,_=>tNo
 | n+1,G,e=>match e with
  | .UnaryOp .Not a _=>Hi (wT n G a)
  | .BoolOp op es _=>Uy op (es.map (wT n G))
  | .Compare a ops bs _=>match Vi G ops bs with
   | some (neg,kvs)=>A0 (dUn (Sk neg kvs) (wE n G a))
   | none=>A0 (Xu G ops bs (wE n G a) (bs.map (wE n G)))
  | .IfExp _ _ _ _=>tNo
  | e=>Fo G.K (wE n G e)
noncomputable def wI:Nat->Sg->Expr->Expr->DI
 | 0,_,_,_=>iNo
 | n+1,G,tg,e=>match e with
  | .Call (.Name x _) (a::es) [] _=>
   if x = "range" /\ F0 G x=true/\G.gb.lookup x=none/\G.bl.contains x=true/\(a::es).all noStar=true then ad6 (Cn ((a::es).map (wE n G)))
   else if x = "reversed" /\ F0 G x=true/\G.gb.lookup x=none/\G.bl.contains x=true/\noStar a=true/\es.isEmpty=true then aq2 G.K (wE n G a)
   else D7 G.K (wE n G e)
  | .ListComp a b c d=>D7 G.K (ab4 (wE n G (.ListComp a b c d)))
  | e=>D7 G.K (wE n G e)
end
theorem a21 {X:Cx} {e:Expr}:QT X e tNo:=fun _ _ _ _ _ _ _ _ h=>h.elim
theorem Bs {X:Cx} {w:Expr->DE} (h:∀ e,QE X e (w e)):∀ {es:List Expr},es.all noStar=true->QA X es (Cn (es.map w))
 | [],_=>No
 | e::es,hs=>by
  rw [bu,aw] at hs
  exact Hy (h e) (Bs h hs.2) hs.1
theorem Np {X:Cx} {w:Expr->DE} {op:BoolOp} {pos:Pos} (h:∀ e,QE X e (w e)):∀ {es:List Expr},QE X (.BoolOp op es pos) (Uz X.K op (es.map w))
 | []=>Bb
 | [e]=>bl6 (h e)
 | e::e'::es=>by
  cases op with
  | And=>exact bk2 (h e) (Np h)
  | Or=>exact cc6 (h e) (Np h)
theorem Nr {X:Cx} {w:Expr->DT} {op:BoolOp} {pos:Pos} (h:∀ e,QT X e (w e)):∀ {es:List Expr},QW X (.BoolOp op es pos) (Uy op (es.map w))
 | []=>fun _ _ _ _ _ _ _ _ _ h=>h.elim
 | [e]=>by
  cases op with
  | And=>exact au6 (h e)
  | Or=>exact bn4 (h e)
 | e::e'::es=>by
  cases op with
  | And=>exact bn3 (h e) (Nr h)
  | Or=>exact cc9 (h e) (Nr h)
section
variable {X:Cx} {G:Sg}
theorem at6 (O:GOk X G) {w:Expr->DE} (h:∀ e,QE X e (w e)) (a:Expr) (ops:List jL) (bs:List Expr) (pos:Pos):QE X (.Compare a ops bs pos) (Xu G ops bs (w a) (bs.map w)):=by
 unfold Xu
 rw [<- O.K]
 split
 ·rename_i op b d e
  have:d=w b:=by simpa using e.symm
  subst this
  split
  ·exact bk6 O.units op (h a) (h b) ‹_›
  ·exact Bb
 ·rename_i op op' b c d d' e
  have:w b=d/\w c=d':=by simpa using e
  obtain⟨rfl,rfl⟩:=this
  split
  ·exact ai0 O.units op op' (h a) (h b) (h c) ‹_›
  ·exact Bb
 ·exact Bb
theorem au5 (O:GOk X G) {w:Expr->DE} (h:∀ e,QE X e (w e)) (a:Expr) (ops:List jL) (bs:List Expr) (pos:Pos):QT X (.Compare a ops bs pos) (A0 (Xu G ops bs (w a) (bs.map w))):=by
 unfold Xu
 rw [<- O.K]
 split
 ·rename_i op b d e
  have:d=w b:=by simpa using e.symm
  subst this
  split
  ·exact bm9 O.units op (h a) (h b) ‹_›
  ·exact fun _ _ _ _ _ _ _ _ h=>h.elim
 ·rename_i op op' b c d d' e
  have:w b=d/\w c=d':=by simpa using e
  obtain⟨rfl,rfl⟩:=this
  split
  ·exact aj0 O.units op op' (h a) (h b) (h c) ‹_›
  ·exact fun _ _ _ _ _ _ _ _ h=>h.elim
 ·exact fun _ _ _ _ _ _ _ _ h=>h.elim
theorem ah9 (O:GOk X G) {w:Expr->DE} (h:∀ e,QE X e (w e)) (x:Str) (es:List Expr) (p pos:Pos):QE X (.Call (.Name x p) es [] pos) (an8 G x es (es.map w)):=by
 unfold an8
 split
 ·rename_i hh
  obtain⟨hg,_,hs⟩:=hh
  have dd:=Gu hg
  split
  ·rename_i i e
   obtain⟨hm,F⟩:=O.at_ x _ e
   split
   ·rename_i hl
    cases es with
    | nil=>exact ah8 F (by have:=hl.1;omega) (O.gl hg) hm dd.1
    | cons e es=>exact at5 F (by have:=hl.1;omega) (O.gl hg) hm (Bs h hs) hs dd.1
   ·exact Bb
  ·rename_i C oi e
   obtain⟨hm,kp,c,hi⟩:=O.at_ x _ e
   split
   ·cases es with
    | nil=>exact Vu (j:=0) c hi (fun i z=>nomatch z) kp (O.gl hg) hm dd.1
    | cons e es=>exact Si (j:=0) c hi (fun i z=>nomatch z) kp (O.gl hg) hm (Bs h hs) hs dd.1
   ·rename_i i
    split
    ·rename_i hl
     cases es with
     | nil=>exact Vu c hi (fun i z=>by cases z;have:=hl.1;omega) kp (O.gl hg) hm dd.1
     | cons e es=>exact Si c hi (fun i z=>by cases z;have:=hl.1;omega) kp (O.gl hg) hm (Bs h hs) hs dd.1
    ·exact Bb
  ·rename_i C oi e
   obtain⟨hm,kp,hi⟩:=O.at_ x _ e
   split
   ·cases es with
    | nil=>exact Vt (j:=0) hi (fun i z=>nomatch z) kp (O.gl hg) hm dd.1
    | cons e es=>exact Bb
   ·rename_i i
    split
    ·rename_i hl
     cases es with
     | nil=>exact Vt hi (fun i z=>by cases z;have:=hl.1;omega) kp (O.gl hg) hm dd.1
     | cons e es=>exact bl2 hi (fun i z=>by cases z;have:=hl.1;omega) kp (O.gl hg) hm (Bs h hs) hs dd.1
    ·exact Bb
  ·exact Bb
  ·rename_i e
   split
   ·rename_i hb
    split
    ·rename_i f r er
     split
     ·exact Bb
     ·rename_i hne
      cases es with
      | nil=>exact absurd rfl hne
      | cons e es=>
       rw [<- O.K] at er
       obtain⟨b1,b2⟩:=ao9 O.units er O.calm
       exact bk4 b2 (O.gl hg) (O.bl x hb) b1 (Bs h hs) hs dd.2.2 dd.1
    ·exact Bb
   ·exact Bb
 ·exact Bb
theorem ai2 (O:GOk X G) {w:Expr->DE} (h:∀ e,QE X e (w e)) (o:Expr) (m:Str) (es:List Expr) (ap cp:Pos):QE X (.Call (.Attribute o m ap) es [] cp) (ao0 G o m es ap cp (w o) (es.map w)):=by
 unfold ao0
 rw [<- O.K]
 split
 ·rename_i hh
  obtain⟨h1,h2,h3,h4⟩:=hh
  split
  ·cases es with
   | nil=>exact bl3 (fun b hb=>ae9 O.units hb) (h o) h1 h4
   | cons e es=>exact cc5 (fun b hb=>ae9 O.units hb) (h o) (Bs h h2) h1 h2 h3 h4
  ·rename_i l e
   cases es with
   | nil=>exact at8 (O.met m l e) (h o) h1 h4
   | cons e es=>exact bl7 (O.met m l ‹_›) (h o) (Bs h h2) h1 h2 h3 h4
 ·exact Bb
end
theorem ai1 {X:Cx} {G:Sg} (O:GOk X G) {w:Expr->DE} (h:∀ e,QE X e (w e)) (o:Expr) (m:Str) (es:List Expr) (ap cp:Pos):QE X (.Call (.Attribute o m ap) es [] cp) (Um G o m es ap cp (w o) (es.map w)):=by
 unfold Um
 split
 ·rename_i i e
  unfold a49 at e
  split at e
  ·rename_i c p
   split at e
   ·rename_i hh
    obtain⟨rfl,h1,h2,h3,h4,h5,h6,h7⟩:=hh
    split at e
    ·rename_i C i' eg
     split at e
     ·rename_i hl
      cases e
      obtain⟨g1,g2,g3⟩:=O.at_ c _ eg
      have hn:QE X (.Name c p) (dC (.ref C)):=by
       have q:=Nq O c p
       unfold Rg at q
       rw [h2] at q
       simp only [h1,if_true,eg] at q
       exact q
      cases es with
      | nil=>cases h3
      | cons e es=>exact bk8 hn g2 g3 hl (Bs h h5) h4 h5 h6 h7
     ·cases e
    ·cases e
   ·cases e
  ·cases e
 ·exact ai2 O h o m es ap cp
theorem Il {X:Cx} {G:Sg} (O:GOk X G) {e:Expr} {kvs:List (Key×V)} (h:P8 G e=some kvs):∃ x p a,e=.Name x p/\Oi X.prog X.w X.K a kvs/\QE X (.Name x p) (dC (.ref a)):=by
 unfold P8 at h
 split at h
 ·rename_i x p
  split at h
  ·rename_i hg
   split at h
   ·rename_i a kvs' e
    cases h
    obtain⟨hm,k⟩:=O.at_ x _ e
    exact⟨x,p,a,rfl,k,fun Ex m=>Gf (O.gl hg) hm rfl (Gu hg).1⟩
   ·cases h
  ·cases h
 ·cases h
theorem Ql {X:Cx} {G:Sg} (O:GOk X G) {ops:List jL} {bs:List Expr} {neg:Bool} {kvs:List (Key×V)} (h:Vi G ops bs=some (neg,kvs)):∃ x p a,ops=[if neg then .NotIn else .In]/\bs=[.Name x p]/\Oi X.prog X.w X.K a kvs/\QE X (.Name x p) (dC (.ref a))/\cZ (if neg then .NotIn else .In) (.Name x p)=false:=by
 unfold Vi at h
 split at h
 ·split at h
  ·rename_i hb
   obtain⟨k,hk,e⟩:=Option.map_eq_some_iff.mp h
   cases e
   obtain⟨x,p,a,rfl,h1,h2⟩:=Il O hk
   exact⟨x,p,a,rfl,rfl,h1,h2,hb⟩
  ·cases h
 ·split at h
  ·rename_i hb
   obtain⟨k,hk,e⟩:=Option.map_eq_some_iff.mp h
   cases e
   obtain⟨x,p,a,rfl,h1,h2⟩:=Il O hk
   exact⟨x,p,a,rfl,rfl,h1,h2,hb⟩
  ·cases h
 ·cases h
theorem b46:∀ (n:Nat) (X:Cx) (G:Sg),GOk X G->(∀ e,QE X e (wE n G e))/\(∀ e,QT X e (wT n G e))/\(∀ tg e,QI X tg e (wI n G tg e)):=by
 intro n
 induction n with
 | zero=>
  intro X G O
  refine⟨fun e=>?_,fun e=>?_,fun tg e=>?_⟩
  ·unfold wE;exact Bb
  ·unfold wT;exact a21
  ·unfold wI;exact cc7
 | succ n ih=>
  intro X G O
  obtain⟨hE,hT,hI⟩:=ih X G O
  have hv:∀ tg e,QI X tg e (D7 G.K (wE n G e)):=fun tg e=>by rw [<- O.K];exact ai5 (hE e)
  refine⟨fun e=>?_,fun e=>?_,fun tg e=>?_⟩
  ·unfold wE
   split
   ·exact Qy _ _ _
   ·exact Nq O _ _
   ·rw [<- O.K];exact bk3 _ (hE _) (hE _)
   ·exact bl4 (hE _)
   ·rw [<- O.K];exact bl5 (hE _)
   ·exact bk9 (hE _)
   ·rw [<- O.K];exact Np hE
   ·split
    ·rename_i neg kvs e
     obtain⟨x,p,a,rfl,rfl,h1,h2,h3⟩:=Ql O e
     exact bk7 h1 h2 (hE _) h3
    ·exact at6 O hE _ _ _ _
   ·exact cc3 (hT _) (hE _) (hE _)
   ·split
    ·exact bl1 (Bs hE ‹_›)
    ·exact Bb
   ·split
    ·exact bl8 (Bs hE ‹_›)
    ·exact Bb
   ·rw [<- O.K]
    refine ai3 (hE _) ?_ ?_
    ·split
     ·exact Vv
     ·exact Vw (hE _)
    ·split
     ·exact Vv
     ·exact Vw (hE _)
   ·split
    ·rename_i hs
     split
     ·rename_i kvs e
      obtain⟨x,p,a,rfl,h1,h2⟩:=Il O e
      exact bl0 h1 h2 (hE _) hs
     ·rw [<- O.K];exact cc4 O.units (hE _) (hE _) hs
    ·exact Bb
   ·split
    ·rw [<- O.K];exact at4 (hE _) (C8 ‹_› _ X.env _)
    ·exact Bb
   ·split
    ·rename_i x p es pos hl
     unfold a13 at hl
     rw [aw,aw] at hl
     cases es with
     | nil=>cases hl.1.2
     | cons e es=>exact bk5 (fun i hi=>O.fns hi) (Nq O x p) (Bs hE hl.2) hl.2
    ·exact ah9 O hE _ _ _ _
   ·split
    ·rename_i hh
     obtain⟨rfl,rfl,h1,_,h2,h3,h4,h5⟩:=hh
     split
     ·rename_i l el
      obtain⟨k,hk⟩:=Ef el
      rw [<- O.K]
      exact at9 (O.calm▸h5) (O.gb _ _ hk) (O.gl h1) (O.bl _ h2) (hE _) (hE _) h3 h4
     ·exact Bb
    ·exact Bb
   ·rename_i ks vs p0
    split
    ·rename_i hh
     have e1:ks=[]:=by simpa using hh.1
     have e2:vs=[]:=by simpa using hh.2
     subst e1 e2
     exact at7
    ·exact Bb
   ·exact ai1 O hE _ _ _ _ _
   ·split
    ·rename_i hh
     obtain⟨h1,h2,h3⟩:=hh
     refine Vs O (O.calm▸h1) h2 h3 (hI _ _) (fun X' O'=>Rf n X' _ O' _) (fun X' O'=>?_) (fun X' O'=>(ih X' _ O').1 _)
     split
     ·exact Qz
     ·exact Q0 ((ih X' _ O').2.1 _)
     ·exact fun _ _ _ _ _ _ _ _ h=>h.elim
    ·exact Bb
   ·exact Bb
  ·unfold wT
   split
   ·exact bn1 (hT _)
   ·exact fun Ex m=>PW.pt (Nr hT Ex m)
   ·split
    ·rename_i neg kvs e
     obtain⟨x,p,a,rfl,rfl,h1,h2,h3⟩:=Ql O e
     exact bn0 h1 h2 (hE _) h3
    ·exact au5 O hE _ _ _ _
   ·exact a21
   ·rename_i h1 h2 h3 h4
    rw [<- O.K]
    refine bn2 (hE _) ?_
    cases e with
    | UnaryOp op a p=>cases op <;> first|rfl|exact absurd rfl (h1 _ _)
    | BoolOp op es p=>exact absurd rfl (h2 _ _ _)
    | Compare a b c p=>exact absurd rfl (h3 _ _ _ _)
    | IfExp a b c p=>exact absurd rfl (h4 _ _ _ _)
    | _=>rfl
  ·unfold wI
   split
   ·split
    ·rename_i hh
     obtain⟨rfl,h1,_,h2,h3⟩:=hh
     exact ai4 (O.gl h1) (O.bl _ h2) (Bs hE h3) h3
    ·split
     ·rename_i hh
      obtain⟨rfl,h1,_,h2,h3,h4⟩:=hh
      rw [List.isEmpty_iff.mp h4,<- O.K]
      exact bm0 (O.gl h1) (O.bl _ h2) (hE _) h3
     ·exact hv _ _
   ·rw [<- O.K];exact ai5 (au0 (hE _))
   ·exact hv _ _
noncomputable def Cx.tr (X:Cx) (pn:List (Addr×Obj)) (xe:Value->ah->Prop):Cx:={ X with pn:=pn,xe:=xe }
noncomputable def Cx.hd (X:Cx) (a:Addr):Cx:={ X with A:=X.A.mark (some (.ref a)),calm:=false,xe:=fun _ _=>False }
section
variable {X:Cx} {pins pins':List (Addr×Obj)} {σ:St} {H:Hp} {s:ah} {a C:Addr} {dx:Option Addr} {xe:Value->ah->Prop}
theorem b86 {pn:List (Addr×Obj)} (o:X.Ok):(X.tr pn xe).Ok:=⟨o.mod,o.kind,o.glob,o.blt,o.above,o.inj,o.has,o.cab,o.hd,o.frames,o.stk,o.exf,o.bs,o.bsz,o.noex,o.exfs,o.funs,o.frf,o.tk⟩
theorem ar6 {pn:List (Addr×Obj)} (o:(X.tr pn xe).Ok):X.Ok:=⟨o.mod,o.kind,o.glob,o.blt,o.above,o.inj,o.has,o.cab,o.hd,o.frames,o.stk,o.exf,o.bs,o.bsz,o.noex,o.exfs,o.funs,o.frf,o.tk⟩
theorem bb6 (I:Inv X pins σ H s):Inv (X.tr (X.pn++pins) xe) [] σ H s:=
 ⟨b86 I.ok,I.os,I.bare,I.base,I.loc,I.cell,I.free,I.freeC,fun p hp=>I.pin p (by rw [cb] at hp;exact hp),I.hok,I.len⟩
theorem Eg (I:Inv (X.tr (X.pn++pins) xe) pins' σ H s):Inv X pins σ H s:=
 ⟨ar6 I.ok,I.os,I.bare,I.base,I.loc,I.cell,I.free,I.freeC,fun p hp=>I.pin p (cm _ hp),I.hok,I.len⟩
theorem ac9 (F:E5 (X.tr (X.pn++pins) xe) pins' H a s):E5 X pins H a s:=by
 obtain⟨C,dx,vs,h1,h2,h3,h4⟩:=F
 refine⟨C,dx,vs,h1,h2,h3,h4.imp id fun⟨T,oT,ts,q1,q2,q3,q4,q5,q6⟩=>⟨T,oT,ts,q1,q2,q3,q4,q5,?_⟩⟩
 obtain⟨r1,r2,r3,r4,r5,r6⟩:=q6
 exact⟨r1,r2,r3,r4,r5,fun p hp=>r6 p (cm _ hp)⟩
theorem av9 {D:La} {f:Flow} (h:SP (X.tr (X.pn++pins) xe) pins' D f s):SP X pins D f s:=by
 cases f with
 | next=>obtain⟨σ',H',I,q⟩:=h;exact⟨σ',H',Eg I,q⟩
 | brk=>obtain⟨σ',H',I,q⟩:=h;exact⟨σ',H',Eg I,q⟩
 | cont=>obtain⟨σ',H',I,q⟩:=h;exact⟨σ',H',Eg I,q⟩
 | ret u=>obtain⟨v,σ',H',I,r,q⟩:=h;exact⟨v,σ',H',Eg I,r,q⟩
theorem Gs (I:Inv X pins σ H s):Inv (X.hd a) pins σ H s:=
 ⟨⟨I.ok.mod,I.ok.kind,I.ok.glob,I.ok.blt,I.ok.above,I.ok.inj,I.ok.has,I.ok.cab,(fun z=>by cases z),I.ok.frames,I.ok.stk,I.ok.exf,I.ok.bs,I.ok.bsz,I.ok.noex,I.ok.exfs,I.ok.funs,I.ok.frf,I.ok.tk⟩,I.os,I.bare,I.base,I.loc,I.cell,I.free,I.freeC,I.pin,I.hok,I.len⟩
theorem Dl (o:X.Ok) (I:Inv (X.hd a) pins σ H s):Inv X pins σ H s:=⟨o,I.os,I.bare,I.base,I.loc,I.cell,I.free,I.freeC,I.pin,I.hok,I.len⟩
theorem V5 {D:La} {f:Flow} (o:X.Ok) (h:SP (X.hd a) pins D f s):SP X pins D f s:=by
 cases f with
 | next=>obtain⟨σ',H',I,q⟩:=h;exact⟨σ',H',Dl o I,q⟩
 | brk=>obtain⟨σ',H',I,q⟩:=h;exact⟨σ',H',Dl o I,q⟩
 | cont=>obtain⟨σ',H',I,q⟩:=h;exact⟨σ',H',Dl o I,q⟩
 | ret u=>obtain⟨v,σ',H',I,r,q⟩:=h;exact⟨v,σ',H',Dl o I,r,q⟩
end
inductive HK where
 | no
 | as (i:Nat)
 | up (T:Addr)
noncomputable def asD (a:Addr) (u:DS):HK->DS
 | .no=>fun D σ H=>u { D with ex:=fun _ _ _=>False } σ H
 | .up T=>fun D σ H=>(∃ C dx,H a=some (flO a C dx)) /\ ∀ b,H b=none->D.ex σ b (upd H b (fcO b T none))
 | .as i=>fun D σ H=>u ⟨fun σ' H'=>D.nx (σ'.set i none) H',D.rt,fun σ' H'=>D.bk (σ'.set i none) H',fun σ' H'=>D.ct (σ'.set i none) H',fun _ _ _=>False⟩ (σ.set i (some (.ref a))) H
noncomputable def Mw (K:aa) (C a:Addr):List (Addr×HK×DS)->Oj->St->Hp->Prop
 | [],_,_,_=>False
 | (T,oi,u)::r,D,σ,H=>∃ b,bb K C (.ref T)=some b/\(if b=true then asD a u oi D σ H else Mw K C a r D σ H)
noncomputable def a96 (K:aa) (tb:DS) (us:List (Addr×HK×DS)):DS:=fun D σ H=>tb { D with ex:=fun σ' a H'=>∃ C dx,FlO H' a C dx/\ECls K C/\Mw K C a us D σ' H' } σ H
inductive Xv (X:Cx):Option Str->HK->Prop where
 | no:Xv X none .no
 | as {n:Str} {i:Nat} (hN:X.N.Nodup) (hi:X.N[i]? = some n) (hl:X.env.scope.names.lookup n=some .local):Xv X (some n) (.as i)
inductive Og (X:Cx):List ExceptHandler->List (Addr×HK×DS)->Prop where
 | nil:Og X [] []
 | cons {x:Str} {p pos:Pos} {nm:Option Str} {oi:HK} {b:Stmt} {suite:List Stmt} {rest:List ExceptHandler} {T:Addr} {u:DS} {us:List (Addr×HK×DS)} (hg:Gl X x) (hm:X.mg x=some (.ref T)) (hd:(x==("__debug__" : Str))=false) (ec:ECls X.K T) (ha:Xv X nm oi) (hs:∀ a,QSs (X.hd a) (b::suite) u) (r:Og X rest us) :
   Og X (.ExceptHandler (some (.Name x p)) nm (b::suite) pos::rest) ((T,oi,u)::us)
 | up {x y z:Str} {p p1 p2 p3 p4 p5 pos:Pos} {k k2:Nat} {rest:List ExceptHandler} {T T':Addr} {u:DS} {us:List (Addr×HK×DS)} (hg:Gl X x) (hm:X.mg x=some (.ref T)) (hd:(x==("__debug__" : Str))=false) (ec:ECls X.K T)
   (hgy:Gl X y) (hmy:X.mg y=some (.ref T')) (hdy:(y==("__debug__" : Str))=false) (ecy:ECls X.K T') (kpy:aq X.K (.ref T')=true) (iny:E7 X T' none) (r:Og X rest us) :
   Og X (.ExceptHandler (some (.Name x p)) none [.Raise (some (.Call (.Name y p1) [.Constant (.str z) k p2] [] p3)) (some (.Constant .none k2 p4)) p5] pos::rest) ((T,.up T',u)::us)
theorem Ld:entryFor table "proto.unchain" = some bg.«proto.unchain»:=entryFor_of_fast (by kernel_rfl)
theorem Q4 {prog:aH} {w:bh} {A:a_} {E:Value->ah->Prop} {s:ah} {Q:Flow->ah->Prop} {e a:Addr} {oa oe:Obj} {va ve:Array Value} (hh:A.handled=some (.ref a)) (ne:a≠e) (ha:s.heap.get? a=some oa) (hda:oa.data=.fields va) (h2:va[2]? = some .none)
  (he:s.heap.get? e=some oe) (hde:oe.data=.fields ve) (hz:2<ve.size) (h:E (.ref e) { s with heap:=s.heap.update e (bH (·.setIfInBounds 2 (.ref a))) }):aJ (model prog w) A (raiseNew (.ref e):Sem Flow) Q E s:=by
 unfold raiseNew
 refine af (wpAny_handled ?_)
 rw [hh]
 have hne:(az a != az e)=true:=by simpa using ne
 simp only [hne,if_true]
 refine af (bq (wpAny_runValue (iw Ld ?_)))
 unfold bg.«proto.unchain»
 refine af (cw ha hda h2 ?_)
 rw [if_pos (by rfl)]
 refine ar ?_
 show aJ (model prog w) A (setField (.ref e) 2 (.ref a) >>= fun _=>throw (.ref e)) Q E s
 refine af (gG he hde hz ?_)
 exact wpAny_throw h
section
variable {X:Cx} {pins:List (Addr×Obj)}
theorem aj7 {σ:St} {H:Hp} {s1:ah} {a C1 T':Addr} {dx1:Option Addr} {y z:Str} {p1 p2 p3 p4 p5:Pos} {k k2:Nat} {Qf:Flow->ah->Prop} {Ee:Value->ah->Prop} (I1:Inv X pins σ H s1) (ea:H a=some (flO a C1 dx1))
  (hgy:Gl X y) (hmy:X.mg y=some (.ref T')) (hdy:(y==("__debug__" : Str))=false) (ecy:ECls X.K T') (kpy:aq X.K (.ref T')=true) (iny:E7 X T' none)
  (hE:∀ b s',H b=none->Inv X pins σ (upd H b (fcO b T' none)) s'->E5 X pins (upd H b (fcO b T' none)) b s'->Ee (.ref b) s') :
  aJ (model X.prog X.w) (X.A.mark (some (.ref a))) (exec (.Raise (some (.Call (.Name y p1) [.Constant (.str z) k p2] [] p3)) (some (.Constant .none k2 p4)) p5) X.env) Qf Ee s1:=by
 have he:QE (X.hd a) (.Call (.Name y p1) [.Constant (.str z) k p2] [] p3) _:=Si (X:=X.hd a) (oi:=none) (j:=0) (r:=Ab (dC (.str z)) Ai) ecy iny (fun i h=>by cases h) kpy hgy hmy (Hy (Qy (.str z) k p2) No rfl) rfl hdy
 rw [arm_exec_Raise]
 show aJ _ _ (do i_ p5;jR X.env (some (do let v <- eval (.Call (.Name y p1) [.Constant (.str z) k p2] [] p3) X.env;i_ p5;pure v)) (some (do let v <- eval (.Constant .none k2 p4) X.env;i_ p5;pure v))) _ _ _
 refine af (c4 ?_)
 unfold jR
 refine af (af (bG (he _ Ek pins s1 σ H (fun x H1=>∃ b,x=.ref b/\H b=none/\H1=upd H b (D4 b T' none)) (Gs I1) ⟨by simp,fun b hb=>⟨b,rfl,hb,rfl⟩⟩) (fun v s2 ⟨x,H1,I2,r1,b,e1,hb,e2⟩=>af (c4 (ar ?_))) fun _ _ z=>z.elim))
 subst e1 e2
 cases r1
 have I2:=Dl I1.ok I2
 obtain⟨vs,g1,g2,g3,g4⟩:=Io I2 Ad
 obtain⟨nm,qn,N,bs,bm,hdct,sn,sub,ab,col,dd,k0,k1,k2',k3,k5,hl,ht,hd⟩:=ecy.obj
 have hC:=I2.kIn _ _ hl
 have hb0:bm.contains (.type "BaseException")=true:=Bi ht (by decide +kernel)
 have hcB:(az T'::bm).contains (.type "BaseException")=true:=by rw [bn,hb0,eP]
 have nab:a≠b:=fun z=>by rw [z,hb] at ea;cases ea
 obtain⟨va,ga1,ga2,ga3⟩:=ac8 I2 (a:=a) (C:=C1) (dx:=dx1) (by rw [Ak nab];exact ea)
 obtain⟨hp,g,d,tk,os⟩:=s2
 repeat (first|with_reducible refine cw g1 rfl g3 ?_|with_reducible refine aW g1 ?_|with_reducible refine aW hC ?_|(with_reducible refine bW hC ?_;rw [hcB])|wp_step)
 have nTb:T'≠b:=fun z=>by
  rw [z] at hC
  rw [hC] at g1
  have:=congrArg (fun o=>o.map Obj.data) g1
  simp [dG] at this
 have q3:(hp.update b (bH fun x=>x.setIfInBounds 3 ba)).get? b=some (Av T' none (vs.setIfInBounds 3 .none)):=bM _ g1 (cW (vs:=vs.setIfInBounds 3 .none) rfl)
 have q4:((hp.update b (bH fun x=>x.setIfInBounds 3 ba)).update b (bH fun x=>x.setIfInBounds 4 (fQ true))).get? b=some (Av T' none ((vs.setIfInBounds 3 .none).setIfInBounds 4 (.bool true))):=bM _ q3 (cW (vs:=(vs.setIfInBounds 3 .none).setIfInBounds 4 (.bool true)) rfl)
 have keep:∀ c u,c≠b->hp.get? c=some u->((hp.update b (bH fun x=>x.setIfInBounds 3 ba)).update b (bH fun x=>x.setIfInBounds 4 (fQ true))).get? c=some u:=fun c u ne e=>(aY _ _ ne.symm).trans ((aY _ _ ne.symm).trans e)
 have hC2:=keep _ _ nTb hC
 have ga':=keep _ _ nab ga1
 have w1:((vs.setIfInBounds 3 .none).setIfInBounds 4 (.bool true))[1]? = some ba:=by rw [cu (by decide),cu (by decide)];exact g3
 have wz:((vs.setIfInBounds 3 .none).setIfInBounds 4 (.bool true)).size=6:=by rw [c8,c8];exact g2
 generalize ((vs.setIfInBounds 3 .none).setIfInBounds 4 (.bool true))=v2 at q4 w1 wz
 generalize (hp.update b (bH fun x=>x.setIfInBounds 3 ba)).update b (bH fun x=>x.setIfInBounds 4 (fQ true))=hp2 at q4 keep hC2 ga' ⊢
 repeat (first|with_reducible refine cw q4 rfl w1 ?_|with_reducible refine aW q4 ?_|with_reducible refine aW hC2 ?_|wp_step)
 have q5:(hp2.update b (bH fun x=>x.setIfInBounds 2 (.ref a))).get? b=some (Av T' none (v2.setIfInBounds 2 (.ref a))):=bM _ q4 (cW (vs:=v2.setIfInBounds 2 (.ref a)) rfl)
 have wz5:(v2.setIfInBounds 2 (.ref a)).size=6:=by rw [c8];exact wz
 have w5:(v2.setIfInBounds 2 (.ref a))[1]? = some ba:=by rw [cu (by decide)];exact w1
 refine Q4 rfl nab ga' rfl ga3 q4 rfl (by rw [wz];decide) ?_
 have I3:Inv X pins σ (upd H b (fcO b T' none)) { heap:=hp2.update b (bH fun x=>x.setIfInBounds 2 (.ref a)),gens:=g,drawn:=d,toks:=tk,os:=os }:=by
  have:=I2.write (x:=b) (e:=b) (h':=hp2.update b (bH fun x=>x.setIfInBounds 2 (.ref a))) (t':=tk) (o:=fcO b T' none) (by rw [Ad];exact bv) (.inl rfl) (fun c u ne z=>(aY _ _ ne.symm).trans (keep c u ne z)) ⟨_,q5⟩ (ac5 q5 wz5)
  rw [Od] at this
  exact this
 exact hE b _ hb I3 ⟨T',none,_,.inr Ad,q5,wz5,.inl w5⟩
theorem E0 {M:Model} {A:a_} {E:Value->ah->Prop} {σ:St} {H:Hp} {s:ah} {i:Nat} {x:Str} {pos:Pos} {Q:Unit->ah->Prop} (I:Inv X pins σ H s) (hN:X.N.Nodup) (hi:X.N[i]? = some x) (hk:X.env.scope.names.lookup x=some .local)
  (h:∀ s',Inv X pins (σ.set i none) H s'->Q () s'):aJ M A (do bindName X.env x .none;unbindBehindTheSuite X.env x pos) Q E s:=by
 obtain⟨m,hn,hl⟩:=id I.loc
 refine wpAny_nameGoes_keeps hk hn (by rw [I.ok.kind];rfl) fun h' v hn' sb=>h _ ?_
 have old:∀ {b o},X.s₀.heap.get? b=some o->h'.get? b=s.heap.get? b:=fun {b o} e=>sb.2 b (aQ (aI (aC e) I.ok.above))
 exact {
  ok:=I.ok
  os:=⟨I.os.1,Nat.le_succ_of_le I.os.2⟩
  bare:=I.bare
  base:={ I.base with
   keep:=fun b o e n hb hx=>by show h'.get? b=_;rw [old e];exact I.base.keep b o e n hb hx
   slot:=fun b o e n hb hx=>by show ∃ sl,h'.get? b=_;rw [old e];exact I.base.slot b o e n hb hx
   there:=fun b o e hx=>by show ∃ o',h'.get? b=_;rw [old e];exact I.base.there b o e hx }
  loc:=⟨_,hn',fun j y w e1 e2 e3=>by
   have hj:j≠i:=fun z=>by
    have lt:i<σ.length:=by rw [I.len];exact (List.getElem?_eq_some_iff.mp hi).1
    rw [z,fj lt] at e2
    cases e2
   rw [fM (cz hj)] at e2
   obtain⟨u,r,q⟩:=hl j y w e1 e2 e3
   have ny:y≠x:=fun z=>hj (Jl hN e1 (z▸hi))
   refine⟨u,r,q.imp (fun⟨k,e⟩=>⟨k,(if_neg ny).trans e⟩) fun⟨k,c,e,z⟩=>⟨k,c,e,z.sameBut sb (I.cne y c e)⟩⟩⟩
  cell:=fun y c e=>let ⟨w,z⟩:=I.cell y c e;⟨w,z.sameBut sb (I.cne y c e)⟩
  free:=I.free
  freeC:=I.freeC
  pin:=fun p hp=>let ⟨e,n,ne,nf,d⟩:=I.pin p hp;⟨(sb.2 p.1 ne).trans e,n,ne,nf,d⟩
  hok:=fun b ob e=>(I.hok b ob e).stay (fun c w hc q=>(sb.2 c (by
   rintro rfl
   have f:=I.free
   rcases hc with rfl|hc
   ·rw [f] at e;cases e
   ·rw [f] at hc;cases hc)).trans q) (fun _ q=>q) fun _ _ q=>q
  len:=by rw [fV];exact I.len }
theorem Wv (hst:X.stack=X.env::X.outer) (hfr:X.env.frame=some X.env.locals) {Ex:St->EK} (mt:Meets X Ex) {D:La} {hl:List ExceptHandler} {us:List (Addr×HK×DS)} (K:Og X hl us):∀ {σ:St} {H:Hp} {s:ah} {a C:Addr} {dx:Option Addr},Inv X pins σ H s->E5 X pins H a s->FlO H a C dx->ECls X.K C->Mw X.K C a us (as1 Ex D) σ H ->
  aJ (model X.prog X.w) X.A (handleBy (.ref a) X.env hl) (SP X pins D) X.xe s:=by
 induction K with
 | nil=>intro σ H s a C dx I F e ec h;exact h.elim
 | @cons x p pos nm oi b suite rest T u us hg hm hd ecT ha hs r ih=>
  intro σ H s a C dx I F e ec h
  obtain⟨m,hm2,h⟩:=h
  have hx:∃ vs:Array Value,s.heap.get? a=some (Av C dx vs):=by
   obtain⟨vs,z,_⟩:=U6 I (.inr e)
   exact⟨vs,z⟩
  obtain⟨vs,hx⟩:=hx
  refine ja (iy (Cw (X:=X.hd a) (Gs I) hg hm ?_ hd)) (by intro q;cases q)
  refine Jd (A:=(X.hd a).A) I.kIn ec ecT hx hm2 ?_
  cases m with
  | false=>exact ih I F e ec h
  | true=>
   cases ha with
   | no=>
    refine h_ (Gq (A:=(X.hd a).A) I F fun s1 I1 F1=>?_)
    exact bG (hs a (fun _ _ _=>False) Ek pins s1 σ H D (Gs I1) h) (fun f s2 q=>V5 I.ok q) fun _ _ z=>z.elim
   | @as n i hN hi hlo=>
    refine codeAny_handlers_suite_as (Gq (A:=(X.hd a).A) I F fun s1 I1 F1=>?_)
    refine Gi (i:=i) (v:=.ref a) I1 hN hi (.inl hlo) rfl (fun s2 I2=>?_) (.inr hlo)
    refine bG (hs a (fun _ _ _=>False) Ek pins s2 (σ.set i (some (.ref a))) H ⟨fun σ' H'=>D.nx (σ'.set i none) H',D.rt,fun σ' H'=>D.bk (σ'.set i none) H',fun σ' H'=>D.ct (σ'.set i none) H'⟩ (Gs I2) h) (fun f s3 q=>?_) fun _ _ z=>z.elim
    have q:=V5 I.ok q
    cases f with
    | next=>obtain⟨σ',H',I',q⟩:=q;exact E0 I' hN hi hlo fun s4 I4=>⟨_,H',I4,q⟩
    | brk=>obtain⟨σ',H',I',q⟩:=q;exact E0 I' hN hi hlo fun s4 I4=>⟨_,H',I4,q⟩
    | cont=>obtain⟨σ',H',I',q⟩:=q;exact E0 I' hN hi hlo fun s4 I4=>⟨_,H',I4,q⟩
    | ret w=>obtain⟨v,σ',H',I',r,q⟩:=q;exact E0 I' hN hi hlo fun s4 I4=>⟨v,_,H',I4,r,q⟩
 | @up x y z p p1 p2 p3 p4 p5 pos k k2 rest T T' u us hg hm hd ecT hgy hmy hdy ecy kpy iny r ih=>
  intro σ H s a C dx I F e ec h
  obtain⟨m,hm2,h⟩:=h
  obtain⟨vs,hx,_⟩:=U6 I (.inr e)
  refine ja (iy (Cw (X:=X.hd a) (Gs I) hg hm ?_ hd)) (by intro q;cases q)
  refine Jd (A:=(X.hd a).A) I.kIn ec ecT hx hm2 ?_
  cases m with
  | false=>exact ih I F e ec h
  | true=>
   refine h_ (Gq (A:=(X.hd a).A) I F fun s1 I1 F1=>?_)
   obtain⟨⟨C1,dx1,ea⟩,hE⟩:=h
   refine wpAny_execs_cons (aj7 I1 ea hgy hmy hdy ecy kpy iny fun b s2 hb I2 F2=>?_)
   refine af8 (X:=X.hd a) (Gs I2) hst hfr hfr F2 fun s3 z I3 F3=>?_
   have I3:=Dl I.ok I3
   have F3:FlyT X pins (upd H b (fcO b T' none)) b s3 z:=F3
   obtain⟨Cb,dxb,vb,Tb,oT,ts,h1,h2,h3,q1,q2,q3,q4,q5,q6⟩:=id F3
   refine af (cw h2 rfl q1 ?_)
   rw [if_neg (by simp)]
   refine V2 I3 F3 fun s4 I4 F4=>?_
   exact mt pins σ _ s4 b I4 F4.at (hE b hb)
theorem bm8 {Y:Cx} {body:List Stmt} {h0:ExceptHandler} {hs:List ExceptHandler} {pos:Pos} {tb:DS} {us:List (Addr×HK×DS)} (hst:Y.stack=Y.env::Y.outer) (hfr:Y.env.frame=some Y.env.locals)
  (hb:∀ pn xe,fF (model Y.prog Y.w) Y.A Y.env xe->QSs (Y.tr pn xe) body tb) (hh:Og Y (h0::hs) us):QS Y (.Try body (h0::hs) [] [] pos) (a96 Y.K tb us):=by
 intro Ex m pins s σ H D I hw
 refine wpAny_Try_except ?_
 refine bG (hb (Y.pn++pins) (fun e s1=>aJ (model Y.prog Y.w) Y.A (jk e Y.env) (fun _ s2=>aJ (model Y.prog Y.w) Y.A (iB e none) (fun _ s3=>aJ (model Y.prog Y.w) Y.A (handleBy e Y.env (h0::hs)) (SP Y pins D) Y.xe s3) Y.xe s2) Y.xe s1) PassesOwn.looking
  (fun σ' a H'=>∃ C dx,FlO H' a C dx/\ECls Y.K C/\Mw Y.K C a us (as1 Ex D) σ' H') ?_ [] s σ H D (bb6 I) hw) (fun f s1 q=>?_) fun _ _ z=>z
 ·intro pins' σ' H' s' a I' F' ⟨C,dx,e,ec,h⟩
  exact Vn (Eg I') hst hfr (ac9 F') fun s2 I2 F2=>Wv hst hfr m hh I2 F2.at e ec h
 ·have q:=av9 q
  cases f with
  | next=>exact f_ q
  | _=>exact q
end
noncomputable def Gy:Expr->Bool
 | .ListComp _ _ _ _=>false
 | .SetComp _ _ _ _=>false
 | .DictComp _ _ _ _ _=>false
 | _=>true
theorem Gz {e:Expr} (h:Gy e=true) (t:Option Expr) (l:Nat) (env:Env):gM e t l env=pure false:=by
 cases e with
 | ListComp _ _ _ _=>cases h
 | SetComp _ _ _ _=>cases h
 | DictComp _ _ _ _ _=>cases h
 | _=>rfl
section
variable {X:Cx} {G:Sg} {st:Stmt} {rest:List Stmt} {t u:DS} {e:Expr} {de:DE} {pos p':Pos}
theorem Bh:QS X st B3:=fun _ _ _ _ _ _ _ _ h=>h.elim
theorem au4:QSs X [] Ae:=fun _ _=>at1
theorem ai9 (h1:QS X st t) (h2:QSs X rest u):QSs X (st::rest) (Af t u):=fun Ex m=>ah7 (h1 Ex m) (h2 Ex m)
theorem au2:QS X (.Pass pos) Ae:=fun _ _=>as9
theorem bm2:QS X (.Break pos) b58:=fun _ _=>ah4
theorem bm3:QS X (.Continue pos) b60:=fun _ _=>Qx
theorem bm6 (h:QE X e de):QS X (.Return (some e) pos) (Ar de):=fun Ex m=>bj7 (h Ex m)
theorem au3:QS X (.Return none pos) ax2:=fun _ _=>at0
theorem au1 (h:QE X e de) (hn:Gy e=true):QS X (.Expr e pos) (A3 de):=fun Ex m=>as8 (h Ex m) (Gz hn _ _ _)
theorem cc8 {c:Expr} {a b:List Stmt} {tc:DT} (hc:QT X c tc) (ha:QSs X a t) (hb:QSs X b u):QS X (.If c a b pos) (dIf tc t u):=fun Ex m=>cc1 (hc Ex m) (ha Ex m) (hb Ex m)
theorem ai7 {i:Nat} {x:Str} (O:GOk X G) (hi:Bt G.N x 0=some i) (hx:Sb G x=true) (h:QE X e de) (hn:gM e (some (.Name x p')) pos.line X.env=pure false):QS X (.Assign [.Name x p'] e pos) (A6 i de):=by
 obtain⟨h1,h2⟩:=Nk O hx
 exact fun Ex m=>bj8 (by rw [O.N];exact O.nd) (by rw [O.N];exact Dv hi) h1 (h Ex m) hn h2
variable {tg iter elt:Expr} {ifs:List Expr} {sc:Scope} {wi:DI} {g:DG} {tc:DT}
theorem Sj {i:Nat} {x:Str} {cp:Pos} (O:GOk X G) (hi:Bt G.N x 0=some i) (hx:Sb G x=true) (hc:X.calm=true) (hk:Ea G sc=true) (hs:Ji iter=true) (hq:QI X tg iter wi) (hg:∀ X',GOk X' (Ck G sc.names)->PG X' tg g)
  (ht:∀ X',GOk X' (Ck G sc.names)->ao5 X' ifs tc) (he:∀ X',GOk X' (Ck G sc.names)->QE X' elt de) :
  QS X (.Assign [.Name x p'] (.ListComp elt [⟨tg,iter,ifs,0⟩] sc cp) pos) (A6 i (C3 (Eu G sc.names) wi g tc de)):=by
 obtain⟨h1,h2⟩:=Nk O hx
 have sw:gM (.ListComp elt [⟨tg,iter,ifs,0⟩] sc cp) (some (.Name x p')) pos.line X.env=pure (X.env.blockKind==.function&&X.env.kindOf x==some .local&&p'.line==(Expr.ListComp elt [⟨tg,iter,ifs,0⟩] sc cp).pos.line
   && !(sc.names.any fun (n,k)=>n==x&&(k==.local||k==.cell))):=rfl
 cases hb:(X.env.blockKind==.function&&X.env.kindOf x==some .local&&p'.line==(Expr.ListComp elt [⟨tg,iter,ifs,0⟩] sc cp).pos.line
   && !(sc.names.any fun (n,k)=>n==x&&(k==.local||k==.cell))) with
 | false=>
  rw [hb] at sw
  exact ai7 O hi hx (Vs O hc hk hs hq hg ht he) sw
 | true=>
  rw [hb] at sw
  simp only [aw] at hb
  have hl:X.env.scope.names.lookup x=some .local:=bS hb.1.1.2
  intro Ex m pins s σ H D I h
  exact aa9 hc (by rw [O.N];exact O.nd) (by rw [O.N];exact Dv hi) hl (Mz O hk) (hq Ex m) (fun us Q2 fp C D s2 H2 I2 f2 hC=>
   have M:=Je (N':=(Ck G sc.names).N) (cl:=Cj X.env.cells sc.names []) (us:=us) (Q2:=Q2) (D:=D) m O.fr I2 f2 hC
   have K:=U1 O hk fp C s2 H2 (Bd X sc (Cj X.env.cells sc.names []) us Q2 D C)
   ⟨hg _ K,ht _ K _ M,he _ K _ M⟩) I h sw (fun x=>Jj hs X.env x)
theorem bm5 {body:List Stmt} (O:GOk X G) (ht:G.top=true) (hc:X.calm=true) (hi:QI X tg iter wi) (hg:PG X tg g) (hb:QSs X body t) (hs:Ji iter=true):QS X (.For tg iter body [] pos) (M0 wi g t):=by
 intro Ex m pins s σ H D I h
 refine bG (bj6 (O.own ht) hc (hi Ex m) hg (hb Ex m) (fun x=>Jj hs X.env x) pins s σ H { D with nx:=fun σ' H'=>Thaw H H' (D.nx σ') } I h) (fun f s' q=>?_) fun _ _ z=>z
 cases f with
 | next=>
  obtain⟨σ',H',I',q⟩:=q
  obtain⟨H2,I2,q2⟩:=Thaw.inv I I' q
  exact⟨σ',H2,I2,q2⟩
 | _=>exact q
theorem ai8 {c:Expr} {body:List Stmt} (O:GOk X G) (ht:G.top=true) (hc:QT X c tc) (hb:QSs X body t):QS X (.While c body [] pos) (Go tc t):=fun Ex m=>ah6 (O.own ht) (hc Ex m) (hb Ex m)
noncomputable def Df (K:aa) (e:DE):DS:=fun D σ H=>e σ H (Sl K (D.ex σ)) (D.ex σ)
theorem ai6 (O:GOk X G) (hc:X.A.handled=none) (h:QE X e de):QS X (.Raise (some e) none pos) (Df X.K de):=fun Ex m=>ah5 m hc (h Ex m)
noncomputable def af4:Expr->Bool
 | .Tuple _ _ _=>false
 | _=>true
theorem af5 {e:Expr} (h:af4 e=true) (tg:Expr) (env:Env):swappedStores [tg] e env=pure none:=by
 cases e with
 | Tuple _ _ _=>cases h
 | _=>cases tg <;> rfl
theorem bm1 {ts:List Expr} {kt:Nat} {pt:Pos} {g:DG} (h:QE X e de) (hg:PG X (.Tuple ts kt pt) g) (hn:Gy e=true) (ht:af4 e=true):QS X (.Assign [.Tuple ts kt pt] e pos) (Lc de g):=
 fun Ex m=>ah3 (h Ex m) hg (show jn [.Tuple ts kt pt] e pos.line X.env=pure false from Gz hn (some (.Tuple ts kt pt)) pos.line X.env) (af5 ht _ _)
noncomputable def Hc (K:aa) (o i:DE):DG:=fun v σ H Q=>o σ H (fun x H1=>i σ H1 (fun y H2=>aj6 x y v H2 (Q σ)) fun _ _=>False) fun _ _=>False
theorem bm7 {o i:Expr} {do' di:DE} (hu:X.A.units+64<cLine) (ho:QE X o do') (hi:QE X i di) (h:QE X e de) (hsl:E1 i=true):QS X (.Assign [.Subscript o i p'] e pos) (Lc de (Hc X.K do' di)):=by
 intro Ex m
 have hg:PG X (.Subscript o i p') (Hc X.K do' di):=bj4 (ho _ Ek) (hi _ Ek) (ci9 hu) (by
  intro v
  cases i with
  | Slice _ _ _ _=>cases hsl
  | _=>rfl)
 exact ah3 (h Ex m) hg (show jn [.Subscript o i p'] e pos.line X.env=pure false from by show gM e (some (.Subscript o i p')) pos.line X.env=pure false;cases e <;> rfl) (by cases e <;> rfl)
noncomputable def E9 (K:aa) (f:Str) (o e:DE):DS:=fun D σ H=>e σ H (fun y H1=>o σ H1 (fun x H2=>a26 K f x y H2 (D.nx σ)) (D.ex σ)) (D.ex σ)
theorem bm4 {o:Expr} {f:Str} {do':DE} (ho:QE X o do') (h:QE X e de):QS X (.Assign [.Attribute o f p'] e pos) (E9 X.K f do' de):=by
 intro Ex m pins s σ H D I hw
 refine plainObj_wpAny_Assign_Attribute (thn (h Ex m pins s σ H _ I hw) fun u s1 ⟨y,H1,I1,ry,q⟩=>thn (ho Ex m pins s1 σ H1 _ I1 q) fun ov s2 ⟨x,H2,I2,rx,q2⟩=>?_) (by cases e <;> rfl)
 exact ci8 I2 rx ry q2 fun H' s' I' hN=>⟨σ,H',I',hN⟩
end
noncomputable def co6:GB->GB
 | .val v u=>.val v u
 | .exc C _=>.val (.ref C) (.ref C)
 | .cls C _=>.val (.ref C) (.ref C)
 | .ini C _=>.val (.ref C) (.ref C)
 | _=>.met "" []
noncomputable def bz4 (gb:List (Str×GB)):List (Str×GB):=gb.map fun p=>(p.1,co6 p.2)
noncomputable def hdG (G:Sg):Sg:={ G with gb:=bz4 G.gb,calm:=false }
noncomputable def Qd (gb:List (Str×GB)) (x:Str):Option Addr:=match gb.lookup x with
 | some (.exc T _)=>some T
 | _=>none
noncomputable def okH (G:Sg):ExceptHandler->Bool
 | .ExceptHandler (some (.Name x _)) nm (_::_) _=>F0 G x&&(Qd G.gb x).isSome&&(match nm with
  | none=>true
  | some n=>(Bt G.N n 0).isSome&&(G.sc.lookup n==some .local))
 | _=>false
noncomputable def b84 (G:Sg):ExceptHandler->Option Nat
 | .ExceptHandler _ (some n) _ _=>Bt G.N n 0
 | _=>none
noncomputable def ax4 (G:Sg) (y:Str):Option Addr:=match G.gb.lookup y with
 | some (.exc T none)=>if F0 G y=true then some T else none
 | _=>none
noncomputable def af6:Expr->Bool
 | .Constant .none _ _=>true
 | _=>false
noncomputable def by4:Expr->Bool
 | .Constant (.str _) _ _=>true
 | _=>false
theorem Sa {e:Expr} (h:af6 e=true):∃ k p,e=.Constant .none k p:=by
 unfold af6 at h
 split at h
 ·exact⟨_,_,rfl⟩
 ·cases h
theorem Xp {e:Expr} (h:by4 e=true):∃ z k p,e=.Constant (.str z) k p:=by
 unfold by4 at h
 split at h
 ·exact⟨_,_,_,rfl⟩
 ·cases h
noncomputable def ax1 (G:Sg):Expr->Option Addr
 | .Call (.Name y _) [a] [] _=>if by4 a=true then ax4 G y else none
 | _=>none
noncomputable def bz3 (G:Sg):ExceptHandler->Option Addr
 | .ExceptHandler _ none [.Raise (some e) (some c) _] _=>if af6 c=true then ax1 G e else none
 | _=>none
noncomputable def L8 (G:Sg) (h:ExceptHandler):HK:=match bz3 G h with
 | some T=>.up T
 | none=>match b84 G h with
  | some i=>.as i
  | none=>.no
noncomputable def a94 (G:Sg):ExceptHandler->Addr
 | .ExceptHandler (some (.Name x _)) _ _ _=>(Qd G.gb x).getD 0
 | _=>0
noncomputable def ax0:ExceptHandler->List Stmt
 | .ExceptHandler _ _ b _=>b
theorem ba8 {X:Cx} {G:Sg} (O:GOk X G) (a:Addr):GOk (X.hd a) (hdG G) where
 K:=O.K
 kind:=O.kind
 own:=fun _=>PassesOwn.never
 N:=O.N
 nd:=O.nd
 sc:=O.sc
 vis:=O.vis
 top:=O.top
 calm:=rfl
 hd:=fun z=>by cases z
 units:=O.units
 cel:=O.cel
 gb:=fun x g e=>by
  obtain⟨⟨y,g'⟩,hg,z⟩:=List.mem_map.mp (show (x,g)∈G.gb.map fun p=>(p.1,co6 p.2) from e)
  cases z
  have h:=O.gb _ g' hg
  cases g' with
  | val v u=>exact h
  | exc C i=>exact⟨h.1,rfl⟩
  | cls C i=>exact⟨h.1,rfl⟩
  | ini C i=>exact⟨h.1,rfl⟩
  | fn i=>exact fun mi hm=>by cases hm
  | met m l=>exact fun mi hm=>by cases hm
  | dic a kvs=>exact fun mi hm=>by cases hm
  | key m l=>exact fun mi hm=>by cases hm
 bl:=O.bl
 frm:=O.frm
 fr:=O.fr
theorem co4 {X:Cx} {pn:List (Addr×Obj)} {xe:Value->ah->Prop} {i:FI} (F:Dw X i):Dw (X.tr pn xe) i:=⟨F.kp,F.ok,F.room,F.binds,F.vals⟩
theorem by9 {X:Cx} {G:Sg} (O:GOk X G) {pn:List (Addr×Obj)} {xe:Value->ah->Prop} (ho:fF (model X.prog X.w) X.A X.env xe):GOk (X.tr pn xe) G where
 K:=O.K
 kind:=O.kind
 own:=fun _=>ho
 N:=O.N
 nd:=O.nd
 sc:=O.sc
 vis:=O.vis
 top:=O.top
 calm:=O.calm
 hd:=O.hd
 units:=O.units
 cel:=O.cel
 gb:=fun x g e=>by
  refine GBOk.to (X:=X) ?_ ?_ ?_ ?_ ?_ ?_ (O.gb x g e)
  ·rfl
  ·rfl
  ·rfl
  ·rfl
  ·exact fun _ r=>r
  ·exact fun i F=>co4 F
 bl:=O.bl
 frm:=O.frm
 fr:=O.fr
theorem af9 {G:Sg} {h:ExceptHandler} (hh:okH G h=true):∃ x p nm b suite pos,h=.ExceptHandler (some (.Name x p)) nm (b::suite) pos/\F0 G x=true/\(Qd G.gb x).isSome=true /\ ∀ n,nm=some n->(Bt G.N n 0).isSome=true/\G.sc.lookup n=some .local:=by
 unfold okH at hh
 split at hh
 ·rw [aw,aw] at hh
  refine⟨_,_,_,_,_,_,rfl,hh.1.1,hh.1.2,fun n e=>?_⟩
  have h2:=hh.2
  rw [e] at h2
  have h2:((Bt G.N n 0).isSome&&(G.sc.lookup n==some .local))=true:=h2
  rw [aw] at h2
  exact⟨h2.1,bS h2.2⟩
 ·cases hh
theorem ad5 {X:Cx} {G:Sg} (O:GOk X G) {w:List Stmt->DS} (h:∀ a ss,QSs (X.hd a) ss (w ss)):∀ {hl:List ExceptHandler},hl.all (okH G)=true->Og X hl (hl.map fun h=>(a94 G h,L8 G h,w (ax0 h)))
 | [],_=>.nil
 | e0::r,hh=>by
  rw [bu,aw] at hh
  obtain⟨h1,h2⟩:=hh
  obtain⟨x,p,nm,b,suite,pos,rfl,hg,hs,hnm⟩:=af9 h1
  obtain⟨T,hT⟩:=Option.isSome_iff_exists.mp hs
  have hl:∃ oi,G.gb.lookup x=some (.exc T oi):=by
   unfold Qd at hT
   split at hT
   ·rename_i T' oi e;cases hT;exact⟨oi,e⟩
   ·cases hT
  obtain⟨oi,hl⟩:=hl
  obtain⟨m,kp,ec,_⟩:=O.at_ x _ hl
  have e:a94 G (.ExceptHandler (some (.Name x p)) nm (b::suite) pos)=T:=by show (Qd G.gb x).getD 0=T;rw [hT];rfl
  rw [aM,e]
  cases hu:bz3 G (.ExceptHandler (some (.Name x p)) nm (b::suite) pos) with
  | some T'=>
   have ek:L8 G (.ExceptHandler (some (.Name x p)) nm (b::suite) pos)=.up T':=by unfold L8;rw [hu]
   rw [ek]
   unfold bz3 at hu
   split at hu
   ·rename_i heq
    cases heq
    split at hu
    ·rename_i hc
     obtain⟨k2,p4,rfl⟩:=Sa hc
     unfold ax1 at hu
     split at hu
     ·split at hu
      ·rename_i hs'
       obtain⟨z,k,p2,rfl⟩:=Xp hs'
       unfold ax4 at hu
       split at hu
       ·rename_i T'' hy
        split at hu
        ·rename_i hgy
         cases hu
         obtain⟨my,kpy,ecy,iny⟩:=O.at_ _ _ hy
         exact .up (O.gl hg) m (Gu hg).1 ec (O.gl hgy) my (Gu hgy).1 ecy kpy iny (ad5 O h h2)
        ·cases hu
       ·cases hu
      ·cases hu
     ·cases hu
    ·cases hu
   ·cases hu
  | none=>
  have ao:Xv X nm (L8 G (.ExceptHandler (some (.Name x p)) nm (b::suite) pos)):=by
   unfold L8
   rw [hu]
   cases nm with
   | none=>exact .no
   | some n=>
    obtain⟨z1,z2⟩:=hnm n rfl
    obtain⟨i,hi⟩:=Option.isSome_iff_exists.mp z1
    show Xv X (some n) (match Bt G.N n 0 with|some i=>HK.as i|none=>HK.no)
    rw [hi]
    exact .as (by rw [O.N];exact O.nd) (by rw [O.N];exact Dv hi) (by rw [O.sc];exact z2)
  exact .cons (O.gl hg) m (Gu hg).1 ec ao (fun a=>h a _) (ad5 O h h2)
mutual
noncomputable def wS:Nat->Sg->Stmt->DS
 | 0,_,_=>B3
 | n+1,G,st=>match st with
  | .Pass _=>Ae
  | .Break _=>b58
  | .Continue _=>b60
  | .Return (some e) _=>Ar (wE n G e)
  | .Return none _=>ax2
  | .Expr e _=>if Gy e=true then A3 (wE n G e) else B3
  | .If c a b _=>dIf (wT n G c) (wSs n G a) (wSs n G b)
  | .Assign [.Name x _] (.ListComp elt [⟨tg,iter,ifs,0⟩] sc _) _=>match Bt G.N x 0 with
   | some i=>if Sb G x=true/\G.calm=true/\Ea G sc=true/\Ji iter=true then
     A6 i (C3 (Eu G sc.names) (wI n G tg iter) (wG n (Ck G sc.names) tg) (match ifs with | []=>Eb | [c]=>wT n (Ck G sc.names) c|_=>tNo) (wE n (Ck G sc.names) elt)) else B3
   | none=>B3
  | .Assign [.Name x _] e _=>match Bt G.N x 0 with
   | some i=>if Sb G x=true/\Gy e=true then A6 i (wE n G e) else B3
   | none=>B3
  | .Assign [.Tuple ts kt pt] e _=>if Gy e=true/\af4 e=true then Lc (wE n G e) (wG n G (.Tuple ts kt pt)) else B3
  | .Assign [.Attribute o f _] e _=>E9 G.K f (wE n G o) (wE n G e)
  | .Assign [.Subscript o i _] e _=>if E1 i=true then Lc (wE n G e) (Hc G.K (wE n G o) (wE n G i)) else B3
  | .Raise (some e) none _=>if G.calm=true then Df G.K (wE n G e) else B3
  | .For tg iter body [] _=>if G.calm=true/\Ji iter=true/\G.top=true then M0 (wI n G tg iter) (wG n G tg) (wSs n G body) else B3
  | .While c body [] _=>if G.top=true then Go (wT n G c) (wSs n G body) else B3
  | .Try body (h::hs) [] [] _=>if G.top=true/\(h::hs).all (okH G)=true then a96 G.K (wSs n G body) ((h::hs).map fun h=>(a94 G h,L8 G h,wSs n (hdG G) (ax0 h))) else B3
  | _=>B3
noncomputable def wSs:Nat->Sg->List Stmt->DS
 | 0,_,_=>B3
 | _+1,_,[]=>Ae
 | n+1,G,s::r=>Af (wS n G s) (wSs n G r)
end
theorem a54:∀ (n:Nat) (X:Cx) (G:Sg),GOk X G->(∀ s,QS X s (wS n G s))/\(∀ ss,QSs X ss (wSs n G ss)):=by
 intro n
 induction n with
 | zero=>
  intro X G O
  refine⟨fun s=>?_,fun s=>?_⟩
  ·unfold wS;exact Bh
  ·unfold wSs;exact fun _ _ _ _ _ _ _ _ h=>h.elim
 | succ n ih=>
  intro X G O
  obtain⟨hS,hSs⟩:=ih X G O
  obtain⟨hE,hT,hI⟩:=b46 n X G O
  refine⟨fun s=>?_,fun s=>?_⟩
  ·unfold wS
   split
   ·exact au2
   ·exact bm2
   ·exact bm3
   ·exact bm6 (hE _)
   ·exact au3
   ·split
    ·exact au1 (hE _) ‹_›
    ·exact Bh
   ·exact cc8 (hT _) (hSs _) (hSs _)
   ·split
    ·rename_i i e
     split
     ·rename_i hh
      obtain⟨h1,h2,h3,h4⟩:=hh
      refine Sj O e h1 (O.calm▸h2) h3 h4 (hI _ _) (fun X' O'=>Rf n X' _ O' _) (fun X' O'=>?_) (fun X' O'=>(b46 n X' _ O').1 _)
      split
      ·exact Qz
      ·exact Q0 ((b46 n X' _ O').2.1 _)
      ·exact fun _ _ _ _ _ _ _ _ h=>h.elim
     ·exact Bh
    ·exact Bh
   ·split
    ·rename_i i e
     split
     ·rename_i hh
      exact ai7 O e hh.1 (hE _) (Gz hh.2 _ _ _)
     ·exact Bh
    ·exact Bh
   ·split
    ·rename_i hh
     exact bm1 (hE _) (Rf n X G O _) hh.1 hh.2
    ·exact Bh
   ·rw [<- O.K];exact bm4 (hE _) (hE _)
   ·split
    ·rename_i hh
     rw [<- O.K];exact bm7 O.units (hE _) (hE _) (hE _) hh
    ·exact Bh
   ·split
    ·rename_i hcm
     rw [<- O.K];exact ai6 O (O.hd (O.calm▸hcm)) (hE _)
    ·exact Bh
   ·split
    ·rename_i hh
     exact bm5 O hh.2.2 (O.calm▸hh.1) (hI _ _) (Rf n X G O _) (hSs _) hh.2.1
    ·exact Bh
   ·split
    ·rename_i hh
     exact ai8 O hh (hT _) (hSs _)
    ·exact Bh
   ·split
    ·rename_i hh
     rw [<- O.K]
     exact bm8 (O.frm hh.1).1 (O.frm hh.1).2 (fun pn xe ho=>(ih _ _ (by9 O ho)).2 _) (ad5 O (fun a ss=>(ih _ _ (ba8 O a)).2 ss) hh.2)
    ·exact Bh
   ·exact Bh
  ·cases s with
   | nil=>unfold wSs;exact au4
   | cons a r=>unfold wSs;exact ai9 (hS a) (hSs r)
section
variable {P:aH} {w:bh} {K:aa} {mg:Str->Option Value} {base:Heap}
structure FnIn (P:aH) (w:bh) (K:aa) (mg:Str->Option Value) (base:Heap) (k:Nat) (x:Str) (i:FI):Prop where
 at_:mg x=some (.ref i.f)
 kp:aq K (.ref i.f)=true
 ok:∃ CX,(∀ X':Cx,X'.prog=P->X'.w=w->Li CX X')/\FnOk P w K mg base CX i.k i.f i.fd i.ps i.sp
 le:i.k<=k
 binds:∀ j,j<=i.dfs.length->Binds K i.fd i.ps (i.ds.drop j)
 vals:Vals i.dfs i.ds
noncomputable def a59 (P:aH) (w:bh) (K:aa) (mg:Str->Option Value) (base:Heap) (k:Nat) (C:Addr):Option FI->Prop
 | none=>ae K (.ref C) "__init__" = some (some (.builtin "ValueError.__init__"))
 | some i=>ae K (.ref C) "__init__" = some (some (.ref i.f))/\bV K (.ref i.f)=true/\aq K (.ref i.f)=true/\(∃ CX,(∀ X':Cx,X'.prog=P->X'.w=w->Li CX X')/\FnOk P w K mg base CX i.k i.f i.fd i.ps i.sp) /\
   i.k+1<=k/\(∀ j,j<=i.dfs.length->Binds K i.fd i.ps (i.ds.drop j))/\Vals i.dfs i.ds
structure ExcIn (P:aH) (w:bh) (K:aa) (mg:Str->Option Value) (base:Heap) (k:Nat) (x:Str) (C:Addr) (oi:Option FI):Prop where
 at_:mg x=some (.ref C)
 kp:aq K (.ref C)=true
 cls:ECls K C
 init:a59 P w K mg base k C oi
structure FiIn (P:aH) (w:bh) (K:aa) (mg:Str->Option Value) (base:Heap) (k:Nat) (i:FI):Prop where
 kp:aq K (.ref i.f)=true
 ok:∃ CX,(∀ X':Cx,X'.prog=P->X'.w=w->Li CX X')/\FnOk P w K mg base CX i.k i.f i.fd i.ps i.sp
 le:i.k<=k
 binds:∀ j,j<=i.dfs.length->Binds K i.fd i.ps (i.ds.drop j)
 vals:Vals i.dfs i.ds
theorem FiIn.mono {k k':Nat} {i:FI} (F:FiIn P w K mg base k i) (h:k<=k'):FiIn P w K mg base k' i:=⟨F.kp,F.ok,aR F.le h,F.binds,F.vals⟩
noncomputable def cr7 (P:aH) (w:bh) (K:aa) (mg:Str->Option Value) (base:Heap) (k:Nat) (C:Addr):Option FI->Prop
 | none=>aS K C=true/\ae K (.ref C) "__init__" = some (some (.builtin "object.__init__"))
 | some i=>aS K C=true/\ae K (.ref C) "__init__" = some (some (.ref i.f))/\bV K (.ref i.f)=true/\FiIn P w K mg base k i/\i.k+1<=k
structure ClsIn (P:aH) (w:bh) (K:aa) (mg:Str->Option Value) (base:Heap) (k:Nat) (x:Str) (C:Addr) (oi:Option FI):Prop where
 at_:mg x=some (.ref C)
 kp:aq K (.ref C)=true
 made:cr7 P w K mg base k C oi
theorem ClsIn.mono {k k':Nat} {x:Str} {C:Addr} {oi:Option FI} (F:ClsIn P w K mg base k x C oi) (h:k<=k'):ClsIn P w K mg base k' x C oi:=by
 refine⟨F.at_,F.kp,?_⟩
 cases oi with
 | none=>exact F.made
 | some i=>obtain⟨a,b,c,d,e⟩:=F.made;exact⟨a,b,c,d.mono h,aR e h⟩
structure MetIn (P:aH) (w:bh) (K:aa) (mg:Str->Option Value) (base:Heap) (k:Nat) (m:Str) (mi:MI):Prop where
 cls:Cls K mi.C
 at_:A2 K mi.C m mi.i.f
 fi:FiIn P w K mg base k mi.i
theorem MetIn.mono {k k':Nat} {m:Str} {mi:MI} (F:MetIn P w K mg base k m mi) (h:k<=k'):MetIn P w K mg base k' m mi:=⟨F.cls,F.at_,F.fi.mono h⟩
theorem ExcIn.mono {P:aH} {w:bh} {K:aa} {mg:Str->Option Value} {base:Heap} {k k':Nat} {x:Str} {C:Addr} {oi:Option FI} (F:ExcIn P w K mg base k x C oi) (h:k<=k'):ExcIn P w K mg base k' x C oi:=by
 refine⟨F.at_,F.kp,F.cls,?_⟩
 cases oi with
 | none=>exact F.init
 | some i=>obtain⟨a,b,c,d,e,f⟩:=F.init;exact⟨a,b,c,d,aR e h,f⟩
structure aw8 (P:aH) (w:bh) (K:aa) (mg:Str->Option Value) (base:Heap) (k:Nat) (x:Str) (C:Addr) (i:FI):Prop where
 at_:mg x=some (.ref C)
 sup:Ur K C i.f
 fi:FiIn P w K mg base k i
structure b54 (P:aH) (w:bh) (K:aa) (mg:Str->Option Value) (base:Heap) (k:Nat) (m:Str) (mi:MI):Prop where
 met:MetIn P w K mg base k m mi
 sg:b6 K (.ref mi.i.f) "__get__" = some (some (.builtin "function.__get__"))
 tk:cO K (.ref mi.i.f)=some false
 cn:PySem.W.copiedNames.contains m=false
 le:mi.i.k+2<=k
noncomputable def GBIn (P:aH) (w:bh) (K:aa) (mg:Str->Option Value) (base:Heap) (k:Nat) (x:Str):GB->Prop
 | .fn i=>FnIn P w K mg base k x i
 | .val v u=>mg x=some u/\RelV v u
 | .exc C oi=>ExcIn P w K mg base k x C oi
 | .cls C oi=>ClsIn P w K mg base k x C oi
 | .met m l=>∀ mi∈l,MetIn P w K mg base k m mi
 | .ini C i=>aw8 P w K mg base k x C i
 | .dic a kvs=>mg x=some (.ref a)/\Oi P w K a kvs
 | .key m l=>∀ mi∈l,b54 P w K mg base k m mi
structure Tab (P:aH) (w:bh) (K:aa) (mg:Str->Option Value) (base:Heap) (k:Nat) (gb:List (Str×GB)) (bl:List Str):Prop where
 all:∀ x g,(x,g)∈gb->GBIn P w K mg base k x g
 bl:∀ x∈bl,mg x=none
theorem FnIn.mono {k k':Nat} {x:Str} {i:FI} (F:FnIn P w K mg base k x i) (h:k<=k'):FnIn P w K mg base k' x i:=⟨F.at_,F.kp,F.ok,aR F.le h,F.binds,F.vals⟩
theorem GBIn.mono {k k':Nat} {x:Str} {g:GB} (F:GBIn P w K mg base k x g) (h:k<=k'):GBIn P w K mg base k' x g:=by
 cases g with
 | fn i=>exact FnIn.mono F h
 | val v u=>exact F
 | exc C oi=>exact ExcIn.mono F h
 | cls C oi=>exact ClsIn.mono F h
 | met m l=>exact fun mi hm=>(F mi hm).mono h
 | ini C i=>exact⟨F.at_,F.sup,F.fi.mono h⟩
 | dic a kvs=>exact F
 | key m l=>exact fun mi hm=>let q:=F mi hm;⟨q.met.mono h,q.sg,q.tk,q.cn,aR q.le h⟩
theorem Tab.nil {bl:List Str} (h:∀ x∈bl,mg x=none):Tab P w K mg base 0 [] bl:=⟨fun _ _ h=>(by cases h),h⟩
theorem Tab.mono {k k':Nat} {gb:List (Str×GB)} {bl:List Str} (T:Tab P w K mg base k gb bl) (h:k<=k'):Tab P w K mg base k' gb bl:=⟨fun x g hx=>(T.all x g hx).mono h,T.bl⟩
theorem Tab.put {k:Nat} {gb:List (Str×GB)} {bl:List Str} {x:Str} {g:GB} (T:Tab P w K mg base k gb bl) (F:GBIn P w K mg base k x g):Tab P w K mg base k ((x,g)::gb) bl:=
 ⟨fun y j hy=>by
  rcases List.mem_cons.mp hy with e|e
  ·cases e;exact F
  ·exact T.all y j e,T.bl⟩
theorem Tab.cons {k:Nat} {gb:List (Str×GB)} {bl:List Str} {x:Str} {i:FI} (T:Tab P w K mg base k gb bl) (F:FnIn P w K mg base k x i):Tab P w K mg base k ((x,.fn i)::gb) bl:=T.put F
theorem Tab.consX {k:Nat} {gb:List (Str×GB)} {bl:List Str} {x:Str} {C:Addr} {oi:Option FI} (T:Tab P w K mg base k gb bl) (F:ExcIn P w K mg base k x C oi):Tab P w K mg base k ((x,.exc C oi)::gb) bl:=T.put F
theorem Tab.consV {k:Nat} {gb:List (Str×GB)} {bl:List Str} {x:Str} {v:V} {u:Value} (T:Tab P w K mg base k gb bl) (F:mg x=some u) (r:RelV v u):Tab P w K mg base k ((x,.val v u)::gb) bl:=T.put ⟨F,r⟩
theorem Tab.consC {k:Nat} {gb:List (Str×GB)} {bl:List Str} {x:Str} {C:Addr} {oi:Option FI} (T:Tab P w K mg base k gb bl) (F:ClsIn P w K mg base k x C oi):Tab P w K mg base k ((x,.cls C oi)::gb) bl:=T.put F
theorem Tab.consM {k:Nat} {gb:List (Str×GB)} {bl:List Str} {x:Str} {m:Str} {l:List MI} (T:Tab P w K mg base k gb bl) (F:∀ mi∈l,MetIn P w K mg base k m mi):Tab P w K mg base k ((x,.met m l)::gb) bl:=T.put F
theorem Tab.consK {k:Nat} {gb:List (Str×GB)} {bl:List Str} {x:Str} {m:Str} {l:List MI} (T:Tab P w K mg base k gb bl) (F:∀ mi∈l,b54 P w K mg base k m mi):Tab P w K mg base k ((x,.key m l)::gb) bl:=T.put F
theorem Tab.consI {k:Nat} {gb:List (Str×GB)} {bl:List Str} {x:Str} {C:Addr} {i:FI} (T:Tab P w K mg base k gb bl) (F:aw8 P w K mg base k x C i):Tab P w K mg base k ((x,.ini C i)::gb) bl:=T.put F
theorem GBIn.there {X:Cx} {k:Nat} {x:Str} {g:GB} (F:GBIn X.prog X.w X.K X.mg X.base k x g) (hr:Room k X.A):GBOk X x g:=by
 cases g with
 | fn i=>exact⟨F.at_,F.kp,F.ok,hr.mono F.le,F.binds,F.vals⟩
 | val v u=>exact F
 | exc C oi=>
  refine⟨F.at_,F.kp,F.cls,?_⟩
  cases oi with
  | none=>exact F.init
  | some i=>obtain⟨a,b,c,d,e,f,g⟩:=F.init;exact⟨a,b,⟨c,d,hr.mono (by omega),f,g⟩,hr.mono e⟩
 | cls C oi=>
  refine⟨F.at_,F.kp,?_⟩
  cases oi with
  | none=>exact F.made
  | some i=>obtain⟨a,b,c,d,e⟩:=F.made;exact⟨a,b,c,⟨d.kp,d.ok,hr.mono d.le,d.binds,d.vals⟩,hr.mono e⟩
 | met m l=>exact fun mi hm=>⟨(F mi hm).cls,(F mi hm).at_,⟨(F mi hm).fi.kp,(F mi hm).fi.ok,hr.mono (F mi hm).fi.le,(F mi hm).fi.binds,(F mi hm).fi.vals⟩⟩
 | ini C i=>exact⟨F.at_,F.sup,⟨F.fi.kp,F.fi.ok,hr.mono F.fi.le,F.fi.binds,F.fi.vals⟩⟩
 | dic a kvs=>exact F
 | key m l=>exact fun mi hm=>let q:=F mi hm;⟨q.met.cls,q.met.at_,q.sg,q.tk,q.cn,⟨q.met.fi.kp,q.met.fi.ok,hr.mono q.met.fi.le,q.met.fi.binds,q.met.fi.vals⟩,hr.mono q.le⟩
theorem Cr (X:Cx):Li CX0 X:=fun _ _ _ _ _ _ _ _ _ h=>h.elim
noncomputable def Au (K:aa) (N:List Str) (sc:Scope) (gb:List (Str×GB)) (bl:List Str):Sg:=⟨K,N,sc.names,gb,bl,true,true⟩
noncomputable def Al (N:List Str) (sc:Scope):Bool:=N.all fun x=>(sc.names.lookup x==some .local)||(sc.names.lookup x==some .cell)
noncomputable def ba3 (Q:VK) (E:EK):Oj:=⟨fun _ H'=>Q .non H',Q,fun _ _=>False,fun _ _=>False,fun _=>E⟩
structure FunD (K:aa) (x qual:Str) (st:Stmt) (f:Addr) (fd:ai) (dV:Value):Prop where
 ex:∃ (oc:Value) (od:Option Addr) (kV doc pm:Value) (an:Option Addr) (cdv ct:Value) (osl:Array (Option Value)),
  fd=bB x qual (A7 st) (Ag st) (Aa st) dV kV doc pm an cdv ct/\K.lookup f=some ⟨oc,od,.func fd,osl⟩/\ci K cdv qual=true
 kp:aq K (.ref f)=true
theorem Fun.toD {x qual:Str} {st:Stmt} {f:Addr} {fd:ai} (F:Fun K x qual st f fd):FunD K x qual st f fd .none:=⟨F.ex,F.kp⟩
theorem M5 {x qual:Str} {st:Stmt} {f:Addr} {oc:Value} {od an:Option Addr} {osl:Array (Option Value)} {dV kV doc pm cdv ct:Value} (l:K.lookup f=some ⟨oc,od,.func (bB x qual (A7 st) (Ag st) (Aa st) dV kV doc pm an cdv ct),osl⟩)
  (c:ci K cdv qual=true) (k:aq K (.ref f)=true):FunD K x qual st f (bB x qual (A7 st) (Ag st) (Aa st) dV kV doc pm an cdv ct) dV:=⟨⟨oc,od,kV,doc,pm,an,cdv,ct,osl,rfl,l,c⟩,k⟩
theorem FunD.ok {x qual:Str} {st:Stmt} {f:Addr} {fd:ai} {dV:Value} {N ps:List Str} {k:Nat} {sp:Sp} (F:FunD K x qual st f fd dV) (S:Aj N ps (Aa st)) (len:∀ vs H Q E,sp vs H Q E->vs.length=ps.length)
  (hbody:∀ (cdv:Value) (A:a_) (outer:List Env) (s:ah) (H:Hp) (vs:List V) (Q:VK) (E:XK),Room k (A.deeper (jE qual (Aa st) s.heap.objs.size f cdv))->sp vs H Q E ->
   ∃ t,PSs (Ij CX0 P w K mg base N qual (Aa st) f cdv A outer s H E).nox (Ag st) t/\t { nx:=fun _ H'=>Q .non H',rt:=Q } (E6 N vs) H):FnOk P w K mg base CX0 (k+1) f fd ps sp:=by
 obtain⟨oc,od,kV,doc,pm,an,cdv,ct,osl,rfl,lk,hcd⟩:=F.ex
 refine ax5 lk hcd S len fun A outer s H vs Q E hr hsp=>?_
 obtain⟨t,h,q⟩:=hbody cdv A outer s H vs Q E hr hsp
 exact⟨t,h.nox,q⟩
theorem Rj {fd:ai} {ps:List Str} {T:Addr} {o:Obj} {items:Array Value} {n:Nat} {ds:List Value} (hd:fd.defaults=.ref T) (ho:K.lookup T=some o) (hs:o.data=.seq items n)
  (h:∀ us:List Value,(us++ds).length=ps.length -> ∃ k:Option (Array Value)->Sem (List (Str×Value)),jh fd ⟨us,[]⟩=seqItems? fd.defaults >>= k/\k (some items)=pure (ps.zip (us++ds))):Binds K fd ps ds:=fun s us X hl=>by
 obtain⟨k,h1,h2⟩:=h us hl
 exact PySem.W.binds_K X hd ho hs h1 h2
theorem FunD.okW0 {x qual:Str} {st:Stmt} {f:Addr} {fd:ai} {N ps:List Str} {k n:Nat} {sp:Sp} {gb:List (Str×GB)} {bl:List Str} {t:DS} {dV:Value} (F:FunD K x qual st f fd dV) (S:Aj N ps (Aa st)) (hv:Al N (Aa st)=true)
  (T:Tab P w K mg base k gb bl) (rd:wSs n (Au K N (Aa st) gb bl) (Ag st)=t) (len:∀ vs H Q E,sp vs H Q E->vs.length=ps.length)
  (hbody:∀ (vs:List V) (H:Hp) (Q:VK) (E:XK),sp vs H Q E->t (ba3 Q fun _ _=>False) (E6 N vs) H):FnOk P w K mg base CX0 (k+1) f fd ps sp:=by
 refine F.ok S len fun cdv A outer s H vs Q E hr h=>?_
 have O:GOk (Ij CX0 P w K mg base N qual (Aa st) f cdv A outer s H E).nox (Au K N (Aa st) gb bl):=by
  refine⟨rfl,S.kind,(fun _=>PassesOwn.never),rfl,S.nd,fun x=>rfl,fun x hx=>?_,fun _ _=>rfl,rfl,(fun _=>hr.hd),hr.units,fun x hx=>?_,fun x g e=>?_,fun x hx=>?_,(fun _=>⟨rfl,rfl⟩),⟨_,_,_,rfl,rfl,rfl⟩⟩
  ·have:=List.all_eq_true.mp hv x hx
   rw [dW] at this
   exact this.elim (fun z=>.inl (bS z)) fun z=>.inr (.inl (bS z))
  ·rcases hx with hx|hx
   ·exact Fl hx
   ·exact absurd rfl (S.nofree _ (bN hx))
  ·exact (T.all x g e).there hr
  ·exact T.bl x (by have hx':bl.contains x=true:=hx;simpa using hx')
 refine⟨_,(a54 n _ _ O).2 (Ag st) (fun _ _ _=>False) (fun _ _ _ _ _ _ _ h=>h.elim),?_⟩
 rw [rd]
 exact hbody vs H Q E h
end
theorem Same.upd {H:Hp} {a:Addr} {o:HO} (h:H a=none):Same H (upd H a o):=fun b u e=>by rw [Ak (Be e h)];exact e
theorem Same.set {H H':Hp} {a:Addr} {o:HO} (s:Same H H') (h:H a=none):Same H (L2.upd H' a o):=fun b u e=>by rw [Ak (Be e h)];exact s b u e
theorem Same.seqT {K:aa} {H H':Hp} {a:Addr} {xs:List V} (e:Same H H') (h:SqT K H a xs):SqT K H' a xs:=by
 rcases h with (h|⟨o,h⟩)|h
 ·exact .inl (.inl (e _ _ h))
 ·exact .inl (.inr ⟨o,e _ _ h⟩)
 ·exact .inr h
structure Dx (J:It) (its:List V) (ok:Hp->Prop):Prop where
 go:∀ i H,ok H->i<its.length->J.go i H
 stop:∀ H,ok H->J.stop its.length H
 yld:∀ i H x H',ok H->i<its.length->J.yld i H x H'->H'=H/\its[i]? = some x
noncomputable def Ep (z:Str):List V:=z.cps.toList.map fun c=>V.str ⟨#[c]⟩
theorem b48 (z:Str):Dx (Its z) (Ep z) (fun _=>True):=by
 have e:(Ep z).length=z.cps.size:=by unfold Ep;simp
 refine⟨fun i H _ h=>?_,fun H _=>?_,fun i H x H' _ _ h=>?_⟩
 ·show i<z.cps.size;omega
 ·show (Ep z).length=z.cps.size;exact e
 ·obtain⟨h1,c,h2,h3⟩:=h
  refine⟨h1,?_⟩
  unfold Ep
  rw [aP,cg,h2,h3]
  rfl
theorem E4 {K:aa} {a:Addr} (xs:List V):Dx (Itl K a) xs (fun H=>SqL K H a xs):=by
 refine⟨fun i H q h=>⟨xs,xs[i],q,by simp [h]⟩,fun H q=>⟨xs,q,ac _⟩,fun i H x H' q _ h=>?_⟩
 obtain⟨h1,h2⟩:=h
 exact⟨h1,h2 xs q⟩
noncomputable def Nv (lo:Int) (n:Nat):List V:=(cQ n).map fun (i:Nat)=>V.int (lo+(i:Int))
theorem Ch (lo:Int) (n:Nat):(Nv lo n).length=n:=by unfold Nv;simp
theorem Gh {lo:Int} {n i:Nat} (h:i<n):(Nv lo n)[i]? = some (.int (lo+(i:Int))):=by unfold Nv;simp [h]
theorem K9 (lo:Int) (n:Nat):Dx (Itr lo n) (Nv lo n) (fun _=>True):=by
 refine⟨fun i H _ h=>?_,fun H _=>?_,fun i H x H' _ hi h=>?_⟩
 ·rw [Ch] at h;exact h
 ·show n<=(Nv lo n).length;rw [Ch];exact ac _
 ·obtain⟨h1,h2⟩:=h
  rw [Ch] at hi
  exact⟨h1,by rw [Gh hi,h2]⟩
section
variable {J:It} {its:List V} {ok:Hp->Prop} {g:DG} {tb:DS} {D:Oj} {σ:St} {H:Hp}
theorem Fb (Y:Dx J its ok) (Pv:Nat->St->Hp->Prop) (h0:Pv 0 σ H) (hok:∀ i σ H,i<=its.length->Pv i σ H->ok H)
  (hs:∀ i x σ H,its[i]? = some x->Pv i σ H->g x σ H fun σ2 H2=>tb { D with nx:=Pv (i+1),ct:=Pv (i+1),bk:=D.nx } σ2 H2) (hd:∀ σ H,Pv its.length σ H->D.nx σ H):b52 J g tb D σ H:=by
 refine⟨fun i m σ H=>m=its.length - i/\i<=its.length/\Pv i σ H,⟨its.length,by simp,bC _,h0⟩,?_⟩
 rintro i m σ H ⟨rfl,hi,p⟩
 by_cases hlt:i<its.length
 ·refine .inr ⟨Y.go i H (hok i σ H hi p) hlt,Pv (i+1),fun σ' H' p'=>⟨its.length - (i+1),by omega,rfl,hlt,p'⟩,fun x H' y=>?_⟩
  obtain⟨e,y2⟩:=Y.yld i H x H' (hok i σ H hi p) hlt y
  subst e
  exact hs i x σ _ y2 p
 ·have e:i=its.length:=by omega
  subst e
  exact .inl ⟨Y.stop H (hok _ σ H hi p),hd σ H p⟩
variable {tc:DT} {te:DE} {L:Addr} {R:Hp->Prop} {E:EK}
theorem Ih (Y:Dx J its ok) (Pv:Nat->St->Hp->Prop) (h0:Pv 0 σ H) (hok:∀ i σ H,i<=its.length->Pv i σ H->ok H)
  (hs:∀ i x σ H,its[i]? = some x->Pv i σ H->g x σ H fun σ3 H3=>tc σ3 H3 (fun b H4=>if b=true then te σ3 H4 (fun v H5=>∃ ys,H5 L=some (.lst ys)/\ys.length<sizeLine/\Pv (i+1) σ3 (upd H5 L (.lst (ys++[v])))) E else Pv (i+1) σ3 H4) E)
  (hd:∀ σ H,Pv its.length σ H->R H):Wc J g tc te L R σ H E:=by
 refine⟨fun i m σ H=>m=its.length - i/\i<=its.length/\Pv i σ H,⟨its.length,by simp,bC _,h0⟩,?_⟩
 rintro i m σ H ⟨rfl,hi,p⟩
 by_cases hlt:i<its.length
 ·refine .inr ⟨Y.go i H (hok i σ H hi p) hlt,Pv (i+1),fun σ' H' p'=>⟨its.length - (i+1),by omega,rfl,hlt,p'⟩,fun x H' y=>?_⟩
  obtain⟨e,y2⟩:=Y.yld i H x H' (hok i σ H hi p) hlt y
  subst e
  exact hs i x σ _ y2 p
 ·have e:i=its.length:=by omega
  subst e
  exact .inl ⟨Y.stop H (hok _ σ H hi p),hd σ H p⟩
end
section
variable {K:aa} {H H':Hp}
theorem Same.seqL {a:Addr} {xs:List V} (e:Same H H') (h:SqL K H a xs):SqL K H' a xs:=by
 rcases h with (h|⟨o,h⟩)|h
 ·exact .inl (.inl (e _ _ h))
 ·exact .inl (.inr ⟨o,e _ _ h⟩)
 ·exact .inr h
theorem Cm:AtL K H [] []:=by unfold AtL;rfl
theorem Aw {d:Dt} {ds:List Dt} {x:V} {xs:List V} (h:At K H d x) (t:AtL K H ds xs):AtL K H (d::ds) (x::xs):=by unfold AtL;exact⟨x,xs,rfl,h,t⟩
noncomputable def Cc (z:Str):Dt:=.at_ (.str z)
theorem Bg {z:Str}:At K H (Cc z) (.str z):=by unfold Cc At;exact⟨rfl,rfl⟩
theorem Ig:∀ {r:List Str},AtL K H (r.map Cc) (r.map V.str)
 | []=>Cm
 | _::_=>Aw Bg Ig
theorem Uv {a:Addr} {r:List Str} (h:SqT K H a (r.map V.str)):At K H (.tup (r.map Cc)) (.ref a):=by unfold At;exact⟨a,_,rfl,h,Ig⟩
theorem Uu {a:Addr} {r:List Str} (h:SqL K H a (r.map V.str)):At K H (.lst (r.map Cc)) (.ref a):=by unfold At;exact⟨a,_,rfl,h,Ig⟩
theorem Ri {a:Addr} {ds:List Dt} {xs:List V} (h:SqT K H a xs) (g:AtL K H ds xs):At K H (.tup ds) (.ref a):=by unfold At;exact⟨a,xs,rfl,h,g⟩
theorem Z8 {a:Addr} {ds:List Dt} {xs:List V} (h:SqL K H a xs) (g:AtL K H ds xs):At K H (.lst ds) (.ref a):=by unfold At;exact⟨a,xs,rfl,h,g⟩
theorem Hm {v:V} (f:Bj v=true):At K H (.at_ v) v:=by unfold At;exact⟨rfl,f⟩
end
noncomputable def TKeep (K:aa) (H H':Hp):Prop:=∀ a xs,SqT K H a xs->SqT K H' a xs
section
variable {K:aa} {H H':Hp}
theorem TKeep.of (S:Same H H'):TKeep K H H':=fun _ _ h=>S.seqT h
theorem TKeep.trans {H2:Hp} (h:TKeep K H H') (g:TKeep K H' H2):TKeep K H H2:=fun a xs q=>g a xs (h a xs q)
theorem TKeep.lst {l:Addr} {ys zs:List V} (h:H l=some (.lst ys)):TKeep K H (upd H l (.lst zs)):=fun a xs q=>by
 rcases q with (q|⟨o,q⟩)|q
 ·have ne:a≠l:=fun e=>by subst e;rw [h] at q;cases q
  exact .inl (.inl (by rw [Ak ne];exact q))
 ·have ne:a≠l:=fun e=>by subst e;rw [h] at q;cases q
  exact .inl (.inr ⟨o,by rw [Ak ne];exact q⟩)
 ·exact .inr q
end
end L2
namespace L2
open PySem PySem.Spec PySem.W
structure XC (K:aa) (C:Addr) (bm:List Value):Prop where
 lk:∃ nm q N bs sn sub ab col dd k0 k1 k2 k3 k5,K.lookup C=some (dG nm q C N bs bm true sn sub ab col dd k0 k1 k2 k3 k5 "ValueError.__new__")
 ty:typeIn K (.ref C)=some (.type "type")
 sa:findIn K (.ref C) "__setattr__" = some (some (.builtin "object.__setattr__"))
 ga:findIn K (.ref C) "__getattribute__" = some (some (.builtin "BaseException.__getattribute__"))
 gt:findIn K (.ref C) "__getattr__" = some none
 ca:findIn K (.ref C) "__class__" = some (some (.builtin "object.__class__"))
 hn:specialIn K (.builtin "object.__class__") "__get__" = some (some (.builtin "getset_descriptor.__get__"))
 htk:takesIn K (.builtin "object.__class__")=some true
theorem xc_mk {K:aa} {C N:Addr} {bm bs:List Value} {nm q:Str} {sn:List Str} {sub:List Value} {ab:Bool} {col:Option Bool} {dd:Option Addr} {k0 k1 k2 k3 k5:Option Value}
  (lk:K.lookup C=some (dG nm q C N bs bm true sn sub ab col dd k0 k1 k2 k3 k5 "ValueError.__new__")) (ty:typeIn K (.ref C)=some (.type "type")) (sa:findIn K (.ref C) "__setattr__" = some (some (.builtin "object.__setattr__")))
  (ga:findIn K (.ref C) "__getattribute__" = some (some (.builtin "BaseException.__getattribute__"))) (gt:findIn K (.ref C) "__getattr__" = some none) (ca:findIn K (.ref C) "__class__" = some (some (.builtin "object.__class__")))
  (hn:specialIn K (.builtin "object.__class__") "__get__" = some (some (.builtin "getset_descriptor.__get__"))) (htk:takesIn K (.builtin "object.__class__")=some true):XC K C bm:=⟨⟨_,_,_,_,_,_,_,_,_,_,_,_,_,_,lk⟩,ty,sa,ga,gt,ca,hn,htk⟩
theorem XC.ecls {K:aa} {C:Addr} {bm:List Value} (x:XC K C bm) (h:A1 bm=true):ECls K C:=by
 obtain⟨nm,q,N,bs,sn,sub,ab,col,dd,k0,k1,k2,k3,k5,lk⟩:=x.lk
 exact⟨⟨_,_,_,_,bm,true,_,_,_,_,_,_,_,_,_,_,lk,h,rfl⟩,x.sa,x.ga,x.gt,x.ca,x.hn,x.htk⟩
theorem XC.cls {K:aa} {C:Addr} {bm:List Value} (x:XC K C bm):∃ cd,clsIn K C=some cd/\cd.mro=.ref C::bm:=by
 obtain⟨nm,q,N,bs,sn,sub,ab,col,dd,k0,k1,k2,k3,k5,lk⟩:=x.lk
 exact⟨_,by unfold clsIn;rw [lk],rfl⟩
theorem XC.kit {K:aa} {C D:Addr} {bm bd:List Value} (x:XC K C bm) (y:XC K D bd) {b:Bool} (h:(az C::bm).contains (.ref D)=b):kitOne K (.ref C) (.ref D)=some b:=by
 obtain⟨cd,h1,h2⟩:=x.cls
 obtain⟨cd',h3,_⟩:=y.cls
 unfold kitOne
 by_cases e:(az C==az D)=true
 ·rw [if_pos e]
  have e':az D=az C:=(bS e).symm
  rw [<- h,bn,e']
  simp
 ·rw [if_neg e]
  unfold kitCls
  dsimp only
  rw [h3,y.ty,if_pos (by rfl)]
  show mroIn K C (.ref D)=_
  unfold mroIn
  rw [h1,cf,h2,h]
  rfl
theorem Ca {K:aa} {fd:ai} {ps:List Str} {T:Addr} {o:Obj} {items:Array Value} {n:Nat} {ds:List Value} (m:Nat) (hd:fd.defaults=.ref T) (ho:K.lookup T=some o) (hs:o.data=.seq items n) (hm:m+ds.length=ps.length)
  (h:∀ us:List Value,us.length=m -> ∃ k:Option (Array Value)->Sem (List (Str×Value)),jh fd ⟨us,[]⟩=seqItems? fd.defaults >>= k/\k (some items)=pure (ps.zip (us++ds))):Binds K fd ps ds:=
 Rj hd ho hs fun us hl=>h us (by rw [ay] at hl;omega)
end L2
namespace L2
open PySem PySem.Spec PyProof.Rows
open Sem (wp)
section
variable {X:Cx} {pins:List (Addr×Obj)} {σ:St} {H:Hp} {s:ah} {a C:Addr} {dx:Option Addr} {h':Heap}
theorem Bv (X:Cx):Li (CXE X.prog X.w) X:=by
 intro Ex m pins σ H s e s' I h
 obtain⟨a,H',rfl,os,bare,u,hok,F,a',e',hE⟩:=h
 cases e'
 have I':=I.call' os u hok bare (fun b z=>absurd z (by simp))
 obtain⟨C,dx,vs,T,oT,ts,h1,h2,h3,h4,h5,h6,h7,h8,h9,h10⟩:=F
 exact m pins σ H' s' a I' ⟨C,dx,vs,h1,h2,h3,.inr ⟨T,oT,ts,h4,h5,h6,h7,⟨_,h8⟩,I.fpOk h9 h10⟩⟩ hE
end
section
variable {P:aH} {w:bh} {K:aa} {mg:Str->Option Value} {base:Heap}
theorem W6 {N:List Str} {qual:Str} {scope:Scope} {f:Addr} {cdv:Value} {A:a_} {outer:List Env} {s:ah} {H:Hp} {E:XK} :
  Meets (Ij (CXE P w) P w K mg base N qual scope f cdv A outer s H E) (fun _ a H'=>E (.ref a) none H'):=by
 intro pins σ H1 s1 a I F hE
 refine af (Vn (X:=Ij (CXE P w) P w K mg base N qual scope f cdv A outer s H E) I rfl rfl F fun s' I' F'=>?_)
 obtain⟨C,dx,vs,T,oT,ts,h1,h2,h3,q1,q2,q3,q4,q5,q6⟩:=F'
 exact⟨a,H1,rfl,I'.os,I'.bare,I'.base,I'.hok,⟨C,dx,vs,T,oT,ts,h1,h2,h3,q1,q2,q3,q4,q5,q6.2.2.2.1.elim (fun z=>absurd z (by simp [Ij])) id,q6.1⟩,hE⟩
noncomputable def b64 (Q:VK) (E:XK):Oj:=⟨fun _ H'=>Q .non H',Q,fun _ _=>False,fun _ _=>False,fun _ a H'=>E (.ref a) none H'⟩
theorem FunD.okWX {x qual:Str} {st:Stmt} {f:Addr} {fd:ai} {N ps:List Str} {k n:Nat} {sp:Sp} {gb:List (Str×GB)} {bl:List Str} {t:DS} {dV:Value} (F:FunD K x qual st f fd dV) (S:Aj N ps (Aa st)) (hv:Al N (Aa st)=true)
  (T:Tab P w K mg base k gb bl) (rd:wSs n (Au K N (Aa st) gb bl) (Ag st)=t) (len:∀ vs H Q E,sp vs H Q E->vs.length=ps.length)
  (hbody:∀ (vs:List V) (H:Hp) (Q:VK) (E:XK),sp vs H Q E->t (b64 Q E) (E6 N vs) H):FnOk P w K mg base (CXE P w) (k+1) f fd ps sp:=by
 obtain⟨oc,od,kV,doc,pm,an,cdv,ct,osl,rfl,lk,hcd⟩:=F.ex
 refine ax5 lk hcd S len fun A outer s H vs Q E hr h=>?_
 have O:GOk (Ij (CXE P w) P w K mg base N qual (Aa st) f cdv A outer s H E) (Au K N (Aa st) gb bl):=by
  refine⟨rfl,S.kind,(fun _=>PassesOwn.leaving),rfl,S.nd,fun x=>rfl,fun x hx=>?_,fun _ _=>rfl,rfl,(fun _=>hr.hd),hr.units,fun x hx=>?_,fun x g e=>?_,fun x hx=>?_,(fun _=>⟨rfl,rfl⟩),⟨_,_,_,rfl,rfl,rfl⟩⟩
  ·have:=List.all_eq_true.mp hv x hx
   rw [dW] at this
   exact this.elim (fun z=>.inl (bS z)) fun z=>.inr (.inl (bS z))
  ·rcases hx with hx|hx
   ·exact Fl hx
   ·exact absurd rfl (S.nofree _ (bN hx))
  ·exact (T.all x g e).there hr
  ·exact T.bl x (by have hx':bl.contains x=true:=hx;simpa using hx')
 refine⟨_,(a54 n _ _ O).2 (Ag st) (fun _ a H'=>E (.ref a) none H') W6,?_⟩
 rw [rd]
 exact hbody vs H Q E h
end
end L2
namespace L2
open PySem PySem.Spec PyProof.Rows
section
variable {P:aH} {w:bh} {K:aa} {mg:Str->Option Value} {base:Heap} {x q:Str} {st:Stmt} {f:Addr} {d:ai} {ps:List Str}
noncomputable def b50 (K:aa) (x q:Str) (st:Stmt) (f:Addr):Prop:=∃ d,Fun K x q st f d
structure TopD (K:aa) (q:Str) (st:Stmt) (f:Addr):Prop where
 at_:aK K aG q=some (some (.ref f))
 d:b50 K q q st f
structure MetD (K:aa) (x q:Str) (st:Stmt) (f:Addr):Prop where
 fn:bV K (.ref f)=true
 d:b50 K x q st f
theorem top_mk {oc:Value} {od an:Option Addr} {osl:Array (Option Value)} {kV doc pm cdv ct:Value} (a:aK K aG q=some (some (.ref f))) (l:K.lookup f=some ⟨oc,od,.func (bB q q (A7 st) (Ag st) (Aa st) .none kV doc pm an cdv ct),osl⟩)
  (c:ci K cdv q=true) (k:aq K (.ref f)=true):TopD K q st f:=⟨a,_,Ru l c k⟩
theorem met_mk {oc:Value} {od an:Option Addr} {osl:Array (Option Value)} {kV doc pm cdv ct:Value} (l:K.lookup f=some ⟨oc,od,.func (bB x q (A7 st) (Ag st) (Aa st) .none kV doc pm an cdv ct),osl⟩)
  (c:ci K cdv q=true) (k:aq K (.ref f)=true) (i:bV K (.ref f)=true):MetD K x q st f:=⟨i,_,Ru l c k⟩
structure DOk (K:aa) (mg:Str->Option Value) (q:Str) (st:Stmt) (f:Addr) (d:ai) (ps:List Str):Prop where
 F:FunD K q q st f d .none
 b:Binds K d ps []
 m:mg q=some (.ref f)
structure MOk (K:aa) (x q:Str) (st:Stmt) (f:Addr) (d:ai) (ps:List Str):Prop where
 F:FunD K x q st f d .none
 b:Binds K d ps []
 i:bV K (.ref f)=true
theorem TopD.ok {h:Heap} (D:TopD K q st f) (X:K.In h) (G:h.Ns aG mg) (hb:∀ (kV doc pm:Value) (an:Option Addr) (cdv ct:Value) (us:List Value),us.length=ps.length->jh (bB q q (A7 st) (Ag st) (Aa st) .none kV doc pm an cdv ct) ⟨us,[]⟩=pure (ps.zip us)):∃ d,DOk K mg q st f d ps:=by
 obtain⟨a,d,F⟩:=D
 exact⟨d,F.toD,F.binds hb,aV X G a⟩
theorem MetD.ok (D:MetD K x q st f) (hb:∀ (kV doc pm:Value) (an:Option Addr) (cdv ct:Value) (us:List Value),us.length=ps.length->jh (bB x q (A7 st) (Ag st) (Aa st) .none kV doc pm an cdv ct) ⟨us,[]⟩=pure (ps.zip us)):∃ d,MOk K x q st f d ps:=by
 obtain⟨a,d,F⟩:=D
 exact⟨d,F.toD,F.binds hb,a⟩
theorem ar4 {i:FI} (h2:i.ds=[]) (b:Binds K i.fd i.ps []):∀ j,j<=i.dfs.length->Binds K i.fd i.ps (i.ds.drop j):=fun j _=>by
 rw [h2,List.drop_nil];exact b
theorem Tab.con {k:Nat} {gb:List (Str×GB)} {bl:List Str} (T:Tab P w K mg base k gb bl) (i:FI) (g:DOk K mg q st i.f i.fd i.ps) (ok:FnOk P w K mg base CX0 i.k i.f i.fd i.ps i.sp) (hk:i.k<=k:=by exact ac _) (h1:i.dfs=[]:=by rfl) (h2:i.ds=[]:=by rfl):Tab P w K mg base k ((q,.fn i)::gb) bl:=
 T.cons ⟨g.m,g.F.kp,⟨CX0,fun X' _ _=>Cr X',ok⟩,hk,ar4 h2 g.b,by rw [h1,h2];exact .nil⟩
theorem Tab.conE {k:Nat} {gb:List (Str×GB)} {bl:List Str} (T:Tab P w K mg base k gb bl) (i:FI) (g:DOk K mg q st i.f i.fd i.ps) (ok:FnOk P w K mg base (CXE P w) i.k i.f i.fd i.ps i.sp) (hk:i.k<=k:=by exact ac _) (h1:i.dfs=[]:=by rfl) (h2:i.ds=[]:=by rfl):Tab P w K mg base k ((q,.fn i)::gb) bl:=
 T.cons ⟨g.m,g.F.kp,⟨CXE P w,fun X' e1 e2=>e1▸e2▸Bv X',ok⟩,hk,ar4 h2 g.b,by rw [h1,h2];exact .nil⟩
theorem MOk.fi {k:Nat} (i:FI) (g:MOk K x q st i.f i.fd i.ps) (ok:FnOk P w K mg base CX0 i.k i.f i.fd i.ps i.sp) (hk:i.k<=k:=by exact ii rfl) (h1:i.dfs=[]:=by rfl) (h2:i.ds=[]:=by rfl):FiIn P w K mg base k i:=
 ⟨g.F.kp,⟨CX0,fun X' _ _=>Cr X',ok⟩,hk,ar4 h2 g.b,by rw [h1,h2];exact .nil⟩
theorem MOk.fiE {k:Nat} (i:FI) (g:MOk K x q st i.f i.fd i.ps) (ok:FnOk P w K mg base (CXE P w) i.k i.f i.fd i.ps i.sp) (hk:i.k<=k:=by exact ii rfl) (h1:i.dfs=[]:=by rfl) (h2:i.ds=[]:=by rfl):FiIn P w K mg base k i:=
 ⟨g.F.kp,⟨CXE P w,fun X' e1 e2=>e1▸e2▸Bv X',ok⟩,hk,ar4 h2 g.b,by rw [h1,h2];exact .nil⟩
theorem one {C:Addr} {i:FI} {m:Str} {k:Nat} (h:MetIn P w K mg base k m ⟨C,i⟩):∀ mi∈[(⟨C,i⟩:MI)],MetIn P w K mg base k m mi:=fun mi hm=>by
 rw [bL] at hm
 exact hm▸h
end
end L2
namespace K25
open PySem L2
set_option genInjectivity false in
set_option genSizeOfSpec false in
structure Adr where
 f_zae:Addr
 d_zae:ai
 f_zal:Addr
 d_zal:ai
 f_zat:Addr
 d_zat:ai
 f_zbe:Addr
 d_zbe:ai
 f_zbf:Addr
 d_zbf:ai
 f_zh:Addr
 d_zh:ai
 f_zbc:Addr
 d_zbc:ai
 f_zap:Addr
 d_zap:ai
 f_zav:Addr
 d_zav:ai
 f_zaw:Addr
 d_zaw:ai
 f_zbh:Addr
 d_zbh:ai
 f_zbm:Addr
 d_zbm:ai
 f_zak:Addr
 d_zak:ai
 f_zbi:Addr
 d_zbi:ai
 f_zaj:Addr
 d_zaj:ai
 f_zay:Addr
 d_zay:ai
 f_zax:Addr
 d_zax:ai
 f_zr:Addr
 d_zr:ai
 f_zbq:Addr
 d_zbq:ai
 f_zbg:Addr
 d_zbg:ai
 f_zbr:Addr
 d_zbr:ai
 f_zs:Addr
 d_zs:ai
 f_zbs:Addr
 d_zbs:ai
 f_zan:Addr
 d_zan:ai
 f_zy:Addr
 d_zy:ai
 f_zbu:Addr
 d_zbu:ai
 f_zah:Addr
 d_zah:ai
 f_zq:Addr
 d_zq:ai
 f_zaq:Addr
 d_zaq:ai
 f_zai:Addr
 d_zai:ai
 f_zt:Addr
 d_zt:ai
 f_zbt:Addr
 d_zbt:ai
 f_zaz:Addr
 d_zaz:ai
 f_zbd:Addr
 d_zbd:ai
 f_zl:Addr
 d_zl:ai
 f_zao:Addr
 d_zao:ai
 f_zau:Addr
 d_zau:ai
 f_zbl:Addr
 d_zbl:ai
 f_zba:Addr
 d_zba:ai
 f_zbb:Addr
 d_zbb:ai
 f_zbk:Addr
 d_zbk:ai
 f_zz:Addr
 d_zz:ai
 f_zbj:Addr
 d_zbj:ai
 f_zf:Addr
 d_zf:ai
 f_zar:Addr
 d_zar:ai
 f_zbo:Addr
 d_zbo:ai
 f_zac:Addr
 d_zac:ai
 f_zj:Addr
 d_zj:ai
 f_zw:Addr
 d_zw:ai
 f_zn:Addr
 d_zn:ai
 f_zaa:Addr
 d_zaa:ai
 f_zp:Addr
 d_zp:ai
 f_zk:Addr
 d_zk:ai
 f_zd:Addr
 d_zd:ai
 f_zbw:Addr
 d_zbw:ai
 f_zg:Addr
 d_zg:ai
 f_zi:Addr
 d_zi:ai
 f_zam:Addr
 d_zam:ai
 f_zas:Addr
 d_zas:ai
 f_zag:Addr
 d_zag:ai
 f_zc:Addr
 d_zc:ai
 f_zo:Addr
 d_zo:ai
 f_ze:Addr
 d_ze:ai
 f_za:Addr
 d_za:ai
 f_zaf:Addr
 d_zaf:ai
 f_zm:Addr
 d_zm:ai
 f_zad:Addr
 d_zad:ai
 f_zab:Addr
 d_zab:ai
 f_zb:Addr
 d_zb:ai
 f_zbx:Addr
 d_zbx:ai
 f_zu:Addr
 d_zu:ai
 f_zx:Addr
 d_zx:ai
 f_zbp:Addr
 d_zbp:ai
 f_zbn:Addr
 d_zbn:ai
 f_zv:Addr
 d_zv:ai
 f_zbv:Addr
 d_zbv:ai
 f_zby:Addr
 d_zby:ai
 dv_zf:Value
 du_zf:List Value
 dv_zam:Value
 du_zam:List Value
 dv_zbp:Value
 du_zbp:List Value
 c_zce:Addr
 c_zch:Addr
 c_zcd:Addr
 c_zck:Addr
 c_zcj:Addr
 c_zcn:Addr
 c_zcq:Addr
 c_zcg:Addr
 c_zci:Addr
 c_zcp:Addr
 c_zcm:Addr
 c_zcl:Addr
 c_zct:Addr
 c_zcs:Addr
 c_zco:Addr
 c_zcr:Addr
 c_Edit:Addr
 c_PartEdit:Addr
 u_zbz:Value
 u_zca:Value
 u_zcb:Value
 u_zcf:Value
 u_zcc:Value
 u_zcu:Value
end K25
set_option maxHeartbeats 400000
namespace K25
open PySem L2
noncomputable def Q9 (c:Nat):Bool:=(decide (32<=c)&&decide (c<=126))&&c != 37
noncomputable def Ez (c:Nat):Bool:=decide (97<=c)&&decide (c<=122)
noncomputable def Wq (c:Nat):Bool:=decide (48<=c)&&decide (c<=57)
noncomputable def En (c:Nat):Bool:=Ez c||(Wq c||c==46)
noncomputable def Gw (a b:Nat) (z:Str):Bool:=decide (a<=z.length)&&decide (z.length<=b)
noncomputable def wfB (z:Str):Bool:=Gw 0 60 z&&z.cps.toList.all Q9
noncomputable def nmB (z:Str):Bool:=Gw 1 12 z&&z.cps.toList.all En
noncomputable def kdS (z:Str):Prop:=z = "chapter" \/ z = "para"
noncomputable def prS (z:Str):Prop:=z = "" \/ nmB z=true
noncomputable def rkI (i:Int):Prop:=0<=i/\i<=1000000000
structure Rc where
 kd:Str
 pr:Str
 rk:Int
 ct:Str
noncomputable abbrev Rs:=List (Str×Rc)
noncomputable def get (S:Rs) (z:Str):Option Rc:=(S.find? fun p=>decide (p.1=z)).map (·.2)
noncomputable def keys (S:Rs):List Str:=S.map (·.1)
noncomputable def Ci (S:Rs) (z:Str) (r:Rc):Rs:=if (S.any fun p=>decide (p.1=z))=true then S.map (fun p=>if p.1=z then (p.1,r) else p) else S++[(z,r)]
noncomputable def rcV (r:Rc):List V:=[.str r.kd,.str r.pr,.int r.rk,.str r.ct]
noncomputable def KvAt (K:aa) (H:Hp):Rs->List (Key×V)->Prop
 | [],kvs=>kvs=[]
 | (z,r)::S,kvs=>∃ q rest,kvs=(.inr z,.ref q)::rest/\SqT K H q (rcV r)/\KvAt K H S rest
noncomputable def RsAt (K:aa) (H:Hp) (d:Addr) (S:Rs):Prop:=∃ kvs,H d=some (.dK kvs)/\KvAt K H S kvs
noncomputable def RdAt (K:aa) (H:Hp) (d:Addr) (S:Rs):Prop:=∃ kvs,Rd H d (.dK kvs)/\KvAt K H S kvs
noncomputable def PlAt (K:aa) (t:Adr) (H:Hp) (p d:Addr) (S:Rs):Prop:=(∃ dx,H p=some (.ins t.c_zcl dx [("records", .ref d)]))/\RsAt K H d S
noncomputable def But (d:Addr) (H H':Hp):Prop:=∀ b o,b≠d->H b=some o->H' b=some o
inductive Way (S:Rs):Str->List Str->Prop where
 | top:Way S "" []
 | up {z:Str} {r:Rc} {l:List Str} (hz:z ≠ "") (g:get S z=some r) (w:Way S r.pr l):Way S z (z::l)
structure Tr (S:Rs):Prop where
 nd:(keys S).Nodup
 few:S.length<=8
 nm:∀ z r,get S z=some r->nmB z=true
 we:∀ z r,get S z=some r -> ∃ l,Way S z l
 ch:∀ z r,get S z=some r->r.pr ≠ "" -> ∃ q,get S r.pr=some q/\q.kd = "chapter"
 kd:∀ z r,get S z=some r->kdS r.kd
noncomputable def wyN:Nat->Rs->Str->List Str
 | 0,_,_=>[]
 | n+1,S,z=>if z = "" then [] else match get S z with
  | none=>[]
  | some r=>z::wyN n S r.pr
noncomputable def wy (S:Rs) (z:Str):List Str:=wyN 9 S z
inductive Ed where
 | put (n k p:Str) (r:Int) (c:Str)
 | cut (n:Str)
 | move (n p:Str) (r:Int)
 | wrap (n m x:Str)
noncomputable def Ed.ok:Ed->Prop
 | .put n k p r c=>nmB n=true/\kdS k/\prS p/\rkI r/\wfB c=true
 | .cut n=>nmB n=true
 | .move n p r=>nmB n=true/\prS p/\rkI r
 | .wrap n m x=>nmB n=true/\nmB m=true/\wfB x=true
noncomputable def edK:Ed->Nat
 | .put ..=>0
 | .cut _=>1
 | .move ..=>2
 | .wrap ..=>3
noncomputable def edC (t:Adr):Ed->Addr
 | .put ..=>t.c_zct
 | .cut _=>t.c_zcs
 | .move ..=>t.c_zco
 | .wrap ..=>t.c_zcr
noncomputable def edF:Ed->List (Str×V)
 | .put n k p r c=>[("name", .str n),("kind", .str k),("parent", .str p),("rank", .int r),("content", .str c)]
 | .cut n=>[("part", .str n)]
 | .move n p r=>[("part", .str n),("parent", .str p),("rank", .int r)]
 | .wrap n m x=>[("part", .str n),("name", .str m),("text", .str x)]
noncomputable def edV:Ed->List V
 | .put n k p r c=>[.str n,.str k,.str p,.int r,.str c]
 | .cut n=>[.str n]
 | .move n p r=>[.str n,.str p,.int r]
 | .wrap n m x=>[.str n,.str m,.str x]
noncomputable def edW:Ed->Str
 | .put .. => "put"
 | .cut _ => "cut"
 | .move .. => "move"
 | .wrap .. => "wrap"
noncomputable def EdAt (t:Adr) (H:Hp) (e:Ed) (a:Addr):Prop:=∃ dx,H a=some (.ins (edC t e) dx (edF e))
noncomputable def TdAt (K:aa) (H:Hp) (e:Ed) (p:Addr):Prop:=SqT K H p (.str (edW e)::edV e)
noncomputable def abo:Ed->Str
 | .put _ _ p _ _=>p
 | .cut n=>n
 | .move n _ _=>n
 | .wrap n _ _=>n
noncomputable def mks:Ed->Option Str
 | .put n _ _ _ _=>some n
 | .wrap _ m _=>some m
 | _=>none
noncomputable def Xd:Option Str->V
 | none=>.non
 | some z=>.str z
noncomputable def has (S:Rs) (z:Str):Bool:=(get S z).isSome
noncomputable def Iv (S:Rs) (p:Str):Option (Nat×Str):=if p = "" then none else match get S p with
 | some r=>if r.kd = "chapter" then none else some (4,p)
 | none=>none
noncomputable def rest (S:Rs):Ed->Option (Nat×Str)
 | .put n _ p _ _=>if has S n=true then some (1,n) else Iv S p
 | .cut _=>none
 | .move n p _=>if p ≠ "" /\ has S p=false then some (2,p) else if n∈wy S p then some (3,n) else Iv S p
 | .wrap _ m _=>if has S m=true then some (1,m) else none
noncomputable def due (S:Rs) (e:Ed):Option (Nat×Str):=if abo e ≠ "" /\ has S (abo e)=false then some (0,abo e) else rest S e
noncomputable def words:List Str:=["no part", "doubled", "lost", "ring", "no holder"]
noncomputable def dueV (o:Option (Nat×Str)) (K:aa) (H:Hp) (x:V):Prop:=match o with
 | none=>x=.non
 | some (i,z)=>∃ q,x=.ref q/\SqT K H q [.str (words.getD i ""),.str z]
noncomputable def Hh (S:Rs) (n:Str):Rs:=S.filter fun p=>decide (n∉wy S p.1)
noncomputable def An (S:Rs) (z:Str):Rc:=(get S z).getD ⟨"", "", 0, ""⟩
noncomputable def upS (S:Rs):Ed->Rs
 | .put n k p r c=>Ci S n ⟨k,p,r,c⟩
 | .cut n=>Hh S n
 | .move n p r=>Ci S n ⟨(An S n).kd,p,r,(An S n).ct⟩
 | .wrap n m x=>Ci (Ci S m ⟨"chapter", (An S n).pr,(An S n).rk,x⟩) n ⟨(An S n).kd,m,0,(An S n).ct⟩
noncomputable def Z9 (t:Adr):List Addr:=[t.c_zck,t.c_zcj,t.c_zcn,t.c_zcq,t.c_zcg]
noncomputable def Wr:List Str:=["part", "name", "kind", "parent", "rank", "content", "text"]
structure Facts (K:aa) (t:Adr):Prop where
 pl:Cls K t.c_zcl
 plr:NoAttr K t.c_zcl "records"
 ed:∀ C∈[t.c_zct,t.c_zcs,t.c_zco,t.c_zcr],Cls K C/\(ae K (.ref C) "__class__" = some (some (.builtin "object.__class__"))/\bb K C (.type "object")=some true/\bb K C (.ref t.c_Edit)=some true) /\ ∀ f∈Wr,NoAttr K C f
 kd:∀ C∈[t.c_zci,t.c_zcp,t.c_zcm],Cls K C
 hn:b6 K (.builtin "object.__class__") "__get__" = some (some (.builtin "getset_descriptor.__get__"))
 htk:cO K (.builtin "object.__class__")=some true
 ty:iM K (.ref t.c_Edit)=some (.type "type")
 mr:bb K t.c_Edit (.ref t.c_Edit)=some true
 bx:∀ (i:Nat) C,(Z9 t)[i]? = some C->ECls K C/\NoAttr K C "part" /\ NoAttr K C "choice" /\ bb K C (.ref t.c_zcd)=some true /\ ∀ (j:Nat) D,(Z9 t)[j]? = some D->cj K (.ref C) (.ref D)=some (decide (j=i))
noncomputable def b53 (H:Hp) (a C:Addr) (z:Str) (ch:V):Prop:=∃ dx,dx≠a/\H a=some (flO a C (some dx))/\H dx=some (xdO dx [("part", .str z),("choice", ch)])
noncomputable def Bad (t:Adr) (H:Hp) (o:Option (Nat×Str)) (ch:V) (E:XK):Prop:=∀ (n:Nat) z C,o=some (n,z)->(Z9 t)[n]? = some C -> ∀ H' a,Same H H'->b53 H' a C z ch->E (.ref a) none H'
noncomputable def NeedO (t:Adr) (H:Hp) (o:Option (Nat×Str)) (ch:V) (Q:VK) (E:XK):Prop:=(o=none -> ∀ H',Same H H'->Q .non H')/\Bad t H o ch E
noncomputable def rkf (S:Rs) (z:Str):Int:=(An S z).rk
noncomputable def G0 (S:Rs):List Str:=Cy (ltK (rkf S)) (keys S)
noncomputable def chS (S:Rs) (p:Str):List Str:=(G0 S).filter fun z=>decide ((An S z).pr=p)
noncomputable def UnAt (H:Hp) (u:Addr) (S:Rs):Prop:=∃ kvs,H u=some (.dK kvs) /\ ∀ p,match A9 kvs (.inr p) with
 | none=>chS S p=[]
 | some v=>∃ l,v=.ref l/\H l=some (.lst ((chS S p).map V.str))
noncomputable def PrAt (K:aa) (H:Hp):List (Int×Str)->List V->Prop
 | [],ys=>ys=[]
 | w::ws,ys=>∃ q rest,ys=.ref q::rest/\SqT K H q [.int w.1,.str w.2]/\PrAt K H ws rest
noncomputable def Of (S:Rs) (n:Str) (l:List Str):Prop:=l.Nodup /\ ∀ z,z∈l ↔ (has S z=true/\z≠n/\n∈wy S z)
section
noncomputable def ak1:Sp:=fun _ _ _ _=>False
noncomputable def Ny (f:Nat->Bool):Sp:=fun vs H Q _=>∃ c,vs=[.str ⟨#[c]⟩]/\Q (.bl (f c)) H
noncomputable def N0 (P:V->Prop):Sp:=fun vs H Q _=>∃ x,vs=[x]/\P x /\ ∀ H',Same H H'->Q (.bl true) H'
noncomputable def N2 (K:aa) (t:Adr):Sp:=fun vs H Q _=>∃ (z:Str) (a b:Nat),vs=[.str z,.int a,.int b]/\z.length<=100/\Q (.bl (Gw a b z)) H
noncomputable def Ty (K:aa) (t:Adr):Sp:=Ny Ez
noncomputable def Tx (K:aa) (t:Adr):Sp:=Ny Wq
noncomputable def am6 (K:aa) (t:Adr):Sp:=Ny En
noncomputable def am7 (K:aa) (t:Adr):Sp:=Ny Q9
noncomputable def G6 (K:aa) (t:Adr):Sp:=fun vs H Q _=>∃ z,vs=[.str z]/\z.length<=100 /\ ∀ H',Same H H'->Q (.bl (nmB z)) H'
noncomputable def Tz (K:aa) (t:Adr):Sp:=N0 fun x=>∃ i:Int,x=.int i
noncomputable def N8 (K:aa) (t:Adr):Sp:=N0 fun x=>∃ i:Int,x=.int i/\rkI i
noncomputable def K6 (K:aa) (t:Adr):Sp:=N0 fun x=>∃ z,x=.str z/\wfB z=true
noncomputable def N3 (K:aa) (t:Adr):Sp:=N0 fun x=>∃ z,x=.str z/\prS z
noncomputable def V7 (K:aa) (t:Adr):Sp:=ak1
noncomputable def Uf (K:aa) (t:Adr):Sp:=ak1
noncomputable def ak8 (K:aa) (t:Adr):Sp:=ak1
noncomputable def al1 (K:aa) (t:Adr):Sp:=fun vs H Q _=>∃ s z,vs=[s,.str z]/\wfB z=true /\ ∀ H',Same H H'->Q (.bl true) H'
noncomputable def Nz (z:Str):Sp:=fun vs H Q _=>∃ s,vs=[s]/\Q (.str z) H
noncomputable def a44 (K:aa) (t:Adr):Sp:=Nz "chapter"
noncomputable def al4 (K:aa) (t:Adr):Sp:=Nz "para"
noncomputable def ak9 (K:aa) (t:Adr):Sp:=Nz "table"
noncomputable def kcl (t:Adr) (z:Str):Addr:=if z = "chapter" then t.c_zci else t.c_zcp
noncomputable def Q7 (K:aa) (t:Adr):Sp:=fun vs H Q _=>∃ z,vs=[.str z]/\kdS z /\ ∀ H' a dx,Same H H'->H' a=some (.ins (kcl t z) dx [])->Q (.ref a) H'
noncomputable def ak3 (K:aa) (t:Adr):Sp:=fun vs H Q _=>∃ s,vs=[s]/\Q (.bl false) H
noncomputable def a38 (K:aa) (t:Adr):Sp:=fun vs H Q _=>∃ s,vs=[s]/\Q (.bl true) H
noncomputable def Er (K:aa) (t:Adr):Sp:=fun vs H Q _=>vs=[.bl true]/\Q .non H
noncomputable def Tu (t:Adr) (k:Nat):Sp:=fun vs H Q _=>∃ (a dx:Addr) (e:Ed),edK e=k/\vs=.ref a::edV e/\H a=some (.ins (edC t e) dx [])/\e.ok /\ ∀ H',Same H H'->Q .non (upd H' a (.ins (edC t e) dx (edF e)))
noncomputable def am2 (K:aa) (t:Adr):Sp:=Tu t 0
noncomputable def al2 (K:aa) (t:Adr):Sp:=Tu t 2
noncomputable def al8 (K:aa) (t:Adr):Sp:=Tu t 3
noncomputable def V6 (K:aa) (t:Adr):Sp:=fun vs H Q _=>∃ (a C dx:Addr) (n:Str),vs=[.ref a,.str n]/\H a=some (.ins C dx [])/\C∈[t.c_zct,t.c_zcs,t.c_zco,t.c_zcr]/\nmB n=true /\ ∀ H',Same H H'->Q .non (upd H' a (.ins C dx [("part", .str n)]))
noncomputable def Ic (K:aa) (t:Adr) (k:Nat):Sp:=fun vs H Q _=>∃ (a:Addr) (e:Ed),vs=[.ref a]/\edK e=k/\EdAt t H e a /\ ∀ H' p,Same H H'->TdAt K H' e p->Q (.ref p) H'
noncomputable def am4 (K:aa) (t:Adr):Sp:=Ic K t 0
noncomputable def am1 (K:aa) (t:Adr):Sp:=Ic K t 1
noncomputable def al3 (K:aa) (t:Adr):Sp:=Ic K t 2
noncomputable def am0 (K:aa) (t:Adr):Sp:=Ic K t 3
noncomputable def al7 (K:aa) (t:Adr):Sp:=fun vs H Q _=>∃ (a:Addr) (e:Ed),vs=[.ref a]/\edK e=0/\EdAt t H e a/\Q (.str (abo e)) H
noncomputable def a36 (K:aa) (t:Adr):Sp:=fun vs H Q _=>∃ (a:Addr) (e:Ed),vs=[.ref a]/\edK e≠0/\EdAt t H e a/\Q (.str (abo e)) H
noncomputable def al0 (K:aa) (t:Adr):Sp:=fun vs H Q _=>∃ s,vs=[s]/\Q .non H
noncomputable def am3 (K:aa) (t:Adr):Sp:=fun vs H Q _=>∃ (a:Addr) (e:Ed),vs=[.ref a]/\edK e=0/\EdAt t H e a/\Q (Xd (mks e)) H
noncomputable def al9 (K:aa) (t:Adr):Sp:=fun vs H Q _=>∃ (a:Addr) (e:Ed),vs=[.ref a]/\edK e=3/\EdAt t H e a/\Q (Xd (mks e)) H
noncomputable def a34 (K:aa) (t:Adr):Sp:=fun vs H Q _=>∃ (H0:Hp) (a C:Addr) (x y:V),vs=[.ref a,x,y]/\H0 a=none/\H=upd H0 a (D4 a C none)/\ECls K C/\NoAttr K C "part" /\ NoAttr K C "choice" /\ ∀ H' dx,Same H0 H'->dx≠a->H' a=some (D4 a C (some dx))->H' dx=some (xdO dx [("part", x),("choice", y)])->Q .non H'
noncomputable def ak5 (K:aa) (t:Adr):Sp:=fun vs H Q _=>∃ (a dx:Addr),vs=[.ref a]/\H a=some (.ins t.c_zcl dx []) /\ ∀ d,H d=none->Q .non (upd (upd H d (.dK [])) a (.ins t.c_zcl dx [("records", .ref d)]))
noncomputable def al5 (K:aa) (t:Adr):Sp:=fun vs H Q _=>∃ (p d:Addr) (S:Rs) (z:Str),vs=[.ref p,.str z]/\PlAt K t H p d S/\Q (.bl (has S z)) H
noncomputable def a47 (K:aa) (t:Adr):Sp:=fun vs H Q _=>∃ (p d:Addr) (S:Rs) (z:Str) (r:Rc),vs=[.ref p,.str z]/\PlAt K t H p d S/\get S z=some r /\ ∀ q,SqT K H q (rcV r)->Q (.ref q) H
noncomputable def V4 (K:aa) (t:Adr) (f:Rc->V):Sp:=fun vs H Q _=>∃ (p d:Addr) (S:Rs) (z:Str) (r:Rc),vs=[.ref p,.str z]/\PlAt K t H p d S/\get S z=some r/\Q (f r) H
noncomputable def a41 (K:aa) (t:Adr):Sp:=V4 K t fun r=>.str r.kd
noncomputable def a32 (K:aa) (t:Adr):Sp:=V4 K t fun r=>.str r.pr
noncomputable def a42 (K:aa) (t:Adr):Sp:=V4 K t fun r=>.int r.rk
noncomputable def a30 (K:aa) (t:Adr):Sp:=V4 K t fun r=>.str r.ct
noncomputable def a46 (K:aa) (t:Adr):Sp:=fun vs H Q _=>∃ (p d:Addr) (S:Rs),vs=[.ref p]/\PlAt K t H p d S/\Tr S /\ ∀ l,H l=none->Q (.ref l) (upd H l (.lst ((Cy ltS (keys S)).map V.str)))
noncomputable def al6 (K:aa) (t:Adr):Sp:=fun vs H Q _=>∃ (p d:Addr) (S:Rs) (z:Str) (r:Rc),vs=.ref p::.str z::rcV r/\PlAt K t H p d S/\S.length<100 /\ ∀ H',But d H H'->RsAt K H' d (Ci S z r)->Q .non H'
noncomputable def a31 (K:aa) (t:Adr):Sp:=fun vs H Q _=>∃ (p d:Addr) (S:Rs) (z:Str),vs=[.ref p,.str z]/\PlAt K t H p d S/\(z = "" \/ has S z=true)/\Q .non H
noncomputable def a33 (K:aa) (t:Adr):Sp:=fun vs H Q _=>∃ (p d:Addr) (S:Rs) (z:Str),vs=[.ref p,.str z]/\PlAt K t H p d S/\has S z=true /\ ∀ q,H q=none->Q (.ref q) (upd H q (.tup [.int (rkf S z),.str z]))
noncomputable def a29 (K:aa) (t:Adr):Sp:=fun vs H Q _=>∃ (p d:Addr) (S:Rs),vs=[.ref p]/\PlAt K t H p d S/\Tr S /\ ∀ H' u,Same H H'->UnAt H' u S->Q (.ref u) H'
noncomputable def ak6 (K:aa) (t:Adr):Sp:=fun vs H Q _=>∃ (p d:Addr) (S:Rs) (n:Str),vs=[.ref p,.str n]/\PlAt K t H p d S/\Tr S/\has S n=true /\ ∀ H' a ws ys,Same H H'->PrAt K H' ws ys->Of S n (ws.map (·.2))->H' a=some (.lst ys)->Q (.ref a) H'
noncomputable def a40 (K:aa) (t:Adr):Sp:=fun vs H Q _=>∃ (p d:Addr) (S:Rs) (n:Str),vs=[.ref p,.str n]/\PlAt K t H p d S/\Tr S/\has S n=true /\ ∀ H' l (ws:List Str),Same H H'->Of S n ws->H' l=some (.lst (ws.map V.str))->Q (.ref l) H'
noncomputable def ak4 (K:aa) (t:Adr):Sp:=fun vs H Q _=>∃ (p d:Addr) (S:Rs) (n:Str),vs=[.ref p,.str n]/\PlAt K t H p d S/\Tr S/\has S n=true /\ ∀ H',But d H H'->RsAt K H' d (Hh S n)->Q .non H'
noncomputable def N7 (K:aa) (t:Adr):Sp:=fun vs H Q E=>∃ (p d:Addr) (S:Rs) (n:Str) (ch:V),vs=[.ref p,.str n,ch]/\PlAt K t H p d S/\NeedO t H (if has S n=true then some (1,n) else none) ch Q E
noncomputable def N1 (K:aa) (t:Adr):Sp:=fun vs H Q E=>∃ (p d:Addr) (S:Rs) (n:Str) (ch:V),vs=[.ref p,.str n,ch]/\PlAt K t H p d S/\Tr S/\(n = "" \/ has S n=true)/\NeedO t H (Iv S n) ch Q E
noncomputable def Ib (K:aa) (t:Adr) (k:Nat):Sp:=fun vs H Q E=>∃ (a p d:Addr) (S:Rs) (e:Ed) (ch:V),vs=[.ref a,.ref p,ch]/\edK e=k/\EdAt t H e a/\e.ok/\PlAt K t H p d S/\Tr S/\(abo e = "" \/ has S (abo e)=true)/\NeedO t H (rest S e) ch Q E
noncomputable def a43 (K:aa) (t:Adr):Sp:=Ib K t 0
noncomputable def a39 (K:aa) (t:Adr):Sp:=Ib K t 1
noncomputable def a35 (K:aa) (t:Adr):Sp:=Ib K t 2
noncomputable def a37 (K:aa) (t:Adr):Sp:=Ib K t 3
noncomputable def Tw (K:aa) (t:Adr):Sp:=fun vs H Q E=>∃ (a p d:Addr) (S:Rs) (e:Ed) (ch:V),vs=[.ref a,.ref p,ch]/\EdAt t H e a/\e.ok/\PlAt K t H p d S/\Tr S/\NeedO t H (due S e) ch Q E
noncomputable def Ug (K:aa) (t:Adr):Sp:=fun vs H Q _=>∃ (p d:Addr) (S:Rs) (n:Str),vs=[.ref p,.str n]/\PlAt K t H p d S/\Tr S/\(n = "" \/ has S n=true) /\ ∀ H' l,Same H H'->H' l=some (.lst ((wy S n).map V.str))->Q (.ref l) H'
noncomputable def Oa (K:aa) (t:Adr):Sp:=fun vs H Q _=>∃ (p d:Addr) (S:Rs) (n q:Str) (r:Int),vs=[.ref p,.str n,.str q,.int r]/\PlAt K t H p d S/\S.length<100/\has S n=true /\ ∀ H',But d H H'->RsAt K H' d (Ci S n ⟨(An S n).kd,q,r,(An S n).ct⟩)->Q .non H'
noncomputable def E3 (K:aa) (t:Adr) (k:Nat):Sp:=fun vs H Q _=>∃ (a p d:Addr) (S:Rs) (e:Ed),vs=[.ref a,.ref p]/\edK e=k/\EdAt t H e a/\e.ok/\PlAt K t H p d S/\Tr S/\due S e=none /\ ∀ H',But d H H'->RsAt K H' d (upS S e)->Q .non H'
noncomputable def ak7 (K:aa) (t:Adr):Sp:=E3 K t 0
noncomputable def ak2 (K:aa) (t:Adr):Sp:=E3 K t 1
noncomputable def a45 (K:aa) (t:Adr):Sp:=E3 K t 2
noncomputable def a48 (K:aa) (t:Adr):Sp:=E3 K t 3
noncomputable def am5 (K:aa) (t:Adr):Sp:=fun vs H Q E=>∃ (a p d:Addr) (S:Rs) (e:Ed) (ch:V),vs=[.ref a,.ref p,ch]/\EdAt t H e a/\e.ok/\PlAt K t H p d S/\Tr S/\(due S e=none -> ∀ H',But d H H'->RsAt K H' d (upS S e)->Q .non H')/\Bad t H (due S e) ch E
noncomputable def Ua (K:aa) (t:Adr):Sp:=fun vs H Q _=>∃ (a:Addr) (ns:List Int) (k:Nat),vs=[.ref a,.int k]/\SqL K H a (ns.map V.int) /\ ∀ r:Int,Q (.int r) H
noncomputable def Tv (K:aa) (t:Adr):Sp:=fun vs H Q _=>∃ (c:Int) (n:Nat),vs=[.int c,.int n]/\n<=100 /\ ∀ H' l (ns:List Int),Same H H'->H l=none->H' l=some (.lst (ns.map V.int))->ns.length=n->(∀ i∈ns,0<=i/\i<2147483648)->Q (.ref l) H'
noncomputable def Ue (K:aa) (t:Adr):Sp:=fun vs H Q _=>∃ (c:Int) (k:Nat),vs=[.int c,.int k]/\k<=100 /\ ∀ z H',Same H H'->nmB z=true->Q (.str z) H'
noncomputable def Ub (K:aa) (t:Adr):Sp:=fun vs H Q _=>∃ (l:Addr) (c:Int) (ps:List Str),vs=[.ref l,.int c]/\H l=some (.lst (ps.map V.str))/\ps.length=8/\(∀ z∈ps,nmB z=true) /\ ∀ H' e p,Same H H'->e.ok->(∀ z,mks e=some z->z∈ps)->TdAt K H' e p->Q (.ref p) H'
noncomputable def Ud (K:aa) (t:Adr):Sp:=fun vs H Q _=>∃ (p:Addr) (e:Ed),vs=[.ref p]/\TdAt K H e p/\e.ok /\ ∀ H' a,Same H H'->EdAt t H' e a->Q (.ref a) H'
noncomputable def N5 (K:aa) (t:Adr):Sp:=fun vs H Q _=>∃ (d:Addr) (S:Rs) (n:Str),vs=[.ref d,.str n]/\RdAt K H d S/\Tr S/\has S n=true /\ ∀ H' l,Same H H'->H' l=some (.lst ((wy S n).map V.str))->Q (.ref l) H'
noncomputable def N4 (K:aa) (t:Adr):Sp:=fun vs H Q _=>∃ (p:Addr) (e:Ed),vs=[.ref p]/\TdAt K H e p/\Q (.str (abo e)) H
noncomputable def K5 (K:aa) (t:Adr):Sp:=fun vs H Q _=>∃ (p:Addr) (e:Ed),vs=[.ref p]/\TdAt K H e p/\Q (Xd (mks e)) H
noncomputable def am8 (K:aa) (t:Adr):Sp:=fun vs H Q _=>∃ (d p:Addr) (S:Rs) (e:Ed),vs=[.ref d,.ref p]/\RsAt K H d S/\Tr S/\TdAt K H e p/\e.ok /\ ∀ H' x,Same H H'->dueV (due S e) K H' x->Q x H'
noncomputable def Uc (K:aa) (t:Adr):Sp:=fun vs H Q _=>∃ (d p:Addr) (S:Rs) (e:Ed),vs=[.ref d,.ref p]/\RsAt K H d S/\Tr S/\TdAt K H e p/\e.ok/\due S e=none /\ ∀ H',But d H H'->RsAt K H' d (upS S e)->Q .non H'
noncomputable def N6 (K:aa) (t:Adr):Sp:=fun vs H Q _=>∃ (a p d:Addr) (S:Rs) (e:Ed) (b:Bool),vs=[.ref a,.ref p,.bl b]/\EdAt t H e a/\e.ok/\PlAt K t H p d S/\Tr S /\
 ∀ H' x,(if b=true then Same H H' else But d H H'/\RsAt K H' d (if due S e=none then upS S e else S))->dueV (due S e) K H' x->Q x H'
noncomputable def N9 (K:aa) (t:Adr):Sp:=fun vs H Q _=>∃ (p d d0:Addr) (S:Rs),vs=[.ref p,.ref d0]/\d≠d0/\PlAt K t H p d S/\RsAt K H d0 S/\Tr S /\ ∀ H',Same H H'->Q (.bl true) H'
noncomputable def Ob (K:aa) (t:Adr):Sp:=fun vs H Q _=>∃ (a:Addr) (ns:List Int),vs=[.ref a]/\SqL K H a (ns.map V.int)/\ns.length<=63 /\ ∀ H',Q (.bl true) H'
end
end K25
set_option maxHeartbeats 4000000
namespace K25
open PySem L2
noncomputable def top (i:Nat):Stmt:=PySem.Challenge.pw_manyleaf_k25_trees_edited.main.body.getD i (.Pass ⟨0,0,0,0⟩)
noncomputable def bl:List Str:=["all", "bool", "int", "isinstance", "len", "ord", "range", "reversed", "sorted", "str", "tuple"]
section
variable (K:aa) (t:Adr)
noncomputable abbrev Jv:Stmt:=Am (top 35) 0
noncomputable abbrev X2:List Str:=["self"]
noncomputable abbrev Op:List Str:=["self"]
noncomputable def Vd:FI:=⟨t.f_zae,t.d_zae,Op,1,ak5 K t,[],[]⟩
noncomputable abbrev J2:Stmt:=Am (top 37) 0
noncomputable abbrev X9:List Str:=["self"]
noncomputable abbrev Ox:List Str:=["self"]
noncomputable def Ve:FI:=⟨t.f_zal,t.d_zal,Ox,1,al0 K t,[],[]⟩
noncomputable abbrev J9:Stmt:=Am (top 38) 1
noncomputable abbrev Yh:List Str:=["self"]
noncomputable abbrev O5:List Str:=["self"]
noncomputable def ay5:FI:=⟨t.f_zat,t.d_zat,O5,1,al7 K t,[],[]⟩
noncomputable abbrev Kk:Stmt:=Am (top 38) 2
noncomputable abbrev Ys:List Str:=["self"]
noncomputable abbrev Pg:List Str:=["self"]
noncomputable def az4:FI:=⟨t.f_zbe,t.d_zbe,Pg,1,am3 K t,[],[]⟩
noncomputable abbrev Kl:Stmt:=Am (top 38) 3
noncomputable abbrev Yt:List Str:=["self"]
noncomputable abbrev Ph:List Str:=["self"]
noncomputable def az5:FI:=⟨t.f_zbf,t.d_zbf,Ph,1,am4 K t,[],[]⟩
noncomputable abbrev Sy:Stmt:=Am (top 39) 1
noncomputable abbrev a68:List Str:=["self"]
noncomputable abbrev Zk:List Str:=["self"]
noncomputable def Wz:FI:=⟨t.f_zh,t.d_zh,Zk,1,a36 K t,[],[]⟩
noncomputable abbrev Ki:Stmt:=Am (top 40) 0
noncomputable abbrev Yq:List Str:=["self"]
noncomputable abbrev Pe:List Str:=["self"]
noncomputable def az3:FI:=⟨t.f_zbc,t.d_zbc,Pe,1,am1 K t,[],[]⟩
noncomputable abbrev J5:Stmt:=Am (top 41) 1
noncomputable abbrev Yd:List Str:=["self"]
noncomputable abbrev O1:List Str:=["self"]
noncomputable def ay4:FI:=⟨t.f_zap,t.d_zap,O1,1,al3 K t,[],[]⟩
noncomputable abbrev Kb:Stmt:=Am (top 42) 1
noncomputable abbrev Yj:List Str:=["self"]
noncomputable abbrev O7:List Str:=["self"]
noncomputable def ay6:FI:=⟨t.f_zav,t.d_zav,O7,1,al9 K t,[],[]⟩
noncomputable abbrev Kc:Stmt:=Am (top 42) 2
noncomputable abbrev Yk:List Str:=["self"]
noncomputable abbrev O8:List Str:=["self"]
noncomputable def ay7:FI:=⟨t.f_zaw,t.d_zaw,O8,1,am0 K t,[],[]⟩
noncomputable abbrev Kn:Stmt:=top 50
noncomputable abbrev Yv:List Str:=["_law_script", "_law_k"]
noncomputable abbrev Pj:List Str:=["_law_script", "_law_k"]
noncomputable def az7:FI:=⟨t.f_zbh,t.d_zbh,Pj,1,Ua K t,[],[]⟩
noncomputable abbrev Ks:Stmt:=top 52
noncomputable abbrev Y0:List Str:=["_law_cell_here", "_law_k", "_law_some", "_law_signs", "_law_tail", "_law_size", "_law_at", "_law_base"]
noncomputable abbrev Po:List Str:=["_law_cell_here", "_law_k"]
noncomputable def a02:FI:=⟨t.f_zbm,t.d_zbm,Po,1,Ue K t,[],[]⟩
noncomputable abbrev J1:Stmt:=top 51
noncomputable abbrev X8:List Str:=["_law_cell_here", "_law_many", "_law_found", "_law_left", "_law_number", "_law_k"]
noncomputable abbrev Ow:List Str:=["_law_cell_here", "_law_many"]
noncomputable def ay3:FI:=⟨t.f_zak,t.d_zak,Ow,1,Tv K t,[],[]⟩
noncomputable abbrev Ko:Stmt:=top 53
noncomputable abbrev Yw:List Str:=["_law_pool", "_law_cell_here", "_law_xs", "_law_part", "_law_other", "_law_rank", "_law_kind"]
noncomputable abbrev Pk:List Str:=["_law_pool", "_law_cell_here"]
noncomputable def az8:FI:=⟨t.f_zbi,t.d_zbi,Pk,2,Ub K t,[],[]⟩
noncomputable abbrev J0:Stmt:=top 18
noncomputable abbrev X7:List Str:=["thing", "least", "greatest"]
noncomputable abbrev Ov:List Str:=["thing", "least", "greatest"]
noncomputable def ay2:FI:=⟨t.f_zaj,t.d_zaj,Ov,1,N2 K t,[],[]⟩
noncomputable abbrev Ke:Stmt:=top 19
noncomputable abbrev Ym:List Str:=["sign"]
noncomputable abbrev Pa:List Str:=["sign"]
noncomputable def ay9:FI:=⟨t.f_zay,t.d_zay,Pa,1,Ty K t,[],[]⟩
noncomputable abbrev Kd:Stmt:=top 20
noncomputable abbrev Yl:List Str:=["sign"]
noncomputable abbrev O9:List Str:=["sign"]
noncomputable def ay8:FI:=⟨t.f_zax,t.d_zax,O9,1,Tx K t,[],[]⟩
noncomputable abbrev Th:Stmt:=top 21
noncomputable abbrev a78:List Str:=["sign"]
noncomputable abbrev Zu:List Str:=["sign"]
noncomputable def b72:FI:=⟨t.f_zr,t.d_zr,Zu,2,am6 K t,[],[]⟩
noncomputable abbrev Kv:Stmt:=top 15
noncomputable abbrev Y4:List Str:=["thing"]
noncomputable abbrev Pt:List Str:=["thing"]
noncomputable def a05:FI:=⟨t.f_zbq,t.d_zbq,Pt,3,G6 K t,[],[]⟩
noncomputable abbrev Km:Stmt:=top 14
noncomputable abbrev Yu:List Str:=["thing"]
noncomputable abbrev Pi:List Str:=["thing"]
noncomputable def az6:FI:=⟨t.f_zbg,t.d_zbg,Pi,1,Tz K t,[],[]⟩
noncomputable abbrev Kw:Stmt:=top 17
noncomputable abbrev Y5:List Str:=["thing"]
noncomputable abbrev Pu:List Str:=["thing"]
noncomputable def a06:FI:=⟨t.f_zbr,t.d_zbr,Pu,2,N8 K t,[],[]⟩
noncomputable abbrev Ti:Stmt:=top 22
noncomputable abbrev a79:List Str:=["sign"]
noncomputable abbrev Zv:List Str:=["sign"]
noncomputable def b73:FI:=⟨t.f_zs,t.d_zs,Zv,1,am7 K t,[],[]⟩
noncomputable abbrev Kx:Stmt:=top 16
noncomputable abbrev Y6:List Str:=["thing"]
noncomputable abbrev Pw:List Str:=["thing"]
noncomputable def a07:FI:=⟨t.f_zbs,t.d_zbs,Pw,2,K6 K t,[],[]⟩
noncomputable abbrev J3:Stmt:=Am (top 26) 1
noncomputable abbrev Yb:List Str:=["self", "content"]
noncomputable abbrev Oz:List Str:=["self", "content"]
noncomputable def Lw:FI:=⟨t.f_zan,t.d_zan,Oz,3,al1 K t,[],[]⟩
noncomputable abbrev To:Stmt:=top 31
noncomputable abbrev a85:List Str:=["thing", "most"]
noncomputable abbrev Z3:List Str:=["thing", "most"]
noncomputable def b77:FI:=⟨t.f_zy,t.d_zy,Z3,1,V7 K t,[],[]⟩
noncomputable abbrev Kz:Stmt:=top 32
noncomputable abbrev Y8:List Str:=["thing"]
noncomputable abbrev Py:List Str:=["thing"]
noncomputable def a09:FI:=⟨t.f_zbu,t.d_zbu,Py,3,Uf K t,[],[]⟩
noncomputable abbrev Jy:Stmt:=Am (top 29) 1
noncomputable abbrev X5:List Str:=["self", "content"]
noncomputable abbrev Ot:List Str:=["self", "content"]
noncomputable def ay0:FI:=⟨t.f_zah,t.d_zah,Ot,4,ak8 K t,[],[]⟩
noncomputable abbrev Tg:Stmt:=Am (top 27) 0
noncomputable abbrev a77:List Str:=["self"]
noncomputable abbrev Zt:List Str:=["self"]
noncomputable def bb4:FI:=⟨t.f_zq,t.d_zq,Zt,1,a44 K t,[],[]⟩
noncomputable abbrev J6:Stmt:=Am (top 28) 0
noncomputable abbrev Ye:List Str:=["self"]
noncomputable abbrev O2:List Str:=["self"]
noncomputable def ad9:FI:=⟨t.f_zaq,t.d_zaq,O2,1,al4 K t,[],[]⟩
noncomputable abbrev Jz:Stmt:=Am (top 29) 0
noncomputable abbrev X6:List Str:=["self"]
noncomputable abbrev Ou:List Str:=["self"]
noncomputable def ay1:FI:=⟨t.f_zai,t.d_zai,Ou,1,ak9 K t,[],[]⟩
noncomputable abbrev Tj:Stmt:=top 30
noncomputable abbrev a80:List Str:=["word", "kind"]
noncomputable abbrev Zw:List Str:=["word"]
noncomputable def b74:FI:=⟨t.f_zt,t.d_zt,Zw,2,Q7 K t,[],[]⟩
noncomputable abbrev Ky:Stmt:=top 43
noncomputable abbrev Y7:List Str:=["truth"]
noncomputable abbrev Px:List Str:=["truth"]
noncomputable def a08:FI:=⟨t.f_zbt,t.d_zbt,Px,1,Er K t,[],[]⟩
noncomputable abbrev Kf:Stmt:=top 44
noncomputable abbrev Yn:List Str:=["thing"]
noncomputable abbrev Pb:List Str:=["thing"]
noncomputable def az0:FI:=⟨t.f_zaz,t.d_zaz,Pb,4,N3 K t,[],[]⟩
noncomputable abbrev Kj:Stmt:=Am (top 38) 0
noncomputable abbrev Yr:List Str:=["self", "name", "kind", "parent", "rank", "content"]
noncomputable abbrev Pf:List Str:=["self", "name", "kind", "parent", "rank", "content"]
noncomputable def Vh:FI:=⟨t.f_zbd,t.d_zbd,Pf,5,am2 K t,[],[]⟩
noncomputable abbrev Ta:Stmt:=Am (top 39) 0
noncomputable abbrev a72:List Str:=["self", "part"]
noncomputable abbrev Zo:List Str:=["self", "part"]
noncomputable def Rx:FI:=⟨t.f_zl,t.d_zl,Zo,4,V6 K t,[],[]⟩
noncomputable abbrev J4:Stmt:=Am (top 41) 0
noncomputable abbrev Yc:List Str:=["self", "part", "parent", "rank"]
noncomputable abbrev O0:List Str:=["self", "part", "parent", "rank"]
noncomputable def Vf:FI:=⟨t.f_zao,t.d_zao,O0,6,al2 K t,[],[]⟩
noncomputable abbrev Ka:Stmt:=Am (top 42) 0
noncomputable abbrev Yi:List Str:=["self", "part", "name", "text"]
noncomputable abbrev O6:List Str:=["self", "part", "name", "text"]
noncomputable def Vg:FI:=⟨t.f_zau,t.d_zau,O6,6,al8 K t,[],[]⟩
noncomputable abbrev Kr:Stmt:=top 54
noncomputable abbrev Yz:List Str:=["_law_told_here"]
noncomputable abbrev Pn:List Str:=["_law_told_here"]
noncomputable def a01:FI:=⟨t.f_zbl,t.d_zbl,Pn,8,Ud K t,[],[]⟩
noncomputable abbrev Kg:Stmt:=top 56
noncomputable abbrev Yo:List Str:=["_law_told_here"]
noncomputable abbrev Pc:List Str:=["_law_told_here"]
noncomputable def az1:FI:=⟨t.f_zba,t.d_zba,Pc,1,N4 K t,[],[]⟩
noncomputable abbrev Kh:Stmt:=top 57
noncomputable abbrev Yp:List Str:=["_law_told_here"]
noncomputable abbrev Pd:List Str:=["_law_told_here"]
noncomputable def az2:FI:=⟨t.f_zbb,t.d_zbb,Pd,1,K5 K t,[],[]⟩
noncomputable abbrev Kq:Stmt:=top 55
noncomputable abbrev Yy:List Str:=["_law_records", "_law_name_here", "_law_line_here"]
noncomputable abbrev Pm:List Str:=["_law_records", "_law_name_here"]
noncomputable def a00:FI:=⟨t.f_zbk,t.d_zbk,Pm,1,N5 K t,[],[]⟩
noncomputable abbrev Tp:Stmt:=top 58
noncomputable abbrev a86:List Str:=["_law_records", "_law_told_here", "_law_about_here", "_law_goal"]
noncomputable abbrev Z4:List Str:=["_law_records", "_law_told_here"]
noncomputable def b78:FI:=⟨t.f_zz,t.d_zz,Z4,2,am8 K t,[],[]⟩
noncomputable abbrev Kp:Stmt:=top 59
noncomputable abbrev Yx:List Str:=["_law_records", "_law_told_here", "_law_name_here", "_law_kind", "_law_parent", "_law_rank", "_law_content"]
noncomputable abbrev Pl:List Str:=["_law_records", "_law_told_here"]
noncomputable def az9:FI:=⟨t.f_zbj,t.d_zbj,Pl,2,Uc K t,[],[]⟩
noncomputable abbrev G5:Stmt:=Am (top 4) 0
noncomputable abbrev a66:List Str:=["self", "part", "choice"]
noncomputable abbrev Zi:List Str:=["self", "part", "choice"]
noncomputable def Dk:FI:=⟨t.f_zf,t.d_zf,Zi,1,a34 K t,[.non],t.du_zf⟩
noncomputable abbrev J7:Stmt:=Am (top 35) 1
noncomputable abbrev Yf:List Str:=["self", "name"]
noncomputable abbrev O3:List Str:=["self", "name"]
noncomputable def Qh:FI:=⟨t.f_zar,t.d_zar,O3,1,al5 K t,[],[]⟩
noncomputable abbrev Ku:Stmt:=top 45
noncomputable abbrev Y2:List Str:=["plain", "name", "choice"]
noncomputable abbrev Pq:List Str:=["plain", "name", "choice"]
noncomputable def a04:FI:=⟨t.f_zbo,t.d_zbo,Pq,3,N7 K t,[],[]⟩
noncomputable abbrev Jt:Stmt:=Am (top 26) 0
noncomputable abbrev X0:List Str:=["self"]
noncomputable abbrev On:List Str:=["self"]
noncomputable def Qe:FI:=⟨t.f_zac,t.d_zac,On,1,ak3 K t,[],[]⟩
noncomputable abbrev S0:Stmt:=Am (top 27) 1
noncomputable abbrev a70:List Str:=["self"]
noncomputable abbrev Zm:List Str:=["self"]
noncomputable def bb2:FI:=⟨t.f_zj,t.d_zj,Zm,1,a38 K t,[],[]⟩
noncomputable abbrev Tm:Stmt:=Am (top 35) 2
noncomputable abbrev a83:List Str:=["self", "name"]
noncomputable abbrev Zz:List Str:=["self", "name"]
noncomputable def Qk:FI:=⟨t.f_zw,t.d_zw,Zz,3,a47 K t,[],[]⟩
noncomputable abbrev Td:Stmt:=Am (top 35) 4
noncomputable abbrev a74:List Str:=["self", "name"]
noncomputable abbrev Zq:List Str:=["self", "name"]
noncomputable def ae0:FI:=⟨t.f_zn,t.d_zn,Zq,4,a41 K t,[],[]⟩
noncomputable abbrev Jr:Stmt:=top 46
noncomputable abbrev Xy:List Str:=["plain", "parent", "choice"]
noncomputable abbrev Ol:List Str:=["plain", "parent", "choice"]
noncomputable def ax7:FI:=⟨t.f_zaa,t.d_zaa,Ol,5,N1 K t,[],[]⟩
noncomputable abbrev Tf:Stmt:=Am (top 38) 4
noncomputable abbrev a76:List Str:=["self", "plain", "choice"]
noncomputable abbrev Zs:List Str:=["self", "plain", "choice"]
noncomputable def b71:FI:=⟨t.f_zp,t.d_zp,Zs,6,a43 K t,[],[]⟩
noncomputable abbrev S8:Stmt:=Am (top 40) 1
noncomputable abbrev a71:List Str:=["self", "plain", "choice"]
noncomputable abbrev Zn:List Str:=["self", "plain", "choice"]
noncomputable def b70:FI:=⟨t.f_zk,t.d_zk,Zn,1,a39 K t,[],[]⟩
noncomputable abbrev Sv:Stmt:=Am (top 35) 5
noncomputable abbrev a64:List Str:=["self", "name"]
noncomputable abbrev Zg:List Str:=["self", "name"]
noncomputable def Rw:FI:=⟨t.f_zd,t.d_zd,Zg,4,a32 K t,[],[]⟩
noncomputable abbrev K1:Stmt:=top 47
noncomputable abbrev Za:List Str:=["plain", "part", "way", "name"]
noncomputable abbrev P0:List Str:=["plain", "part"]
noncomputable def a11:FI:=⟨t.f_zbw,t.d_zbw,P0,5,Ug K t,[],[]⟩
noncomputable abbrev Sx:Stmt:=Am (top 41) 2
noncomputable abbrev a67:List Str:=["self", "plain", "choice"]
noncomputable abbrev Zj:List Str:=["self", "plain", "choice"]
noncomputable def b68:FI:=⟨t.f_zg,t.d_zg,Zj,6,a35 K t,[],[]⟩
noncomputable abbrev Sz:Stmt:=Am (top 42) 3
noncomputable abbrev a69:List Str:=["self", "plain", "choice"]
noncomputable abbrev Zl:List Str:=["self", "plain", "choice"]
noncomputable def b69:FI:=⟨t.f_zi,t.d_zi,Zl,4,a37 K t,[],[]⟩
noncomputable abbrev Dr:Stmt:=Am (top 37) 1
noncomputable abbrev Ya:List Str:=["self", "plain", "choice"]
noncomputable abbrev Oy:List Str:=["self", "plain", "choice"]
noncomputable def Qg:FI:=⟨t.f_zam,t.d_zam,Oy,7,Tw K t,[.non],t.du_zam⟩
noncomputable abbrev J8:Stmt:=Am (top 35) 17
noncomputable abbrev Yg:List Str:=["self", "name", "kind", "parent", "rank", "content"]
noncomputable abbrev O4:List Str:=["self", "name", "kind", "parent", "rank", "content"]
noncomputable def Qi:FI:=⟨t.f_zas,t.d_zas,O4,1,al6 K t,[],[]⟩
noncomputable abbrev Jx:Stmt:=Am (top 38) 5
noncomputable abbrev X4:List Str:=["self", "plain"]
noncomputable abbrev Os:List Str:=["self", "plain"]
noncomputable def ax9:FI:=⟨t.f_zag,t.d_zag,Os,2,ak7 K t,[],[]⟩
noncomputable abbrev Su:Stmt:=Am (top 35) 11
noncomputable abbrev a63:List Str:=["self", "name"]
noncomputable abbrev Zf:List Str:=["self", "name"]
noncomputable def bb1:FI:=⟨t.f_zc,t.d_zc,Zf,3,a31 K t,[],[]⟩
noncomputable abbrev Te:Stmt:=Am (top 35) 6
noncomputable abbrev a75:List Str:=["self", "name"]
noncomputable abbrev Zr:List Str:=["self", "name"]
noncomputable def aq4:FI:=⟨t.f_zo,t.d_zo,Zr,4,a42 K t,[],[]⟩
noncomputable abbrev Sw:Stmt:=Am (top 35) 10
noncomputable abbrev a65:List Str:=["self", "name"]
noncomputable abbrev Zh:List Str:=["self", "name"]
noncomputable def aq3:FI:=⟨t.f_ze,t.d_ze,Zh,5,a33 K t,[],[]⟩
noncomputable abbrev Sr:Stmt:=Am (top 35) 14
noncomputable abbrev a61:List Str:=["self", "unders", "name"]
noncomputable abbrev Zd:List Str:=["self"]
noncomputable def ba9:FI:=⟨t.f_za,t.d_za,Zd,8,a29 K t,[],[]⟩
noncomputable abbrev Jw:Stmt:=Am (top 35) 13
noncomputable abbrev X3:List Str:=["self", "name", "unders", "found", "waiting", "line"]
noncomputable abbrev Oq:List Str:=["self", "name"]
noncomputable def ad8:FI:=⟨t.f_zaf,t.d_zaf,Oq,9,ak6 K t,[],[]⟩
noncomputable abbrev Tc:Stmt:=Am (top 35) 12
noncomputable abbrev a73:List Str:=["self", "name"]
noncomputable abbrev Zp:List Str:=["self", "name"]
noncomputable def bb3:FI:=⟨t.f_zm,t.d_zm,Zp,10,a40 K t,[],[]⟩
noncomputable abbrev Ju:Stmt:=Am (top 35) 18
noncomputable abbrev X1:List Str:=["self", "name", "below"]
noncomputable abbrev Oo:List Str:=["self", "name"]
noncomputable def ad7:FI:=⟨t.f_zad,t.d_zad,Oo,11,ak4 K t,[],[]⟩
noncomputable abbrev Js:Stmt:=Am (top 40) 2
noncomputable abbrev Xz:List Str:=["self", "plain"]
noncomputable abbrev Om:List Str:=["self", "plain"]
noncomputable def ax8:FI:=⟨t.f_zab,t.d_zab,Om,12,ak2 K t,[],[]⟩
noncomputable abbrev Ss:Stmt:=Am (top 35) 7
noncomputable abbrev a62:List Str:=["self", "name"]
noncomputable abbrev Ze:List Str:=["self", "name"]
noncomputable def bb0:FI:=⟨t.f_zb,t.d_zb,Ze,4,a30 K t,[],[]⟩
noncomputable abbrev K2:Stmt:=top 48
noncomputable abbrev Zb:List Str:=["plain", "part", "parent", "rank"]
noncomputable abbrev P1:List Str:=["plain", "part", "parent", "rank"]
noncomputable def a12:FI:=⟨t.f_zbx,t.d_zbx,P1,5,Oa K t,[],[]⟩
noncomputable abbrev Tk:Stmt:=Am (top 41) 3
noncomputable abbrev a81:List Str:=["self", "plain"]
noncomputable abbrev Zx:List Str:=["self", "plain"]
noncomputable def b75:FI:=⟨t.f_zu,t.d_zu,Zx,6,a45 K t,[],[]⟩
noncomputable abbrev Tn:Stmt:=Am (top 42) 4
noncomputable abbrev a84:List Str:=["self", "plain"]
noncomputable abbrev Z0:List Str:=["self", "plain"]
noncomputable def b76:FI:=⟨t.f_zx,t.d_zx,Z0,6,a48 K t,[],[]⟩
noncomputable abbrev Ds:Stmt:=Am (top 37) 2
noncomputable abbrev Y3:List Str:=["self", "plain", "choice"]
noncomputable abbrev Ps:List Str:=["self", "plain", "choice"]
noncomputable def Qj:FI:=⟨t.f_zbp,t.d_zbp,Ps,13,am5 K t,[.non],t.du_zbp⟩
noncomputable abbrev Kt:Stmt:=top 60
noncomputable abbrev Y1:List Str:=["_law_edit", "_law_plain", "_law_asked", "_law_told_here", "e", "_law_kinds"]
noncomputable abbrev Pp:List Str:=["_law_edit", "_law_plain", "_law_asked"]
noncomputable def a03:FI:=⟨t.f_zbn,t.d_zbn,Pp,14,N6 K t,[],[]⟩
noncomputable abbrev Tl:Stmt:=Am (top 35) 8
noncomputable abbrev a82:List Str:=["self"]
noncomputable abbrev Zy:List Str:=["self"]
noncomputable def bb5:FI:=⟨t.f_zv,t.d_zv,Zy,1,a46 K t,[],[]⟩
noncomputable abbrev K0:Stmt:=top 61
noncomputable abbrev Y9:List Str:=["_law_plain", "_law_records", "_law_name_here", "_law_above", "_law_steps"]
noncomputable abbrev Pz:List Str:=["_law_plain", "_law_records"]
noncomputable def a10:FI:=⟨t.f_zbv,t.d_zbv,Pz,5,N9 K t,[],[]⟩
noncomputable abbrev Du:Stmt:=top 62
noncomputable abbrev Zc:List Str:=["_law_script", "_law_pool", "_law_plain", "_law_records", "_law_cell_here", "_law_told_here", "_law_edit", "_law_due"]
noncomputable abbrev P2:List Str:=["_law_script"]
noncomputable def Cp:List MI:=[⟨t.c_zct,ay5 K t⟩,⟨t.c_zcs,Wz K t⟩,⟨t.c_zco,Wz K t⟩,⟨t.c_zcr,Wz K t⟩]
noncomputable def Dg:List MI:=[⟨t.c_zcl,ba9 K t⟩]
noncomputable def Fd:List MI:=[⟨t.c_zcl,bb3 K t⟩]
noncomputable def Do:List MI:=[⟨t.c_zct,ax9 K t⟩,⟨t.c_zcs,ax8 K t⟩,⟨t.c_zco,b75 K t⟩,⟨t.c_zcr,b76 K t⟩]
noncomputable def Dh:List MI:=[⟨t.c_zcl,bb0 K t⟩]
noncomputable def Nf:List MI:=[⟨t.c_zcl,ad7 K t⟩]
noncomputable def F9:List MI:=[⟨t.c_zci,Lw K t⟩,⟨t.c_zcp,Lw K t⟩,⟨t.c_zcm,ay0 K t⟩]
noncomputable def Jf:List MI:=[⟨t.c_zcl,Qh K t⟩]
noncomputable def Em:List MI:=[⟨t.c_zci,bb2 K t⟩,⟨t.c_zcp,Qe K t⟩,⟨t.c_zcm,Qe K t⟩]
noncomputable def C7:List MI:=[⟨t.c_zcl,ae0 K t⟩]
noncomputable def Jg:List MI:=[⟨t.c_zcl,Qi K t⟩]
noncomputable def Ga:List MI:=[⟨t.c_zct,az4 K t⟩,⟨t.c_zcs,Ve K t⟩,⟨t.c_zco,Ve K t⟩,⟨t.c_zcr,ay6 K t⟩]
noncomputable def Jh:List MI:=[⟨t.c_zcl,bb5 K t⟩]
noncomputable def Gb:List MI:=[⟨t.c_zct,Qg K t⟩,⟨t.c_zcs,Qg K t⟩,⟨t.c_zco,Qg K t⟩,⟨t.c_zcr,Qg K t⟩]
noncomputable def Di:List MI:=[⟨t.c_zcl,bb1 K t⟩]
noncomputable def Ce:List MI:=[⟨t.c_zct,b71 K t⟩,⟨t.c_zcs,b70 K t⟩,⟨t.c_zco,b68 K t⟩,⟨t.c_zcr,b69 K t⟩]
noncomputable def Vl:List MI:=[⟨t.c_zct,Qj K t⟩,⟨t.c_zcs,Qj K t⟩,⟨t.c_zco,Qj K t⟩,⟨t.c_zcr,Qj K t⟩]
noncomputable def Bk:List MI:=[⟨t.c_zcl,Rw K t⟩]
noncomputable def D0:List MI:=[⟨t.c_zcl,aq4 K t⟩]
noncomputable def Cq:List MI:=[⟨t.c_zcl,Qk K t⟩]
noncomputable def Gc:List MI:=[⟨t.c_zct,az5 K t⟩,⟨t.c_zcs,az3 K t⟩,⟨t.c_zco,ay4 K t⟩,⟨t.c_zcr,ay7 K t⟩]
noncomputable def Ng:List MI:=[⟨t.c_zcl,ad8 K t⟩]
noncomputable def Ht:List MI:=[⟨t.c_zci,bb4 K t⟩,⟨t.c_zcp,ad9 K t⟩,⟨t.c_zcm,ay1 K t⟩]
noncomputable def Br:List MI:=[⟨t.c_zcl,aq3 K t⟩]
noncomputable def Ax (K:aa) (t:Adr):List (Str×GB):=[("LeafError", .exc t.c_zce none),("BadEdit", .exc t.c_zch none),("EditError", .val (.ref t.c_zcd) (.ref t.c_zcd)),("NoPart", .val (.ref t.c_zck) (.ref t.c_zck)),("Doubled", .val (.ref t.c_zcj) (.ref t.c_zcj)),("Lost", .val (.ref t.c_zcn) (.ref t.c_zcn)),("Ring", .val (.ref t.c_zcq) (.ref t.c_zcq)),("NoHolder", .val (.ref t.c_zcg) (.ref t.c_zcg)),("Chapter", .cls t.c_zci none),("Para", .cls t.c_zcp none),("Table", .cls t.c_zcm none),("Plain", .val (.ref t.c_zcl) (.ref t.c_zcl)),("Put", .val (.ref t.c_zct) (.ref t.c_zct)),("Cut", .val (.ref t.c_zcs) (.ref t.c_zcs)),("Move", .val (.ref t.c_zco) (.ref t.c_zco)),("Wrap", .val (.ref t.c_zcr) (.ref t.c_zcr)),("Edit", .val (.ref t.c_Edit) (.ref t.c_Edit)),("GREATEST_RANK", .val (.int 1000000000) t.u_zbz),("LONGEST_TEXT", .val (.int 60) t.u_zca),("PERCENT_SIGN", .val (.int 37) t.u_zcb),("MOST_ROWS", .val (.int 6) t.u_zcf),("MOST_CELLS", .val (.int 6) t.u_zcc),("TOP", .val (.str "") t.u_zcu)]
noncomputable def D5:List (Str×GB):=("", .met "about" (Cp K t))::("", .met "has" (Jf K t))::("", .met "holds" (Em K t))::("", .met "lay" (Jg K t))::("", .met "made" (Ga K t))::("", .met "names" (Jh K t))::("", .met "told" (Gc K t))::("", .met "word" (Ht K t))::("_law_cell", .fn (az7 K t))::("_law_name", .fn (a02 K t))::("_law_stream", .fn (ay3 K t))::("has_length", .fn (ay2 K t))::("is_letter", .fn (ay9 K t))::("is_figure", .fn (ay8 K t))::("is_whole", .fn (az6 K t))::("is_text_sign", .fn (b73 K t))::("is_tuple_of", .fn (b77 K t))::("insist", .fn (a08 K t))::("_law_about", .fn (az1 K t))::("_law_makes", .fn (az2 K t))::("_law_line", .fn (a00 K t))::Ax K t
noncomputable def Fu:List (Str×GB):=("_law_deed", .fn (az8 K t))::("is_name_sign", .fn (b72 K t))::("is_rank", .fn (a06 K t))::("is_text", .fn (a07 K t))::("kind_of_word", .fn (b74 K t))::("_law_refusal", .fn (b78 K t))::("_law_done", .fn (az9 K t))::("EditError", .exc t.c_zcd (some (Dk K t)))::("NoPart", .exc t.c_zck (some (Dk K t)))::("Doubled", .exc t.c_zcj (some (Dk K t)))::("Lost", .exc t.c_zcn (some (Dk K t)))::("Ring", .exc t.c_zcq (some (Dk K t)))::("NoHolder", .exc t.c_zcg (some (Dk K t)))::("Plain", .cls t.c_zcl (some (Vd K t)))::D5 K t
noncomputable def D6:List (Str×GB):=("", .met "need_place" (Di K t))::("", .met "state" (Cq K t))::("is_name", .fn (a05 K t))::("is_row", .fn (a09 K t))::("need_new", .fn (a04 K t))::Fu K t
noncomputable def Fv:List (Str×GB):=("", .met "content_of" (Dh K t))::("", .met "fits" (F9 K t))::("", .met "kind_of" (C7 K t))::("", .met "parent_of" (Bk K t))::("", .met "rank_of" (D0 K t))::("is_parent", .fn (az0 K t))::("PartEdit", .ini t.c_PartEdit (Rx K t))::D6 K t
noncomputable def Fw:List (Str×GB):=("", .met "place_key" (Br K t))::("need_holder", .fn (ax7 K t))::("way_up", .fn (a11 K t))::("place", .fn (a12 K t))::("_law_so", .fn (a10 K t))::("Cut", .cls t.c_zcs (some (Rx K t)))::Fv K t
noncomputable def ap7:List (Str×GB):=("", .met "need_rest" (Ce K t))::("Put", .cls t.c_zct (some (Vh K t)))::Fw K t
noncomputable def Ws:List (Str×GB):=("", .key "place_key" (Br K t))::("", .met "need" (Gb K t))::("Move", .cls t.c_zco (some (Vf K t)))::("Wrap", .cls t.c_zcr (some (Vg K t)))::ap7 K t
noncomputable def ap8:List (Str×GB):=("", .met "all_unders" (Dg K t))::("_law_made", .fn (a01 K t))::Ws K t
noncomputable def ap9:List (Str×GB):=("", .met "walk" (Ng K t))::ap8 K t
noncomputable def U7:List (Str×GB):=("", .met "beneath" (Fd K t))::ap9 K t
noncomputable def U8:List (Str×GB):=("", .met "drop" (Nf K t))::U7 K t
noncomputable def U9:List (Str×GB):=("", .met "change" (Do K t))::U8 K t
noncomputable def Va:List (Str×GB):=("", .met "on" (Vl K t))::U9 K t
noncomputable def ad1:List (Str×GB):=("_law_told", .fn (a03 K t))::Va K t
end
noncomputable def cj8 (K:aa) (t:Adr):DS:=
 (Af (E9 K "records" (Ac 0) P6)
 Ae)
theorem bo1 (K:aa) (t:Adr):wSs 40 (Au K X2 (Aa Jv) (Ax K t) bl) (Ag Jv)=cj8 K t:=by kernel_rfl
theorem bt4:Aj X2 Op (Aa Jv):=⟨rfl,rfl,rfl,by decide +kernel,rfl,by decide +kernel,by decide +kernel⟩
theorem bz9:Al X2 (Aa Jv)=true:=by decide +kernel
noncomputable def ck5 (K:aa) (t:Adr):DS:=
 (Af (Ar (dC .non))
 Ae)
theorem bo8 (K:aa) (t:Adr):wSs 40 (Au K X9 (Aa J2) (Ax K t) bl) (Ag J2)=ck5 K t:=by kernel_rfl
theorem bu1:Aj X9 Ox (Aa J2):=⟨rfl,rfl,rfl,by decide +kernel,rfl,by decide +kernel,by decide +kernel⟩
theorem b06:Al X9 (Aa J2)=true:=by decide +kernel
noncomputable def cl3 (K:aa) (t:Adr):DS:=
 (Af (Ar (dUn (Aq K "parent") (Ac 0)))
 Ae)
theorem bp6 (K:aa) (t:Adr):wSs 40 (Au K Yh (Aa J9) (Ax K t) bl) (Ag J9)=cl3 K t:=by kernel_rfl
theorem bu9:Aj Yh O5 (Aa J9):=⟨rfl,rfl,rfl,by decide +kernel,rfl,by decide +kernel,by decide +kernel⟩
theorem b14:Al Yh (Aa J9)=true:=by decide +kernel
noncomputable def cm2 (K:aa) (t:Adr):DS:=
 (Af (Ar (dUn (Aq K "name") (Ac 0)))
 Ae)
theorem bq7 (K:aa) (t:Adr):wSs 40 (Au K Ys (Aa Kk) (Ax K t) bl) (Ag Kk)=cm2 K t:=by kernel_rfl
theorem bw0:Aj Ys Pg (Aa Kk):=⟨rfl,rfl,rfl,by decide +kernel,rfl,by decide +kernel,by decide +kernel⟩
theorem b25:Al Ys (Aa Kk)=true:=by decide +kernel
noncomputable def cm3 (K:aa) (t:Adr):DS:=
 (Af (Ar (Cl (Ab (dC (.str "put")) (Ab (dUn (Aq K "name") (Ac 0)) (Ab (dUn (Aq K "kind") (Ac 0)) (Ab (dUn (Aq K "parent") (Ac 0)) (Ab (dUn (Aq K "rank") (Ac 0)) (Ab (dUn (Aq K "content") (Ac 0)) Ai))))))))
 Ae)
theorem bq8 (K:aa) (t:Adr):wSs 40 (Au K Yt (Aa Kl) (Ax K t) bl) (Ag Kl)=cm3 K t:=by kernel_rfl
theorem bw1:Aj Yt Ph (Aa Kl):=⟨rfl,rfl,rfl,by decide +kernel,rfl,by decide +kernel,by decide +kernel⟩
theorem b26:Al Yt (Aa Kl)=true:=by decide +kernel
noncomputable def cv8 (K:aa) (t:Adr):DS:=
 (Af (Ar (dUn (Aq K "part") (Ac 0)))
 Ae)
theorem ce1 (K:aa) (t:Adr):wSs 40 (Au K a68 (Aa Sy) (Ax K t) bl) (Ag Sy)=cv8 K t:=by kernel_rfl
theorem cg7:Aj a68 Zk (Aa Sy):=⟨rfl,rfl,rfl,by decide +kernel,rfl,by decide +kernel,by decide +kernel⟩
theorem cp5:Al a68 (Aa Sy)=true:=by decide +kernel
noncomputable def cm0 (K:aa) (t:Adr):DS:=
 (Af (Ar (Cl (Ab (dC (.str "cut")) (Ab (dUn (Aq K "part") (Ac 0)) Ai))))
 Ae)
theorem bq5 (K:aa) (t:Adr):wSs 40 (Au K Yq (Aa Ki) (Ax K t) bl) (Ag Ki)=cm0 K t:=by kernel_rfl
theorem bv8:Aj Yq Pe (Aa Ki):=⟨rfl,rfl,rfl,by decide +kernel,rfl,by decide +kernel,by decide +kernel⟩
theorem b23:Al Yq (Aa Ki)=true:=by decide +kernel
noncomputable def ck9 (K:aa) (t:Adr):DS:=
 (Af (Ar (Cl (Ab (dC (.str "move")) (Ab (dUn (Aq K "part") (Ac 0)) (Ab (dUn (Aq K "parent") (Ac 0)) (Ab (dUn (Aq K "rank") (Ac 0)) Ai))))))
 Ae)
theorem bp2 (K:aa) (t:Adr):wSs 40 (Au K Yd (Aa J5) (Ax K t) bl) (Ag J5)=ck9 K t:=by kernel_rfl
theorem bu5:Aj Yd O1 (Aa J5):=⟨rfl,rfl,rfl,by decide +kernel,rfl,by decide +kernel,by decide +kernel⟩
theorem b10:Al Yd (Aa J5)=true:=by decide +kernel
noncomputable def cl5 (K:aa) (t:Adr):DS:=
 (Af (Ar (dUn (Aq K "name") (Ac 0)))
 Ae)
theorem bp8 (K:aa) (t:Adr):wSs 40 (Au K Yj (Aa Kb) (Ax K t) bl) (Ag Kb)=cl5 K t:=by kernel_rfl
theorem bv1:Aj Yj O7 (Aa Kb):=⟨rfl,rfl,rfl,by decide +kernel,rfl,by decide +kernel,by decide +kernel⟩
theorem b16:Al Yj (Aa Kb)=true:=by decide +kernel
noncomputable def cl6 (K:aa) (t:Adr):DS:=
 (Af (Ar (Cl (Ab (dC (.str "wrap")) (Ab (dUn (Aq K "part") (Ac 0)) (Ab (dUn (Aq K "name") (Ac 0)) (Ab (dUn (Aq K "text") (Ac 0)) Ai))))))
 Ae)
theorem bp9 (K:aa) (t:Adr):wSs 40 (Au K Yk (Aa Kc) (Ax K t) bl) (Ag Kc)=cl6 K t:=by kernel_rfl
theorem bv2:Aj Yk O8 (Aa Kc):=⟨rfl,rfl,rfl,by decide +kernel,rfl,by decide +kernel,by decide +kernel⟩
theorem b17:Al Yk (Aa Kc)=true:=by decide +kernel
noncomputable def cm5 (K:aa) (t:Adr):DS:=
 (Af (dIf (A0 (Ah au7 (Ac 1) (dFn (fun vs H Q _=>(Q3 K) vs H Q) (Ab (Ac 0) Ai)))) (Af (Ar (Ah (Ap K) (Ac 0) (Ac 1)))
  Ae) Ae)
 (Af (Ar (Ah (He K) (Ah (Bw K) (Ac 1) (dC (.int 3))) (dC (.int 7919))))
 Ae))
theorem br0 (K:aa) (t:Adr):wSs 40 (Au K Yv (Aa Kn) (Ax K t) bl) (Ag Kn)=cm5 K t:=by kernel_rfl
theorem bw3:Aj Yv Pj (Aa Kn):=⟨rfl,rfl,rfl,by decide +kernel,rfl,by decide +kernel,by decide +kernel⟩
theorem b28:Al Yv (Aa Kn)=true:=by decide +kernel
noncomputable def cn0 (K:aa) (t:Adr):DS:=
 (Af (A6 2 (Dj (Ab (dC (.str "chapter")) (Ab (dC (.str "put")) (Ab (dC (.str "para")) (Ab (dC (.str "table")) (Ab (dC (.str "top")) (Ab (dC (.str "cut")) (Ab (dC (.str "wrap")) (Ab (dC (.str "move")) (Ab (dC (.str "write")) (Ab (dC (.str "none")) (Ab (dC (.str "cell")) (Ab (dC (.str "0")) Ai))))))))))))))
 (Af (dIf (A0 (Ah (A5 K false) (Ah Bf (Ac 0) (dC (.int 5))) (dC (.int 4)))) (Af (Ar (Ah (Ap K) (Ac 2) (Ah Bf (Ah (Bw K) (Ac 1) (Ah B8 (Ac 0) (dC (.int 5)))) (dC (.int 12)))))
  Ae) Ae)
 (Af (A6 3 (dC (.str "abcdefghijklmnopqrstuvwxyz0123456789.")))
 (Af (A6 4 (dMt (rMt K [⟨"str", "str.join", aj2 K⟩]) (dC (.str "")) (Ab (C3 [none,some 0,some 3] (ad6 (Ab (dC (.int 1)) (Ab (dC (.int 12)) Ai))) (gdN 0) Eb (Ah (Ap K) (Ac 2) (Ah Bf (Ah (Bw K) (Ah B8 (Ac 1) (dC (.int 37))) (Ah (He K) (Ah (He K) (dC (.int 7)) (Ac 0)) (Ac 0))) (dC (.int 37))))) Ai)))
 (Af (dIf (A0 (Ah (A5 K false) (Ah Bf (Ac 0) (dC (.int 5))) (dC (.int 3)))) (Af (Ar (Ah (Bw K) (Ah (Ap K) (Ac 3) (Ah Bf (Ah (Bw K) (Ah B8 (Ac 0) (dC (.int 5))) (Ah B8 (Ac 1) (dC (.int 12)))) (dC (.int 37)))) (dSl K (Ac 4) Fa (Fn (Ah Bf (Ac 1) (dC (.int 12)))))))
  Ae) Ae)
 (Af (A6 5 (Ah (Bw K) (dC (.int 1)) (Ah Bf (Ah B8 (Ac 0) (dC (.int 5))) (dC (.int 12)))))
 (Af (A6 6 (Ah Bf (Ah B8 (Ac 0) (dC (.int 60))) (Ac 5)))
 (Af (A6 7 (dSl K (Ah (Bw K) (Ah (Ap K) (Ac 3) (Ah Bf (Ah B8 (Ac 0) (dC (.int 720))) (dC (.int 37)))) (Ac 4)) Fa (Fn (Ac 5))))
 (Af (Ar (Ah (Bw K) (Ah (Bw K) (dSl K (Ac 7) Fa (Fn (Ac 6))) (Ah (Ap K) (Ac 3) (Ah Bf (Ah (Bw K) (Ah B8 (Ac 0) (dC (.int 26640))) (Ac 1)) (dC (.int 37))))) (dSl K (Ac 7) (Fn (Ah (Bw K) (Ac 6) (dC (.int 1)))) Fa)))
 Ae)))))))))
theorem br5 (K:aa) (t:Adr):wSs 40 (Au K Y0 (Aa Ks) (Ax K t) bl) (Ag Ks)=cn0 K t:=by kernel_rfl
theorem bw8:Aj Y0 Po (Aa Ks):=⟨rfl,rfl,rfl,by decide +kernel,rfl,by decide +kernel,by decide +kernel⟩
theorem b33:Al Y0 (Aa Ks)=true:=by decide +kernel
noncomputable def ck4 (K:aa) (t:Adr):DS:=
 (Af (A6 2 (Dj Ai))
 (Af (A6 3 (Ah B8 (Ac 0) (dC (.int 2))))
 (Af (A6 4 (Ah (Bw K) (Ah Bf (Ac 0) (dC (.int 2147483629))) (dC (.int 17))))
 (Af (M0 (ad6 (Ab (Ac 1) Ai)) (gdN 5) (Af (A6 4 (Ah Bf (Ah (Bw K) (Ah (Bw K) (Ah (He K) (Ac 4) (dC (.int 48271))) (Ah (He K) (dC (.int 7919)) (Ac 5))) (dC (.int 1))) (dC (.int 2147483647))))
  (Af (dIf (E8 (A0 (Ah (A5 K false) (Ah Bf (Ac 0) (dC (.int 2))) (dC (.int 1)))) (E8 (A0 (Ah (A5 K true) (Ac 3) (dC (.int 0)))) (A0 (Ah (A5 K true) (Ac 3) (dUn Mh (dC (.int 1))))))) (Af (A3 (dMt (rMt K [⟨"list", "list.append", Cg⟩]) (Ac 2) (Ab (Ah Bf (Ac 3) (dC (.int 268435456))) Ai)))
   (Af (A6 3 (Ah B8 (Ac 3) (dC (.int 268435456))))
   Ae)) (Af (A3 (dMt (rMt K [⟨"list", "list.append", Cg⟩]) (Ac 2) (Ab (Ah B8 (Ah Bf (Ah (Bw K) (Ah (He K) (Ah Bf (Ah (He K) (Ac 4) (Ac 4)) (dC (.int 2147483629))) (dC (.int 16807))) (Ac 5)) (dC (.int 2147483587))) (dC (.int 8))) Ai)))
   Ae))
  Ae)))
 (Af (Ar (Ac 2))
 Ae)))))
theorem bo7 (K:aa) (t:Adr):wSs 40 (Au K X8 (Aa J1) (Ax K t) bl) (Ag J1)=ck4 K t:=by kernel_rfl
theorem bu0:Aj X8 Ow (Aa J1):=⟨rfl,rfl,rfl,by decide +kernel,rfl,by decide +kernel,by decide +kernel⟩
theorem b05:Al X8 (Aa J1)=true:=by decide +kernel
noncomputable def cm6 (K:aa) (t:Adr):DS:=
 (Af (A6 2 (dFn (spE (Tv K t) []) (Ab (Ac 1) (Ab (dC (.int 6)) Ai))))
 (Af (A6 3 (Ah (Ap K) (Ac 0) (Ah Bf (Ah (Ap K) (Ac 2) (dC (.int 1))) (dC (.int 8)))))
 (Af (A6 4 (Ah (Ap K) (Ah (Bw K) (Ac 0) (Dj (Ab (dC (.str "")) (Ab (dC (.str "")) Ai)))) (Ah Bf (Ah (Ap K) (Ac 2) (dC (.int 2))) (dC (.int 10)))))
 (Af (A6 5 (Ah (Ap K) (Dj (Ab (dC (.int 0)) (Ab (Ah Bf (Ah B8 (Ah (Ap K) (Ac 2) (dC (.int 3))) (dC (.int 4))) (dC (.int 3))) (Ab (Ah Bf (Ah B8 (Ah (Ap K) (Ac 2) (dC (.int 3))) (dC (.int 4))) (dC (.int 3))) (Ab (Ah Bf (Ah B8 (Ah (Ap K) (Ac 2) (dC (.int 3))) (dC (.int 4))) (Ah (Bw K) (Ah a25 (dC (.int 10)) (dC (.int 9))) (dC (.int 1)))) Ai))))) (Ah Bf (Ah (Ap K) (Ac 2) (dC (.int 3))) (dC (.int 4)))))
 (Af (dIf (A0 (Ah au7 (Ah Bf (Ah (Ap K) (Ac 2) (dC (.int 0))) (dC (.int 8))) (dC (.int 4)))) (Af (A6 6 (Ah (Ap K) (Dj (Ab (dC (.str "chapter")) (Ab (dC (.str "chapter")) (Ab (dC (.str "chapter")) (Ab (dC (.str "para")) Ai))))) (Ah Bf (Ah (Ap K) (Ac 2) (dC (.int 4))) (dC (.int 4)))))
  (Af (Ar (Cl (Ab (dC (.str "put")) (Ab (Ac 3) (Ab (Ac 6) (Ab (Ac 4) (Ab (Ac 5) (Ab (dC (.str "text")) Ai))))))))
  Ae)) Ae)
 (Af (dIf (A0 (Ah (A5 K false) (Ah Bf (Ah (Ap K) (Ac 2) (dC (.int 0))) (dC (.int 8))) (dC (.int 4)))) (Af (Ar (Cl (Ab (dC (.str "cut")) (Ab (Ac 3) Ai))))
  Ae) Ae)
 (Af (dIf (A0 (Ah (A5 K false) (Ah Bf (Ah (Ap K) (Ac 2) (dC (.int 0))) (dC (.int 8))) (dC (.int 5)))) (Af (Ar (Cl (Ab (dC (.str "wrap")) (Ab (Ac 3) (Ab (Ah (Ap K) (Ac 0) (Ah Bf (Ah (Ap K) (Ac 2) (dC (.int 5))) (dC (.int 8)))) (Ab (dC (.str "title")) Ai))))))
  Ae) Ae)
 (Af (Ar (Cl (Ab (dC (.str "move")) (Ab (Ac 3) (Ab (Ac 4) (Ab (Ac 5) Ai))))))
 Ae))))))))
theorem br1 (K:aa) (t:Adr):wSs 40 (Au K Yw (Aa Ko) (D5 K t) bl) (Ag Ko)=cm6 K t:=by kernel_rfl
theorem bw4:Aj Yw Pk (Aa Ko):=⟨rfl,rfl,rfl,by decide +kernel,rfl,by decide +kernel,by decide +kernel⟩
theorem b29:Al Yw (Aa Ko)=true:=by decide +kernel
noncomputable def ck3 (K:aa) (t:Adr):DS:=
 (Af (Ar (Cu K (dFn (fun vs H Q _=>(Dq K) vs H Q) (Ab (Ac 0) (Ab (dC (.ty "str")) Ai))) (C2 Fe Fe (Ac 1) (dFn (fun vs H Q _=>(Q3 K) vs H Q) (Ab (Ac 0) Ai)) (Ac 2))))
 Ae)
theorem bo6 (K:aa) (t:Adr):wSs 40 (Au K X7 (Aa J0) (Ax K t) bl) (Ag J0)=ck3 K t:=by kernel_rfl
theorem bt9:Aj X7 Ov (Aa J0):=⟨rfl,rfl,rfl,by decide +kernel,rfl,by decide +kernel,by decide +kernel⟩
theorem b04:Al X7 (Aa J0)=true:=by decide +kernel
noncomputable def a52 (K:aa) (t:Adr):DS:=
 (Af (Ar (C2 Fe Fe (dC (.str "a")) (Ac 0) (dC (.str "z"))))
 Ae)
theorem bq1 (K:aa) (t:Adr):wSs 40 (Au K Ym (Aa Ke) (Ax K t) bl) (Ag Ke)=a52 K t:=by kernel_rfl
theorem bv4:Aj Ym Pa (Aa Ke):=⟨rfl,rfl,rfl,by decide +kernel,rfl,by decide +kernel,by decide +kernel⟩
theorem b19:Al Ym (Aa Ke)=true:=by decide +kernel
noncomputable def a51 (K:aa) (t:Adr):DS:=
 (Af (Ar (C2 Fe Fe (dC (.str "0")) (Ac 0) (dC (.str "9"))))
 Ae)
theorem bq0 (K:aa) (t:Adr):wSs 40 (Au K Yl (Aa Kd) (Ax K t) bl) (Ag Kd)=a51 K t:=by kernel_rfl
theorem bv3:Aj Yl O9 (Aa Kd):=⟨rfl,rfl,rfl,by decide +kernel,rfl,by decide +kernel,by decide +kernel⟩
theorem b18:Al Yl (Aa Kd)=true:=by decide +kernel
noncomputable def cw8 (K:aa) (t:Adr):DS:=
 (Af (Ar (ab2 K (dFn (spE (Ty K t) []) (Ab (Ac 0) Ai)) (ab2 K (dFn (spE (Tx K t) []) (Ab (Ac 0) Ai)) (Ah (A5 K false) (Ac 0) (dC (.str "."))))))
 Ae)
theorem cf1 (K:aa) (t:Adr):wSs 40 (Au K a78 (Aa Th) (D5 K t) bl) (Ag Th)=cw8 K t:=by kernel_rfl
theorem ch8:Aj a78 Zu (Aa Th):=⟨rfl,rfl,rfl,by decide +kernel,rfl,by decide +kernel,by decide +kernel⟩
theorem cq5:Al a78 (Aa Th)=true:=by decide +kernel
noncomputable def cn4 (K:aa) (t:Adr):DS:=
 (Af (Ar (Cu K (dFn (spE (N2 K t) []) (Ab (Ac 0) (Ab (dC (.int 1)) (Ab (dC (.int 12)) Ai)))) (dFn (fun vs H Q _=>(Nt K) vs H Q) (Ab (C3 [none] (D7 K (Ac 0)) (gdN 0) Eb (dFn (spE (am6 K t) []) (Ab (Ac 0) Ai))) Ai))))
 Ae)
theorem br9 (K:aa) (t:Adr):wSs 40 (Au K Y4 (Aa Kv) (Fu K t) bl) (Ag Kv)=cn4 K t:=by kernel_rfl
theorem bx2:Aj Y4 Pt (Aa Kv):=⟨rfl,rfl,rfl,by decide +kernel,rfl,by decide +kernel,by decide +kernel⟩
theorem b37:Al Y4 (Aa Kv)=true:=by decide +kernel
noncomputable def cm4 (K:aa) (t:Adr):DS:=
 (Af (Ar (Cu K (dFn (fun vs H Q _=>(Dq K) vs H Q) (Ab (Ac 0) (Ab (dC (.ty "int")) Ai))) (ab1 K (dFn (fun vs H Q _=>(Dq K) vs H Q) (Ab (Ac 0) (Ab (dC (.ty "bool")) Ai))))))
 Ae)
theorem bq9 (K:aa) (t:Adr):wSs 40 (Au K Yu (Aa Km) (Ax K t) bl) (Ag Km)=cm4 K t:=by kernel_rfl
theorem bw2:Aj Yu Pi (Aa Km):=⟨rfl,rfl,rfl,by decide +kernel,rfl,by decide +kernel,by decide +kernel⟩
theorem b27:Al Yu (Aa Km)=true:=by decide +kernel
noncomputable def cn5 (K:aa) (t:Adr):DS:=
 (Af (Ar (Cu K (dFn (spE (Tz K t) []) (Ab (Ac 0) Ai)) (C2 Fe Fe (dC (.int 0)) (Ac 0) (dC (.int 1000000000)))))
 Ae)
theorem bs0 (K:aa) (t:Adr):wSs 40 (Au K Y5 (Aa Kw) (D5 K t) bl) (Ag Kw)=cn5 K t:=by kernel_rfl
theorem bx3:Aj Y5 Pu (Aa Kw):=⟨rfl,rfl,rfl,by decide +kernel,rfl,by decide +kernel,by decide +kernel⟩
theorem b38:Al Y5 (Aa Kw)=true:=by decide +kernel
noncomputable def co3 (K:aa) (t:Adr):DS:=
 (Af (Ar (Cu K (C2 Fe Fe (dC (.str " ")) (Ac 0) (dC (.str "~"))) (Ah (A5 K true) (dFn (fun vs H Q _=>au8 vs H Q) (Ab (Ac 0) Ai)) (dC (.int 37)))))
 Ae)
theorem cf2 (K:aa) (t:Adr):wSs 40 (Au K a79 (Aa Ti) (Ax K t) bl) (Ag Ti)=co3 K t:=by kernel_rfl
theorem ch9:Aj a79 Zv (Aa Ti):=⟨rfl,rfl,rfl,by decide +kernel,rfl,by decide +kernel,by decide +kernel⟩
theorem cq6:Al a79 (Aa Ti)=true:=by decide +kernel
noncomputable def cn6 (K:aa) (t:Adr):DS:=
 (Af (Ar (Cu K (dFn (spE (N2 K t) []) (Ab (Ac 0) (Ab (dC (.int 0)) (Ab (dC (.int 60)) Ai)))) (dFn (fun vs H Q _=>(Nt K) vs H Q) (Ab (C3 [none] (D7 K (Ac 0)) (gdN 0) Eb (dFn (spE (am7 K t) []) (Ab (Ac 0) Ai))) Ai))))
 Ae)
theorem bs1 (K:aa) (t:Adr):wSs 40 (Au K Y6 (Aa Kx) (D5 K t) bl) (Ag Kx)=cn6 K t:=by kernel_rfl
theorem bx4:Aj Y6 Pw (Aa Kx):=⟨rfl,rfl,rfl,by decide +kernel,rfl,by decide +kernel,by decide +kernel⟩
theorem b39:Al Y6 (Aa Kx)=true:=by decide +kernel
noncomputable def ck7 (K:aa) (t:Adr):DS:=
 (Af (Ar (dFn (spE (K6 K t) []) (Ab (Ac 1) Ai)))
 Ae)
theorem bp0 (K:aa) (t:Adr):wSs 40 (Au K Yb (Aa J3) (Fu K t) bl) (Ag J3)=ck7 K t:=by kernel_rfl
theorem bu3:Aj Yb Oz (Aa J3):=⟨rfl,rfl,rfl,by decide +kernel,rfl,by decide +kernel,by decide +kernel⟩
theorem b08:Al Yb (Aa J3)=true:=by decide +kernel
noncomputable def cx4 (K:aa) (t:Adr):DS:=
 (Af (Ar (Cu K (dFn (fun vs H Q _=>(Dq K) vs H Q) (Ab (Ac 0) (Ab (dC (.ty "tuple")) Ai))) (C2 Fe Fe (dC (.int 1)) (dFn (fun vs H Q _=>(Q3 K) vs H Q) (Ab (Ac 0) Ai)) (Ac 1))))
 Ae)
theorem cf8 (K:aa) (t:Adr):wSs 40 (Au K a85 (Aa To) (Ax K t) bl) (Ag To)=cx4 K t:=by kernel_rfl
theorem ci5:Aj a85 Z3 (Aa To):=⟨rfl,rfl,rfl,by decide +kernel,rfl,by decide +kernel,by decide +kernel⟩
theorem cr2:Al a85 (Aa To)=true:=by decide +kernel
noncomputable def cn8 (K:aa) (t:Adr):DS:=
 (Af (Ar (Cu K (dFn (spE (V7 K t) []) (Ab (Ac 0) (Ab (dC (.int 6)) Ai))) (dFn (fun vs H Q _=>(Nt K) vs H Q) (Ab (C3 [none] (D7 K (Ac 0)) (gdN 0) Eb (dFn (spE (K6 K t) []) (Ab (Ac 0) Ai))) Ai))))
 Ae)
theorem bs3 (K:aa) (t:Adr):wSs 40 (Au K Y8 (Aa Kz) (Fu K t) bl) (Ag Kz)=cn8 K t:=by kernel_rfl
theorem bx6:Aj Y8 Py (Aa Kz):=⟨rfl,rfl,rfl,by decide +kernel,rfl,by decide +kernel,by decide +kernel⟩
theorem b41:Al Y8 (Aa Kz)=true:=by decide +kernel
noncomputable def ck1 (K:aa) (t:Adr):DS:=
 (Af (dIf (dOr (Hi (Fo K (dFn (spE (V7 K t) []) (Ab (Ac 1) (Ab (dC (.int 6)) Ai))))) (Hi (Fo K (dFn (fun vs H Q _=>(Nt K) vs H Q) (Ab (C3 [none] (D7 K (Ac 1)) (gdN 0) Eb (dFn (spE (Uf K t) []) (Ab (Ac 0) Ai))) Ai))))) (Af (Ar (dC (.bl false)))
  Ae) Ae)
 (Af (Ar (dFn (fun vs H Q _=>(Nt K) vs H Q) (Ab (C3 [none,some 1] (D7 K (Ac 1)) (gdN 0) Eb (Ah (A5 K false) (dFn (fun vs H Q _=>(Q3 K) vs H Q) (Ab (Ac 0) Ai)) (dFn (fun vs H Q _=>(Q3 K) vs H Q) (Ab (Ah (Ap K) (Ac 1) (dC (.int 0))) Ai)))) Ai)))
 Ae))
theorem bo4 (K:aa) (t:Adr):wSs 40 (Au K X5 (Aa Jy) (D6 K t) bl) (Ag Jy)=ck1 K t:=by kernel_rfl
theorem bt7:Aj X5 Ot (Aa Jy):=⟨rfl,rfl,rfl,by decide +kernel,rfl,by decide +kernel,by decide +kernel⟩
theorem b02:Al X5 (Aa Jy)=true:=by decide +kernel
noncomputable def cw7 (K:aa) (t:Adr):DS:=
 (Af (Ar (dC (.str "chapter")))
 Ae)
theorem cf0 (K:aa) (t:Adr):wSs 40 (Au K a77 (Aa Tg) (Ax K t) bl) (Ag Tg)=cw7 K t:=by kernel_rfl
theorem ch7:Aj a77 Zt (Aa Tg):=⟨rfl,rfl,rfl,by decide +kernel,rfl,by decide +kernel,by decide +kernel⟩
theorem cq4:Al a77 (Aa Tg)=true:=by decide +kernel
noncomputable def cl0 (K:aa) (t:Adr):DS:=
 (Af (Ar (dC (.str "para")))
 Ae)
theorem bp3 (K:aa) (t:Adr):wSs 40 (Au K Ye (Aa J6) (Ax K t) bl) (Ag J6)=cl0 K t:=by kernel_rfl
theorem bu6:Aj Ye O2 (Aa J6):=⟨rfl,rfl,rfl,by decide +kernel,rfl,by decide +kernel,by decide +kernel⟩
theorem b11:Al Ye (Aa J6)=true:=by decide +kernel
noncomputable def ck2 (K:aa) (t:Adr):DS:=
 (Af (Ar (dC (.str "table")))
 Ae)
theorem bo5 (K:aa) (t:Adr):wSs 40 (Au K X6 (Aa Jz) (Ax K t) bl) (Ag Jz)=ck2 K t:=by kernel_rfl
theorem bt8:Aj X6 Ou (Aa Jz):=⟨rfl,rfl,rfl,by decide +kernel,rfl,by decide +kernel,by decide +kernel⟩
theorem b03:Al X6 (Aa Jz)=true:=by decide +kernel
noncomputable def cw9 (K:aa) (t:Adr):DS:=
 (Af (dIf (Hi (Fo K (dFn (fun vs H Q _=>(Dq K) vs H Q) (Ab (Ac 0) (Ab (dC (.ty "str")) Ai))))) (Af (Ar (dC .non))
  Ae) Ae)
 (Af (M0 (D7 K (Dj (Ab (dFn (mkC t.c_zci none 0) Ai) (Ab (dFn (mkC t.c_zcp none 0) Ai) (Ab (dFn (mkC t.c_zcm none 0) Ai) Ai))))) (gdN 1) (Af (dIf (A0 (Ah (A5 K false) (Ba "word" 0 (Ht K t) (Ac 1) Ai) (Ac 0))) (Af (Ar (Ac 1))
   Ae) Ae)
  Ae))
 (Af (Ar (dC .non))
 Ae)))
theorem cf3 (K:aa) (t:Adr):wSs 40 (Au K a80 (Aa Tj) (D5 K t) bl) (Ag Tj)=cw9 K t:=by kernel_rfl
theorem ci0:Aj a80 Zw (Aa Tj):=⟨rfl,rfl,rfl,by decide +kernel,rfl,by decide +kernel,by decide +kernel⟩
theorem cq7:Al a80 (Aa Tj)=true:=by decide +kernel
noncomputable def cn7 (K:aa) (t:Adr):DS:=
 (Af (dIf (Hi (Fo K (Ac 0))) (Af (Df K (dFn (fun vs H Q E=>vs.length<=1000/\mkX t.c_zch none 0 vs H Q E) (Ab (dC (.str "a thing in the edit is not what it has to be")) Ai)))
  Ae) Ae)
 Ae)
theorem bs2 (K:aa) (t:Adr):wSs 40 (Au K Y7 (Aa Ky) (Ax K t) bl) (Ag Ky)=cn7 K t:=by kernel_rfl
theorem bx5:Aj Y7 Px (Aa Ky):=⟨rfl,rfl,rfl,by decide +kernel,rfl,by decide +kernel,by decide +kernel⟩
theorem b40:Al Y7 (Aa Ky)=true:=by decide +kernel
noncomputable def cl7 (K:aa) (t:Adr):DS:=
 (Af (Ar (ab2 K (dFn (spE (G6 K t) []) (Ab (Ac 0) Ai)) (Cu K (dFn (fun vs H Q _=>(Dq K) vs H Q) (Ab (Ac 0) (Ab (dC (.ty "str")) Ai))) (Ah (A5 K false) (Ac 0) (dC (.str ""))))))
 Ae)
theorem bq2 (K:aa) (t:Adr):wSs 40 (Au K Yn (Aa Kf) (D6 K t) bl) (Ag Kf)=cl7 K t:=by kernel_rfl
theorem bv5:Aj Yn Pb (Aa Kf):=⟨rfl,rfl,rfl,by decide +kernel,rfl,by decide +kernel,by decide +kernel⟩
theorem b20:Al Yn (Aa Kf)=true:=by decide +kernel
noncomputable def cm1 (K:aa) (t:Adr):DS:=
 (Af (A3 (dFn (spE (Er K t) []) (Ab (Cu K (dFn (spE (G6 K t) []) (Ab (Ac 1) Ai)) (Cu K (dFn (spE (N3 K t) []) (Ab (Ac 3) Ai)) (dFn (spE (N8 K t) []) (Ab (Ac 4) Ai)))) Ai)))
 (Af (A3 (dFn (spE (Er K t) []) (Ab (Ah (Xi true) (dFn (spE (Q7 K t) []) (Ab (Ac 2) Ai)) (dC .non)) Ai)))
 (Af (A3 (dFn (spE (Er K t) []) (Ab (Ba "fits" 1 (F9 K t) (dFn (spE (Q7 K t) []) (Ab (Ac 2) Ai)) (Ab (Ac 5) Ai)) Ai)))
 (Af (E9 K "name" (Ac 0) (Ac 1))
 (Af (E9 K "kind" (Ac 0) (Ac 2))
 (Af (E9 K "parent" (Ac 0) (Ac 3))
 (Af (E9 K "rank" (Ac 0) (Ac 4))
 (Af (E9 K "content" (Ac 0) (Ac 5))
 Ae))))))))
theorem bq6 (K:aa) (t:Adr):wSs 40 (Au K Yr (Aa Kj) (Fv K t) bl) (Ag Kj)=cm1 K t:=by kernel_rfl
theorem bv9:Aj Yr Pf (Aa Kj):=⟨rfl,rfl,rfl,by decide +kernel,rfl,by decide +kernel,by decide +kernel⟩
theorem b24:Al Yr (Aa Kj)=true:=by decide +kernel
noncomputable def cw2 (K:aa) (t:Adr):DS:=
 (Af (A3 (dFn (spE (Er K t) []) (Ab (dFn (spE (G6 K t) []) (Ab (Ac 1) Ai)) Ai)))
 (Af (E9 K "part" (Ac 0) (Ac 1))
 Ae))
theorem ce5 (K:aa) (t:Adr):wSs 40 (Au K a72 (Aa Ta) (D6 K t) bl) (Ag Ta)=cw2 K t:=by kernel_rfl
theorem ch1:Aj a72 Zo (Aa Ta):=⟨rfl,rfl,rfl,by decide +kernel,rfl,by decide +kernel,by decide +kernel⟩
theorem cp9:Al a72 (Aa Ta)=true:=by decide +kernel
noncomputable def ck8 (K:aa) (t:Adr):DS:=
 (Af (A3 (dFn (spE (V6 K t) []) (Ab (Ac 0) (Ab (Ac 1) Ai))))
 (Af (A3 (dFn (spE (Er K t) []) (Ab (Cu K (dFn (spE (N3 K t) []) (Ab (Ac 2) Ai)) (dFn (spE (N8 K t) []) (Ab (Ac 3) Ai))) Ai)))
 (Af (E9 K "parent" (Ac 0) (Ac 2))
 (Af (E9 K "rank" (Ac 0) (Ac 3))
 Ae))))
theorem bp1 (K:aa) (t:Adr):wSs 40 (Au K Yc (Aa J4) (Fw K t) bl) (Ag J4)=ck8 K t:=by kernel_rfl
theorem bu4:Aj Yc O0 (Aa J4):=⟨rfl,rfl,rfl,by decide +kernel,rfl,by decide +kernel,by decide +kernel⟩
theorem b09:Al Yc (Aa J4)=true:=by decide +kernel
noncomputable def cl4 (K:aa) (t:Adr):DS:=
 (Af (A3 (dFn (spE (V6 K t) []) (Ab (Ac 0) (Ab (Ac 1) Ai))))
 (Af (A3 (dFn (spE (Er K t) []) (Ab (Cu K (dFn (spE (G6 K t) []) (Ab (Ac 2) Ai)) (dFn (spE (K6 K t) []) (Ab (Ac 3) Ai))) Ai)))
 (Af (E9 K "name" (Ac 0) (Ac 2))
 (Af (E9 K "text" (Ac 0) (Ac 3))
 Ae))))
theorem bp7 (K:aa) (t:Adr):wSs 40 (Au K Yi (Aa Ka) (Fw K t) bl) (Ag Ka)=cl4 K t:=by kernel_rfl
theorem bv0:Aj Yi O6 (Aa Ka):=⟨rfl,rfl,rfl,by decide +kernel,rfl,by decide +kernel,by decide +kernel⟩
theorem b15:Al Yi (Aa Ka)=true:=by decide +kernel
noncomputable def cm9 (K:aa) (t:Adr):DS:=
 (Af (dIf (A0 (Ah (A5 K false) (Ah (Ap K) (Ac 0) (dC (.int 0))) (dC (.str "put")))) (Af (Ar (dFn (mkC t.c_zct (some (Vh K t)) 0) (Ab (Ah (Ap K) (Ac 0) (dC (.int 1))) (Ab (Ah (Ap K) (Ac 0) (dC (.int 2))) (Ab (Ah (Ap K) (Ac 0) (dC (.int 3))) (Ab (Ah (Ap K) (Ac 0) (dC (.int 4))) (Ab (Ah (Ap K) (Ac 0) (dC (.int 5))) Ai)))))))
  Ae) Ae)
 (Af (dIf (A0 (Ah (A5 K false) (Ah (Ap K) (Ac 0) (dC (.int 0))) (dC (.str "cut")))) (Af (Ar (dFn (mkC t.c_zcs (some (Rx K t)) 0) (Ab (Ah (Ap K) (Ac 0) (dC (.int 1))) Ai)))
  Ae) Ae)
 (Af (dIf (A0 (Ah (A5 K false) (Ah (Ap K) (Ac 0) (dC (.int 0))) (dC (.str "wrap")))) (Af (Ar (dFn (mkC t.c_zcr (some (Vg K t)) 0) (Ab (Ah (Ap K) (Ac 0) (dC (.int 1))) (Ab (Ah (Ap K) (Ac 0) (dC (.int 2))) (Ab (Ah (Ap K) (Ac 0) (dC (.int 3))) Ai)))))
  Ae) Ae)
 (Af (Ar (dFn (mkC t.c_zco (some (Vf K t)) 0) (Ab (Ah (Ap K) (Ac 0) (dC (.int 1))) (Ab (Ah (Ap K) (Ac 0) (dC (.int 2))) (Ab (Ah (Ap K) (Ac 0) (dC (.int 3))) Ai)))))
 Ae))))
theorem br4 (K:aa) (t:Adr):wSs 40 (Au K Yz (Aa Kr) (Ws K t) bl) (Ag Kr)=cm9 K t:=by kernel_rfl
theorem bw7:Aj Yz Pn (Aa Kr):=⟨rfl,rfl,rfl,by decide +kernel,rfl,by decide +kernel,by decide +kernel⟩
theorem b32:Al Yz (Aa Kr)=true:=by decide +kernel
noncomputable def cl8 (K:aa) (t:Adr):DS:=
 (Af (dIf (A0 (Ah (A5 K false) (Ah (Ap K) (Ac 0) (dC (.int 0))) (dC (.str "put")))) (Af (Ar (Ah (Ap K) (Ac 0) (dC (.int 3))))
  Ae) Ae)
 (Af (Ar (Ah (Ap K) (Ac 0) (dC (.int 1))))
 Ae))
theorem bq3 (K:aa) (t:Adr):wSs 40 (Au K Yo (Aa Kg) (Ax K t) bl) (Ag Kg)=cl8 K t:=by kernel_rfl
theorem bv6:Aj Yo Pc (Aa Kg):=⟨rfl,rfl,rfl,by decide +kernel,rfl,by decide +kernel,by decide +kernel⟩
theorem b21:Al Yo (Aa Kg)=true:=by decide +kernel
noncomputable def cl9 (K:aa) (t:Adr):DS:=
 (Af (dIf (A0 (Ah (A5 K false) (Ah (Ap K) (Ac 0) (dC (.int 0))) (dC (.str "put")))) (Af (Ar (Ah (Ap K) (Ac 0) (dC (.int 1))))
  Ae) Ae)
 (Af (dIf (A0 (Ah (A5 K false) (Ah (Ap K) (Ac 0) (dC (.int 0))) (dC (.str "wrap")))) (Af (Ar (Ah (Ap K) (Ac 0) (dC (.int 2))))
  Ae) Ae)
 (Af (Ar (dC .non))
 Ae)))
theorem bq4 (K:aa) (t:Adr):wSs 40 (Au K Yp (Aa Kh) (Ax K t) bl) (Ag Kh)=cl9 K t:=by kernel_rfl
theorem bv7:Aj Yp Pd (Aa Kh):=⟨rfl,rfl,rfl,by decide +kernel,rfl,by decide +kernel,by decide +kernel⟩
theorem b22:Al Yp (Aa Kh)=true:=by decide +kernel
noncomputable def cm8 (K:aa) (t:Adr):DS:=
 (Af (A6 2 (Dj (Ab (Ac 1) Ai)))
 (Af (Go (A0 (Ah (A5 K true) (Ah (Ap K) (Ah (Ap K) (Ac 0) (Ah (Ap K) (Ac 2) (dUn Mh (dC (.int 1))))) (dC (.int 1))) (dC (.str "")))) (Af (A3 (dMt (rMt K [⟨"list", "list.append", Cg⟩]) (Ac 2) (Ab (Ah (Ap K) (Ah (Ap K) (Ac 0) (Ah (Ap K) (Ac 2) (dUn Mh (dC (.int 1))))) (dC (.int 1))) Ai)))
  Ae))
 (Af (Ar (Ac 2))
 Ae)))
theorem br3 (K:aa) (t:Adr):wSs 40 (Au K Yy (Aa Kq) (Ax K t) bl) (Ag Kq)=cm8 K t:=by kernel_rfl
theorem bw6:Aj Yy Pm (Aa Kq):=⟨rfl,rfl,rfl,by decide +kernel,rfl,by decide +kernel,by decide +kernel⟩
theorem b31:Al Yy (Aa Kq)=true:=by decide +kernel
noncomputable def cx5 (K:aa) (t:Adr):DS:=
 (Af (A6 2 (dFn (spE (N4 K t) []) (Ab (Ac 1) Ai)))
 (Af (dIf (E8 (A0 (Ah (A5 K true) (Ac 2) (dC (.str "")))) (A0 (Ah (Hl K true) (Ac 2) (Ac 0)))) (Af (Ar (Cl (Ab (dC (.str "no part")) (Ab (Ac 2) Ai))))
  Ae) Ae)
 (Af (dIf (A0 (Ah (Hl K false) (dFn (spE (K5 K t) []) (Ab (Ac 1) Ai)) (Ac 0))) (Af (Ar (Cl (Ab (dC (.str "doubled")) (Ab (dFn (spE (K5 K t) []) (Ab (Ac 1) Ai)) Ai))))
  Ae) Ae)
 (Af (A6 3 (dC (.str "")))
 (Af (dIf (A0 (Ah (A5 K false) (Ah (Ap K) (Ac 1) (dC (.int 0))) (dC (.str "put")))) (Af (A6 3 (Ac 2))
  Ae) Ae)
 (Af (dIf (E8 (A0 (Ah (A5 K false) (Ah (Ap K) (Ac 1) (dC (.int 0))) (dC (.str "move")))) (A0 (Ah (A5 K true) (Ah (Ap K) (Ac 1) (dC (.int 2))) (dC (.str ""))))) (Af (A6 3 (Ah (Ap K) (Ac 1) (dC (.int 2))))
  (Af (dIf (A0 (Ah (Hl K true) (Ac 3) (Ac 0))) (Af (Ar (Cl (Ab (dC (.str "lost")) (Ab (Ac 3) Ai))))
   Ae) Ae)
  (Af (dIf (A0 (Ah (Hl K false) (Ac 2) (dFn (spE (N5 K t) []) (Ab (Ac 0) (Ab (Ac 3) Ai))))) (Af (Ar (Cl (Ab (dC (.str "ring")) (Ab (Ac 2) Ai))))
   Ae) Ae)
  Ae))) Ae)
 (Af (dIf (E8 (A0 (Ah (A5 K true) (Ac 3) (dC (.str "")))) (A0 (Ah (A5 K true) (Ah (Ap K) (Ah (Ap K) (Ac 0) (Ac 3)) (dC (.int 0))) (dC (.str "chapter"))))) (Af (Ar (Cl (Ab (dC (.str "no holder")) (Ab (Ac 3) Ai))))
  Ae) Ae)
 (Af (Ar (dC .non))
 Ae))))))))
theorem cf9 (K:aa) (t:Adr):wSs 40 (Au K a86 (Aa Tp) (D5 K t) bl) (Ag Tp)=cx5 K t:=by kernel_rfl
theorem ci6:Aj a86 Z4 (Aa Tp):=⟨rfl,rfl,rfl,by decide +kernel,rfl,by decide +kernel,by decide +kernel⟩
theorem cr3:Al a86 (Aa Tp)=true:=by decide +kernel
noncomputable def cm7 (K:aa) (t:Adr):DS:=
 (Af (dIf (A0 (Ah (A5 K false) (Ah (Ap K) (Ac 1) (dC (.int 0))) (dC (.str "put")))) (Af (Lc (Cl (Ab (Ah (Ap K) (Ac 1) (dC (.int 2))) (Ab (Ah (Ap K) (Ac 1) (dC (.int 3))) (Ab (Ah (Ap K) (Ac 1) (dC (.int 4))) (Ab (Ah (Ap K) (Ac 1) (dC (.int 5))) Ai))))) (Hc K (Ac 0) (Ah (Ap K) (Ac 1) (dC (.int 1)))))
  Ae) (Af (dIf (A0 (Ah (A5 K false) (Ah (Ap K) (Ac 1) (dC (.int 0))) (dC (.str "cut")))) (Af (M0 (D7 K (ab4 (C3 [none,some 0,some 1] (D7 K (Ac 0)) (gdN 0) (A0 (Ah (Hl K false) (Ah (Ap K) (Ac 2) (dC (.int 1))) (dFn (spE (N5 K t) []) (Ab (Ac 1) (Ab (Ac 0) Ai))))) (Ac 0)))) (gdN 2) (Af (A3 (dMt (rMt K [⟨"list", "list.pop", Vx⟩,⟨"dict", "dict.pop", Mg⟩]) (Ac 0) (Ab (Ac 2) Ai)))
    Ae))
   Ae) (Af (Lc (Ah (Ap K) (Ac 0) (Ah (Ap K) (Ac 1) (dC (.int 1)))) (gdT K 4 [(gdN 3),(gdN 4),(gdN 5),(gdN 6)]))
   (Af (dIf (A0 (Ah (A5 K false) (Ah (Ap K) (Ac 1) (dC (.int 0))) (dC (.str "move")))) (Af (Lc (Cl (Ab (Ac 3) (Ab (Ah (Ap K) (Ac 1) (dC (.int 2))) (Ab (Ah (Ap K) (Ac 1) (dC (.int 3))) (Ab (Ac 6) Ai))))) (Hc K (Ac 0) (Ah (Ap K) (Ac 1) (dC (.int 1)))))
    Ae) (Af (Lc (Cl (Ab (dC (.str "chapter")) (Ab (Ac 4) (Ab (Ac 5) (Ab (Ah (Ap K) (Ac 1) (dC (.int 3))) Ai))))) (Hc K (Ac 0) (Ah (Ap K) (Ac 1) (dC (.int 2)))))
    (Af (Lc (Cl (Ab (Ac 3) (Ab (Ah (Ap K) (Ac 1) (dC (.int 2))) (Ab (dC (.int 0)) (Ab (Ac 6) Ai))))) (Hc K (Ac 0) (Ah (Ap K) (Ac 1) (dC (.int 1)))))
    Ae)))
   Ae)))
  Ae))
 Ae)
theorem br2 (K:aa) (t:Adr):wSs 40 (Au K Yx (Aa Kp) (D5 K t) bl) (Ag Kp)=cm7 K t:=by kernel_rfl
theorem bw5:Aj Yx Pl (Aa Kp):=⟨rfl,rfl,rfl,by decide +kernel,rfl,by decide +kernel,by decide +kernel⟩
theorem b30:Al Yx (Aa Kp)=true:=by decide +kernel
noncomputable def cv6 (K:aa) (t:Adr):DS:=
 (Af (E9 K "part" (Ac 0) (Ac 1))
 (Af (E9 K "choice" (Ac 0) (Ac 2))
 Ae))
theorem cd9 (K:aa) (t:Adr):wSs 40 (Au K a66 (Aa G5) (Ax K t) bl) (Ag G5)=cv6 K t:=by kernel_rfl
theorem cg5:Aj a66 Zi (Aa G5):=⟨rfl,rfl,rfl,by decide +kernel,rfl,by decide +kernel,by decide +kernel⟩
theorem cp3:Al a66 (Aa G5)=true:=by decide +kernel
noncomputable def cl1 (K:aa) (t:Adr):DS:=
 (Af (Ar (Ah (Hl K false) (Ac 1) (dUn (Aq K "records") (Ac 0))))
 Ae)
theorem bp4 (K:aa) (t:Adr):wSs 40 (Au K Yf (Aa J7) (Ax K t) bl) (Ag J7)=cl1 K t:=by kernel_rfl
theorem bu7:Aj Yf O3 (Aa J7):=⟨rfl,rfl,rfl,by decide +kernel,rfl,by decide +kernel,by decide +kernel⟩
theorem b12:Al Yf (Aa J7)=true:=by decide +kernel
noncomputable def cn2 (K:aa) (t:Adr):DS:=
 (Af (dIf (Fo K (Ba "has" 1 (Jf K t) (Ac 0) (Ab (Ac 1) Ai))) (Af (Df K (dFn (fun vs H Q E=>vs.length<=1000/\mkX t.c_zcj (some (Dk K t)) 1 vs H Q E) (Ab (Ac 1) (Ab (Ac 2) Ai))))
  Ae) Ae)
 Ae)
theorem br7 (K:aa) (t:Adr):wSs 40 (Au K Y2 (Aa Ku) (Fu K t) bl) (Ag Ku)=cn2 K t:=by kernel_rfl
theorem bx0:Aj Y2 Pq (Aa Ku):=⟨rfl,rfl,rfl,by decide +kernel,rfl,by decide +kernel,by decide +kernel⟩
theorem b35:Al Y2 (Aa Ku)=true:=by decide +kernel
noncomputable def cj6 (K:aa) (t:Adr):DS:=
 (Af (Ar (dC (.bl false)))
 Ae)
theorem bn9 (K:aa) (t:Adr):wSs 40 (Au K X0 (Aa Jt) (Ax K t) bl) (Ag Jt)=cj6 K t:=by kernel_rfl
theorem bt2:Aj X0 On (Aa Jt):=⟨rfl,rfl,rfl,by decide +kernel,rfl,by decide +kernel,by decide +kernel⟩
theorem bz7:Al X0 (Aa Jt)=true:=by decide +kernel
noncomputable def cw0 (K:aa) (t:Adr):DS:=
 (Af (Ar (dC (.bl true)))
 Ae)
theorem ce3 (K:aa) (t:Adr):wSs 40 (Au K a70 (Aa S0) (Ax K t) bl) (Ag S0)=cw0 K t:=by kernel_rfl
theorem cg9:Aj a70 Zm (Aa S0):=⟨rfl,rfl,rfl,by decide +kernel,rfl,by decide +kernel,by decide +kernel⟩
theorem cp7:Al a70 (Aa S0)=true:=by decide +kernel
noncomputable def cx2 (K:aa) (t:Adr):DS:=
 (Af (dIf (A0 (Ah (Hl K true) (Ac 1) (dUn (Aq K "records") (Ac 0)))) (Af (Df K (dFn (fun vs H Q E=>vs.length<=1000/\mkX t.c_zck (some (Dk K t)) 0 vs H Q E) (Ab (Ac 1) Ai)))
  Ae) Ae)
 (Af (Ar (Ah (Ap K) (dUn (Aq K "records") (Ac 0)) (Ac 1)))
 Ae))
theorem cf6 (K:aa) (t:Adr):wSs 40 (Au K a83 (Aa Tm) (Fu K t) bl) (Ag Tm)=cx2 K t:=by kernel_rfl
theorem ci3:Aj a83 Zz (Aa Tm):=⟨rfl,rfl,rfl,by decide +kernel,rfl,by decide +kernel,by decide +kernel⟩
theorem cr0:Al a83 (Aa Tm)=true:=by decide +kernel
noncomputable def cw4 (K:aa) (t:Adr):DS:=
 (Af (Ar (Ah (Ap K) (Ba "state" 1 (Cq K t) (Ac 0) (Ab (Ac 1) Ai)) (dC (.int 0))))
 Ae)
theorem ce7 (K:aa) (t:Adr):wSs 40 (Au K a74 (Aa Td) (D6 K t) bl) (Ag Td)=cw4 K t:=by kernel_rfl
theorem ch4:Aj a74 Zq (Aa Td):=⟨rfl,rfl,rfl,by decide +kernel,rfl,by decide +kernel,by decide +kernel⟩
theorem cq1:Al a74 (Aa Td)=true:=by decide +kernel
noncomputable def cj4 (K:aa) (t:Adr):DS:=
 (Af (dIf (E8 (A0 (Ah (A5 K true) (Ac 1) (dC (.str "")))) (Hi (Fo K (Ba "holds" 0 (Em K t) (dFn (spE (Q7 K t) []) (Ab (Ba "kind_of" 1 (C7 K t) (Ac 0) (Ab (Ac 1) Ai)) Ai)) Ai)))) (Af (Df K (dFn (fun vs H Q E=>vs.length<=1000/\mkX t.c_zcg (some (Dk K t)) 1 vs H Q E) (Ab (Ac 1) (Ab (Ac 2) Ai))))
  Ae) Ae)
 Ae)
theorem bn7 (K:aa) (t:Adr):wSs 40 (Au K Xy (Aa Jr) (Fv K t) bl) (Ag Jr)=cj4 K t:=by kernel_rfl
theorem bt0:Aj Xy Ol (Aa Jr):=⟨rfl,rfl,rfl,by decide +kernel,rfl,by decide +kernel,by decide +kernel⟩
theorem bz5:Al Xy (Aa Jr)=true:=by decide +kernel
noncomputable def cw6 (K:aa) (t:Adr):DS:=
 (Af (A3 (dFn (spE (N7 K t) []) (Ab (Ac 1) (Ab (dUn (Aq K "name") (Ac 0)) (Ab (Ac 2) Ai)))))
 (Af (A3 (dFn (spE (N1 K t) []) (Ab (Ac 1) (Ab (dUn (Aq K "parent") (Ac 0)) (Ab (Ac 2) Ai)))))
 Ae))
theorem ce9 (K:aa) (t:Adr):wSs 40 (Au K a76 (Aa Tf) (Fw K t) bl) (Ag Tf)=cw6 K t:=by kernel_rfl
theorem ch6:Aj a76 Zs (Aa Tf):=⟨rfl,rfl,rfl,by decide +kernel,rfl,by decide +kernel,by decide +kernel⟩
theorem cq3:Al a76 (Aa Tf)=true:=by decide +kernel
noncomputable def cw1 (K:aa) (t:Adr):DS:=
 (Af Ae
 Ae)
theorem ce4 (K:aa) (t:Adr):wSs 40 (Au K a71 (Aa S8) (Ax K t) bl) (Ag S8)=cw1 K t:=by kernel_rfl
theorem ch0:Aj a71 Zn (Aa S8):=⟨rfl,rfl,rfl,by decide +kernel,rfl,by decide +kernel,by decide +kernel⟩
theorem cp8:Al a71 (Aa S8)=true:=by decide +kernel
noncomputable def cv4 (K:aa) (t:Adr):DS:=
 (Af (Ar (Ah (Ap K) (Ba "state" 1 (Cq K t) (Ac 0) (Ab (Ac 1) Ai)) (dC (.int 1))))
 Ae)
theorem cd7 (K:aa) (t:Adr):wSs 40 (Au K a64 (Aa Sv) (D6 K t) bl) (Ag Sv)=cv4 K t:=by kernel_rfl
theorem cg3:Aj a64 Zg (Aa Sv):=⟨rfl,rfl,rfl,by decide +kernel,rfl,by decide +kernel,by decide +kernel⟩
theorem cp1:Al a64 (Aa Sv)=true:=by decide +kernel
noncomputable def co0 (K:aa) (t:Adr):DS:=
 (Af (A6 2 (Dj Ai))
 (Af (A6 3 (Ac 1))
 (Af (Go (A0 (Ah (A5 K true) (Ac 3) (dC (.str "")))) (Af (A3 (dMt (rMt K [⟨"list", "list.append", Cg⟩]) (Ac 2) (Ab (Ac 3) Ai)))
  (Af (A6 3 (Ba "parent_of" 1 (Bk K t) (Ac 0) (Ab (Ac 3) Ai)))
  Ae)))
 (Af (Ar (Ac 2))
 Ae))))
theorem bs5 (K:aa) (t:Adr):wSs 40 (Au K Za (Aa K1) (Fv K t) bl) (Ag K1)=co0 K t:=by kernel_rfl
theorem bx8:Aj Za P0 (Aa K1):=⟨rfl,rfl,rfl,by decide +kernel,rfl,by decide +kernel,by decide +kernel⟩
theorem b43:Al Za (Aa K1)=true:=by decide +kernel
noncomputable def cv7 (K:aa) (t:Adr):DS:=
 (Af (dIf (E8 (A0 (Ah (A5 K true) (dUn (Aq K "parent") (Ac 0)) (dC (.str "")))) (Hi (Fo K (Ba "has" 1 (Jf K t) (Ac 1) (Ab (dUn (Aq K "parent") (Ac 0)) Ai))))) (Af (Df K (dFn (fun vs H Q E=>vs.length<=1000/\mkX t.c_zcn (some (Dk K t)) 1 vs H Q E) (Ab (dUn (Aq K "parent") (Ac 0)) (Ab (Ac 2) Ai))))
  Ae) Ae)
 (Af (dIf (A0 (Ah (Hl K false) (dUn (Aq K "part") (Ac 0)) (dFn (spE (Ug K t) []) (Ab (Ac 1) (Ab (dUn (Aq K "parent") (Ac 0)) Ai))))) (Af (Df K (dFn (fun vs H Q E=>vs.length<=1000/\mkX t.c_zcq (some (Dk K t)) 1 vs H Q E) (Ab (dUn (Aq K "part") (Ac 0)) (Ab (Ac 2) Ai))))
  Ae) Ae)
 (Af (A3 (dFn (spE (N1 K t) []) (Ab (Ac 1) (Ab (dUn (Aq K "parent") (Ac 0)) (Ab (Ac 2) Ai)))))
 Ae)))
theorem ce0 (K:aa) (t:Adr):wSs 40 (Au K a67 (Aa Sx) (Fw K t) bl) (Ag Sx)=cv7 K t:=by kernel_rfl
theorem cg6:Aj a67 Zj (Aa Sx):=⟨rfl,rfl,rfl,by decide +kernel,rfl,by decide +kernel,by decide +kernel⟩
theorem cp4:Al a67 (Aa Sx)=true:=by decide +kernel
noncomputable def cv9 (K:aa) (t:Adr):DS:=
 (Af (A3 (dFn (spE (N7 K t) []) (Ab (Ac 1) (Ab (dUn (Aq K "name") (Ac 0)) (Ab (Ac 2) Ai)))))
 Ae)
theorem ce2 (K:aa) (t:Adr):wSs 40 (Au K a69 (Aa Sz) (D6 K t) bl) (Ag Sz)=cv9 K t:=by kernel_rfl
theorem cg8:Aj a69 Zl (Aa Sz):=⟨rfl,rfl,rfl,by decide +kernel,rfl,by decide +kernel,by decide +kernel⟩
theorem cp6:Al a69 (Aa Sz)=true:=by decide +kernel
noncomputable def ck6 (K:aa) (t:Adr):DS:=
 (Af (dIf (E8 (A0 (Ah (A5 K true) (Ba "about" 0 (Cp K t) (Ac 0) Ai) (dC (.str "")))) (Hi (Fo K (Ba "has" 1 (Jf K t) (Ac 1) (Ab (Ba "about" 0 (Cp K t) (Ac 0) Ai) Ai))))) (Af (Df K (dFn (fun vs H Q E=>vs.length<=1000/\mkX t.c_zck (some (Dk K t)) 1 vs H Q E) (Ab (Ba "about" 0 (Cp K t) (Ac 0) Ai) (Ab (Ac 2) Ai))))
  Ae) Ae)
 (Af (A3 (Ba "need_rest" 2 (Ce K t) (Ac 0) (Ab (Ac 1) (Ab (Ac 2) Ai))))
 Ae))
theorem bo9 (K:aa) (t:Adr):wSs 40 (Au K Ya (Aa Dr) (ap7 K t) bl) (Ag Dr)=ck6 K t:=by kernel_rfl
theorem bu2:Aj Ya Oy (Aa Dr):=⟨rfl,rfl,rfl,by decide +kernel,rfl,by decide +kernel,by decide +kernel⟩
theorem b07:Al Ya (Aa Dr)=true:=by decide +kernel
noncomputable def cl2 (K:aa) (t:Adr):DS:=
 (Af (Lc (Cl (Ab (Ac 2) (Ab (Ac 3) (Ab (Ac 4) (Ab (Ac 5) Ai))))) (Hc K (dUn (Aq K "records") (Ac 0)) (Ac 1)))
 Ae)
theorem bp5 (K:aa) (t:Adr):wSs 40 (Au K Yg (Aa J8) (Ax K t) bl) (Ag J8)=cl2 K t:=by kernel_rfl
theorem bu8:Aj Yg O4 (Aa J8):=⟨rfl,rfl,rfl,by decide +kernel,rfl,by decide +kernel,by decide +kernel⟩
theorem b13:Al Yg (Aa J8)=true:=by decide +kernel
noncomputable def ck0 (K:aa) (t:Adr):DS:=
 (Af (A3 (Ba "lay" 5 (Jg K t) (Ac 1) (Ab (dUn (Aq K "name") (Ac 0)) (Ab (dUn (Aq K "kind") (Ac 0)) (Ab (dUn (Aq K "parent") (Ac 0)) (Ab (dUn (Aq K "rank") (Ac 0)) (Ab (dUn (Aq K "content") (Ac 0)) Ai)))))))
 Ae)
theorem bo3 (K:aa) (t:Adr):wSs 40 (Au K X4 (Aa Jx) (D5 K t) bl) (Ag Jx)=ck0 K t:=by kernel_rfl
theorem bt6:Aj X4 Os (Aa Jx):=⟨rfl,rfl,rfl,by decide +kernel,rfl,by decide +kernel,by decide +kernel⟩
theorem b01:Al X4 (Aa Jx)=true:=by decide +kernel
noncomputable def cv3 (K:aa) (t:Adr):DS:=
 (Af (dIf (E8 (A0 (Ah (A5 K true) (Ac 1) (dC (.str "")))) (A0 (Ah (Hl K true) (Ac 1) (dUn (Aq K "records") (Ac 0))))) (Af (Df K (dFn (fun vs H Q E=>vs.length<=1000/\mkX t.c_zck (some (Dk K t)) 0 vs H Q E) (Ab (Ac 1) Ai)))
  Ae) Ae)
 Ae)
theorem cd6 (K:aa) (t:Adr):wSs 40 (Au K a63 (Aa Su) (Fu K t) bl) (Ag Su)=cv3 K t:=by kernel_rfl
theorem cg2:Aj a63 Zf (Aa Su):=⟨rfl,rfl,rfl,by decide +kernel,rfl,by decide +kernel,by decide +kernel⟩
theorem cp0:Al a63 (Aa Su)=true:=by decide +kernel
noncomputable def cw5 (K:aa) (t:Adr):DS:=
 (Af (Ar (Ah (Ap K) (Ba "state" 1 (Cq K t) (Ac 0) (Ab (Ac 1) Ai)) (dC (.int 2))))
 Ae)
theorem ce8 (K:aa) (t:Adr):wSs 40 (Au K a75 (Aa Te) (D6 K t) bl) (Ag Te)=cw5 K t:=by kernel_rfl
theorem ch5:Aj a75 Zr (Aa Te):=⟨rfl,rfl,rfl,by decide +kernel,rfl,by decide +kernel,by decide +kernel⟩
theorem cq2:Al a75 (Aa Te)=true:=by decide +kernel
noncomputable def cv5 (K:aa) (t:Adr):DS:=
 (Af (Ar (Cl (Ab (Ba "rank_of" 1 (D0 K t) (Ac 0) (Ab (Ac 1) Ai)) (Ab (Ac 1) Ai))))
 Ae)
theorem cd8 (K:aa) (t:Adr):wSs 40 (Au K a65 (Aa Sw) (Fv K t) bl) (Ag Sw)=cv5 K t:=by kernel_rfl
theorem cg4:Aj a65 Zh (Aa Sw):=⟨rfl,rfl,rfl,by decide +kernel,rfl,by decide +kernel,by decide +kernel⟩
theorem cp2:Al a65 (Aa Sw)=true:=by decide +kernel
noncomputable def cv1 (K:aa) (t:Adr):DS:=
 (Af (A6 1 P6)
 (Af (M0 (D7 K (ab3 K "place_key" (Br K t) (dUn (Aq K "records") (Ac 0)) (Ac 0))) (gdN 2) (Af (A3 (dMt (rMt K [⟨"list", "list.append", Cg⟩]) (dMt (rMt K [⟨"dict", "dict.setdefault", Jq⟩]) (Ac 1) (Ab (Ba "parent_of" 1 (Bk K t) (Ac 0) (Ab (Ac 2) Ai)) (Ab (Dj Ai) Ai))) (Ab (Ac 2) Ai)))
  Ae))
 (Af (Ar (Ac 1))
 Ae)))
theorem cd4 (K:aa) (t:Adr):wSs 40 (Au K a61 (Aa Sr) (Ws K t) bl) (Ag Sr)=cv1 K t:=by kernel_rfl
theorem cg0:Aj a61 Zd (Aa Sr):=⟨rfl,rfl,rfl,by decide +kernel,rfl,by decide +kernel,by decide +kernel⟩
theorem co8:Al a61 (Aa Sr)=true:=by decide +kernel
noncomputable def cj9 (K:aa) (t:Adr):DS:=
 (Af (A6 2 (Ba "all_unders" 0 (Dg K t) (Ac 0) Ai))
 (Af (A6 3 (Dj Ai))
 (Af (A6 4 (C3 [none] (aq2 K (dMt (rMt K [⟨"dict", "dict.get", Mf⟩]) (Ac 2) (Ab (Ac 1) (Ab (Dj Ai) Ai)))) (gdN 0) Eb (Cl (Ab (dC (.int 1)) (Ab (Ac 0) Ai)))))
 (Af (Go (A0 (Ah (A5 K true) (Ac 4) (Dj Ai))) (Af (A6 5 (dMt (rMt K [⟨"list", "list.pop", Vx⟩,⟨"dict", "dict.pop", Mg⟩]) (Ac 4) Ai))
  (Af (A3 (dMt (rMt K [⟨"list", "list.append", Cg⟩]) (Ac 3) (Ab (Ac 5) Ai)))
  (Af (A3 (dMt (rMt K [⟨"list", "list.extend", Hz⟩]) (Ac 4) (Ab (C3 [none,some 5] (aq2 K (dMt (rMt K [⟨"dict", "dict.get", Mf⟩]) (Ac 2) (Ab (Ah (Ap K) (Ac 5) (dC (.int 1))) (Ab (Dj Ai) Ai)))) (gdN 0) Eb (Cl (Ab (Ah (Bw K) (Ah (Ap K) (Ac 1) (dC (.int 0))) (dC (.int 1))) (Ab (Ac 0) Ai)))) Ai)))
  Ae))))
 (Af (Ar (Ac 3))
 Ae)))))
theorem bo2 (K:aa) (t:Adr):wSs 40 (Au K X3 (Aa Jw) (ap8 K t) bl) (Ag Jw)=cj9 K t:=by kernel_rfl
theorem bt5:Aj X3 Oq (Aa Jw):=⟨rfl,rfl,rfl,by decide +kernel,rfl,by decide +kernel,by decide +kernel⟩
theorem b00:Al X3 (Aa Jw)=true:=by decide +kernel
noncomputable def cw3 (K:aa) (t:Adr):DS:=
 (Af (A3 (Ba "need_place" 1 (Di K t) (Ac 0) (Ab (Ac 1) Ai)))
 (Af (Ar (C3 [none,none] (D7 K (Ba "walk" 1 (Ng K t) (Ac 0) (Ab (Ac 1) Ai))) (gdT K 2 [(gdN 0),(gdN 1)]) Eb (Ac 1)))
 Ae))
theorem ce6 (K:aa) (t:Adr):wSs 40 (Au K a73 (Aa Tc) (ap9 K t) bl) (Ag Tc)=cw3 K t:=by kernel_rfl
theorem ch3:Aj a73 Zp (Aa Tc):=⟨rfl,rfl,rfl,by decide +kernel,rfl,by decide +kernel,by decide +kernel⟩
theorem cq0:Al a73 (Aa Tc)=true:=by decide +kernel
noncomputable def cj7 (K:aa) (t:Adr):DS:=
 (Af (A3 (Ba "state" 1 (Cq K t) (Ac 0) (Ab (Ac 1) Ai)))
 (Af (M0 (D7 K (Ah (Bw K) (Dj (Ab (Ac 1) Ai)) (Ba "beneath" 1 (Fd K t) (Ac 0) (Ab (Ac 1) Ai)))) (gdN 2) (Af (A3 (dMt (rMt K [⟨"list", "list.pop", Vx⟩,⟨"dict", "dict.pop", Mg⟩]) (dUn (Aq K "records") (Ac 0)) (Ab (Ac 2) Ai)))
  Ae))
 Ae))
theorem bo0 (K:aa) (t:Adr):wSs 40 (Au K X1 (Aa Ju) (U7 K t) bl) (Ag Ju)=cj7 K t:=by kernel_rfl
theorem bt3:Aj X1 Oo (Aa Ju):=⟨rfl,rfl,rfl,by decide +kernel,rfl,by decide +kernel,by decide +kernel⟩
theorem bz8:Al X1 (Aa Ju)=true:=by decide +kernel
noncomputable def cj5 (K:aa) (t:Adr):DS:=
 (Af (A3 (Ba "drop" 1 (Nf K t) (Ac 1) (Ab (dUn (Aq K "part") (Ac 0)) Ai)))
 Ae)
theorem bn8 (K:aa) (t:Adr):wSs 40 (Au K Xz (Aa Js) (U8 K t) bl) (Ag Js)=cj5 K t:=by kernel_rfl
theorem bt1:Aj Xz Om (Aa Js):=⟨rfl,rfl,rfl,by decide +kernel,rfl,by decide +kernel,by decide +kernel⟩
theorem bz6:Al Xz (Aa Js)=true:=by decide +kernel
noncomputable def cv2 (K:aa) (t:Adr):DS:=
 (Af (Ar (Ah (Ap K) (Ba "state" 1 (Cq K t) (Ac 0) (Ab (Ac 1) Ai)) (dC (.int 3))))
 Ae)
theorem cd5 (K:aa) (t:Adr):wSs 40 (Au K a62 (Aa Ss) (D6 K t) bl) (Ag Ss)=cv2 K t:=by kernel_rfl
theorem cg1:Aj a62 Ze (Aa Ss):=⟨rfl,rfl,rfl,by decide +kernel,rfl,by decide +kernel,by decide +kernel⟩
theorem co9:Al a62 (Aa Ss)=true:=by decide +kernel
noncomputable def co1 (K:aa) (t:Adr):DS:=
 (Af (A3 (Ba "lay" 5 (Jg K t) (Ac 0) (Ab (Ac 1) (Ab (Ba "kind_of" 1 (C7 K t) (Ac 0) (Ab (Ac 1) Ai)) (Ab (Ac 2) (Ab (Ac 3) (Ab (Ba "content_of" 1 (Dh K t) (Ac 0) (Ab (Ac 1) Ai)) Ai)))))))
 Ae)
theorem bs6 (K:aa) (t:Adr):wSs 40 (Au K Zb (Aa K2) (Fv K t) bl) (Ag K2)=co1 K t:=by kernel_rfl
theorem bx9:Aj Zb P1 (Aa K2):=⟨rfl,rfl,rfl,by decide +kernel,rfl,by decide +kernel,by decide +kernel⟩
theorem b44:Al Zb (Aa K2)=true:=by decide +kernel
noncomputable def cx0 (K:aa) (t:Adr):DS:=
 (Af (A3 (dFn (spE (Oa K t) []) (Ab (Ac 1) (Ab (dUn (Aq K "part") (Ac 0)) (Ab (dUn (Aq K "parent") (Ac 0)) (Ab (dUn (Aq K "rank") (Ac 0)) Ai))))))
 Ae)
theorem cf4 (K:aa) (t:Adr):wSs 40 (Au K a81 (Aa Tk) (Fw K t) bl) (Ag Tk)=cx0 K t:=by kernel_rfl
theorem ci1:Aj a81 Zx (Aa Tk):=⟨rfl,rfl,rfl,by decide +kernel,rfl,by decide +kernel,by decide +kernel⟩
theorem cq8:Al a81 (Aa Tk)=true:=by decide +kernel
noncomputable def cx3 (K:aa) (t:Adr):DS:=
 (Af (A3 (Ba "lay" 5 (Jg K t) (Ac 1) (Ab (dUn (Aq K "name") (Ac 0)) (Ab (dC (.str "chapter")) (Ab (Ba "parent_of" 1 (Bk K t) (Ac 1) (Ab (dUn (Aq K "part") (Ac 0)) Ai)) (Ab (Ba "rank_of" 1 (D0 K t) (Ac 1) (Ab (dUn (Aq K "part") (Ac 0)) Ai)) (Ab (dUn (Aq K "text") (Ac 0)) Ai)))))))
 (Af (A3 (dFn (spE (Oa K t) []) (Ab (Ac 1) (Ab (dUn (Aq K "part") (Ac 0)) (Ab (dUn (Aq K "name") (Ac 0)) (Ab (dC (.int 0)) Ai))))))
 Ae))
theorem cf7 (K:aa) (t:Adr):wSs 40 (Au K a84 (Aa Tn) (Fw K t) bl) (Ag Tn)=cx3 K t:=by kernel_rfl
theorem ci4:Aj a84 Z0 (Aa Tn):=⟨rfl,rfl,rfl,by decide +kernel,rfl,by decide +kernel,by decide +kernel⟩
theorem cr1:Al a84 (Aa Tn)=true:=by decide +kernel
noncomputable def cn3 (K:aa) (t:Adr):DS:=
 (Af (A3 (Ba "need" 2 (Gb K t) (Ac 0) (Ab (Ac 1) (Ab (Ac 2) Ai))))
 (Af (A3 (Ba "change" 1 (Do K t) (Ac 0) (Ab (Ac 1) Ai)))
 Ae))
theorem br8 (K:aa) (t:Adr):wSs 40 (Au K Y3 (Aa Ds) (U9 K t) bl) (Ag Ds)=cn3 K t:=by kernel_rfl
theorem bx1:Aj Y3 Ps (Aa Ds):=⟨rfl,rfl,rfl,by decide +kernel,rfl,by decide +kernel,by decide +kernel⟩
theorem b36:Al Y3 (Aa Ds)=true:=by decide +kernel
noncomputable def cn1 (K:aa) (t:Adr):DS:=
 (Af (A6 3 (dC .non))
 (Af (a96 K (Af (dIf (Fo K (Ac 2)) (Af (A3 (Ba "need" 1 (Gb K t) (Ac 0) (Ab (Ac 1) Ai)))
   Ae) (Af (A3 (Ba "on" 1 (Vl K t) (Ac 0) (Ab (Ac 1) Ai)))
   Ae))
  Ae) [(t.c_zcd,.as 4,(Af (A6 5 (Dj (Ab (dFn (fun vs H Q _=>(Dq K) vs H Q) (Ab (Ac 4) (Ab (dC (.ref t.c_zck)) Ai))) (Ab (dFn (fun vs H Q _=>(Dq K) vs H Q) (Ab (Ac 4) (Ab (dC (.ref t.c_zcj)) Ai))) (Ab (dFn (fun vs H Q _=>(Dq K) vs H Q) (Ab (Ac 4) (Ab (dC (.ref t.c_zcn)) Ai))) (Ab (dFn (fun vs H Q _=>(Dq K) vs H Q) (Ab (Ac 4) (Ab (dC (.ref t.c_zcq)) Ai))) Ai))))))
  (Af (A3 (dMt (rMt K [⟨"list", "list.append", Cg⟩]) (Ac 5) (Ab (dFn (fun vs H Q _=>(Dq K) vs H Q) (Ab (Ac 4) (Ab (dC (.ref t.c_zcg)) Ai))) Ai)))
  (Af (A6 3 (Cl (Ab (dC (.str "other")) (Ab (dUn (Aq K "part") (Ac 4)) Ai))))
  (Af (dIf (E8 (A0 (Ah (A5 K false) (dMt (rMt K [⟨"list", "list.count", Jo K⟩]) (Ac 5) (Ab (dC (.bl true)) Ai)) (dC (.int 1)))) (A0 (Ah (Xi false) (dUn (Aq K "choice") (Ac 4)) (dC .non)))) (Af (A6 3 (Cl (Ab (Ah (Ap K) (Dj (Ab (dC (.str "no part")) (Ab (dC (.str "doubled")) (Ab (dC (.str "lost")) (Ab (dC (.str "ring")) (Ab (dC (.str "no holder")) Ai)))))) (dMt (rMt K [⟨"list", "list.index", Jp⟩]) (Ac 5) (Ab (dC (.bl true)) Ai))) (Ab (dUn (Aq K "part") (Ac 4)) Ai))))
   Ae) Ae)
  Ae)))))])
 (Af (Ar (Ac 3))
 Ae)))
theorem br6 (K:aa) (t:Adr):wSs 40 (Au K Y1 (Aa Kt) (Va K t) bl) (Ag Kt)=cn1 K t:=by kernel_rfl
theorem bw9:Aj Y1 Pp (Aa Kt):=⟨rfl,rfl,rfl,by decide +kernel,rfl,by decide +kernel,by decide +kernel⟩
theorem b34:Al Y1 (Aa Kt)=true:=by decide +kernel
noncomputable def cx1 (K:aa) (t:Adr):DS:=
 (Af (Ar (dFn (fun vs H Q _=>(Sm K true) vs H Q) (Ab (dUn (Aq K "records") (Ac 0)) Ai)))
 Ae)
theorem cf5 (K:aa) (t:Adr):wSs 40 (Au K a82 (Aa Tl) (Ax K t) bl) (Ag Tl)=cx1 K t:=by kernel_rfl
theorem ci2:Aj a82 Zy (Aa Tl):=⟨rfl,rfl,rfl,by decide +kernel,rfl,by decide +kernel,by decide +kernel⟩
theorem cq9:Al a82 (Aa Tl)=true:=by decide +kernel
noncomputable def cn9 (K:aa) (t:Adr):DS:=
 (Af (dIf (A0 (Ah (A5 K true) (Ba "names" 0 (Jh K t) (Ac 0) Ai) (dFn (fun vs H Q _=>(Sm K true) vs H Q) (Ab (Ac 1) Ai)))) (Af (Ar (dC (.bl false)))
  Ae) Ae)
 (Af (M0 (D7 K (Ac 1)) (gdN 2) (Af (dIf (A0 (Ah (A5 K true) (Ba "state" 1 (Cq K t) (Ac 0) (Ab (Ac 2) Ai)) (Ah (Ap K) (Ac 1) (Ac 2)))) (Af (Ar (dC (.bl false)))
   Ae) Ae)
  (Af (A6 3 (Ba "parent_of" 1 (Bk K t) (Ac 0) (Ab (Ac 2) Ai)))
  (Af (A6 4 (dC (.int 0)))
  (Af (Go (E8 (A0 (Ah (A5 K true) (Ac 3) (dC (.str "")))) (E8 (A0 (Ah au7 (Ac 4) (dC (.int 9)))) (A0 (Ah (A5 K false) (Ba "kind_of" 1 (C7 K t) (Ac 0) (Ab (Ac 3) Ai)) (dC (.str "chapter")))))) (Af (A6 3 (Ba "parent_of" 1 (Bk K t) (Ac 0) (Ab (Ac 3) Ai)))
   (Af (A6 4 (Ah (Bw K) (Ac 4) (dC (.int 1))))
   Ae)))
  (Af (dIf (A0 (Ah (A5 K true) (Ac 3) (dC (.str "")))) (Af (Ar (dC (.bl false)))
   Ae) Ae)
  Ae))))))
 (Af (Ar (dC (.bl true)))
 Ae)))
theorem bs4 (K:aa) (t:Adr):wSs 40 (Au K Y9 (Aa K0) (Fv K t) bl) (Ag K0)=cn9 K t:=by kernel_rfl
theorem bx7:Aj Y9 Pz (Aa K0):=⟨rfl,rfl,rfl,by decide +kernel,rfl,by decide +kernel,by decide +kernel⟩
theorem b42:Al Y9 (Aa K0)=true:=by decide +kernel
noncomputable def co2 (K:aa) (t:Adr):DS:=
 (Af (A6 1 (C3 [none,some 0] (ad6 (Ab (dC (.int 8)) Ai)) (gdN 0) Eb (dFn (spE (Ue K t) []) (Ab (dFn (spE (Ua K t) []) (Ab (Ac 1) (Ab (dC (.int 0)) Ai))) (Ab (Ac 0) Ai)))))
 (Af (A6 2 (dFn (mkC t.c_zcl (some (Vd K t)) 0) Ai))
 (Af (A6 3 P6)
 (Af (M0 (D7 K (dSl K (Ac 0) (Fn (dC (.int 2))) (Fn (dC (.int 52))))) (gdN 4) (Af (A6 5 (dFn (spE (Ub K t) []) (Ab (Ac 1) (Ab (Ac 4) Ai))))
  (Af (A6 6 (dFn (spE (Ud K t) []) (Ab (Ac 5) Ai)))
  (Af (dIf (dOr (Hi (Fo K (dFn (fun vs H Q _=>(Dq K) vs H Q) (Ab (Ac 6) (Ab (dC (.ref t.c_Edit)) Ai))))) (A0 (Ah (A5 K true) (Ba "told" 0 (Gc K t) (Ac 6) Ai) (Ac 5)))) (Af (Ar (dC (.bl false)))
   Ae) Ae)
  (Af (dIf (dOr (A0 (Ah (A5 K true) (Ba "about" 0 (Cp K t) (Ac 6) Ai) (dFn (spE (N4 K t) []) (Ab (Ac 5) Ai)))) (A0 (Ah (A5 K true) (Ba "made" 0 (Ga K t) (Ac 6) Ai) (dFn (spE (K5 K t) []) (Ab (Ac 5) Ai))))) (Af (Ar (dC (.bl false)))
   Ae) Ae)
  (Af (A6 7 (dFn (spE (am8 K t) []) (Ab (Ac 3) (Ab (Ac 5) Ai))))
  (Af (dIf (dOr (A0 (Ah (A5 K true) (dFn (spE (N6 K t) []) (Ab (Ac 6) (Ab (Ac 2) (Ab (dC (.bl true)) Ai)))) (Ac 7))) (Hi (Fo K (dFn (spE (N9 K t) []) (Ab (Ac 2) (Ab (Ac 3) Ai)))))) (Af (Ar (dC (.bl false)))
   Ae) Ae)
  (Af (dIf (A0 (Ah (A5 K true) (dFn (spE (N6 K t) []) (Ab (Ac 6) (Ab (Ac 2) (Ab (dC (.bl false)) Ai)))) (Ac 7))) (Af (Ar (dC (.bl false)))
   Ae) Ae)
  (Af (dIf (A0 (Ah (Xi false) (Ac 7) (dC .non))) (Af (A3 (dFn (spE (Uc K t) []) (Ab (Ac 3) (Ab (Ac 5) Ai))))
   Ae) Ae)
  (Af (dIf (Hi (Fo K (dFn (spE (N9 K t) []) (Ab (Ac 2) (Ab (Ac 3) Ai))))) (Af (Ar (dC (.bl false)))
   Ae) Ae)
  Ae))))))))))
 (Af (Ar (dC (.bl true)))
 Ae)))))
theorem bs7 (K:aa) (t:Adr):wSs 40 (Au K Zc (Aa Du) (ad1 K t) bl) (Ag Du)=co2 K t:=by kernel_rfl
theorem by0:Aj Zc P2 (Aa Du):=⟨rfl,rfl,rfl,by decide +kernel,rfl,by decide +kernel,by decide +kernel⟩
theorem b45:Al Zc (Aa Du)=true:=by decide +kernel
end K25
set_option maxHeartbeats 400000
namespace K25
open PySem L2
theorem b81 {b:Bool} {A B:Prop} (e:b=false) (h:B):if b=true then A else B:=by subst e;exact Hk h
theorem Qm {b:Bool} {A B:Prop} (e:b=true) (h:A):if b=true then A else B:=by subst e;exact M8 h
theorem aw3 (z:Str):z.cps.toList.length=z.length:=by simp [jq]
theorem Z6 {xs:List V} {i:Nat} {v:V} (h:xs[i]? = some v):atI xs (i:Int)=some v:=by
 have hl:i<xs.length:=(List.getElem?_eq_some_iff.mp h).1
 unfold atI ixN
 have h1:¬ ((i:Int)<0):=by omega
 have h2:(i:Int)<(xs.length:Int):=by omega
 simp [h1,h2]
 exact h
theorem ag4 (a c:Nat):decide ([c]<[a])=decide (c<a):=by
 rw [dU,decide_eq_true_iff,decide_eq_true_iff,List.cons_lt_cons_iff]
 simp
theorem leL {s:Str} {a c:Nat} (h:s.cps.toList=[a]):(!decide ((⟨#[c]⟩:Str).cps.toList<s.cps.toList))=decide (a<=c):=by
 rw [h]
 show (!decide ([c]<[a]))=_
 rw [ag4,<- decide_not]
 exact decide_eq_decide.mpr Nat.not_lt
theorem leR {s:Str} {a c:Nat} (h:s.cps.toList=[a]):(!decide (s.cps.toList<(⟨#[c]⟩:Str).cps.toList))=decide (c<=a):=by
 rw [h]
 show (!decide ([a]<[c]))=_
 rw [ag4,<- decide_not]
 exact decide_eq_decide.mpr Nat.not_lt
theorem Wk {s1 s2:Str} {a b c:Nat} {Q:VK} {H:Hp} (h1:s1.cps.toList=[a]) (h2:s2.cps.toList=[b]) (k:Q (.bl (decide (a<=c)&&decide (c<=b))) H) :
  if (!decide ((⟨#[c]⟩:Str).cps.toList<s1.cps.toList))=true then Q (.bl (!decide (s2.cps.toList<(⟨#[c]⟩:Str).cps.toList))) H else Q (.bl false) H:=by
 rw [leL h1,leR h2]
 cases e:decide (a<=c) with
 | true=>rw [e,eW] at k;exact M8 k
 | false=>rw [e,fz] at k;exact Hk k
theorem Lo {a b c:Int} {Q:VK} {H:Hp} (k:Q (.bl (decide (a<=c)&&decide (c<=b))) H):if decide (a<=c)=true then Q (.bl (decide (c<=b))) H else Q (.bl false) H:=by
 cases e:decide (a<=c) with
 | true=>rw [e,eW] at k;exact M8 k
 | false=>rw [e,fz] at k;exact Hk k
theorem M1 {s1 s2:Str} {a b c i:Nat} {Q:VK} {E:EK} {H:Hp} {σ:St} (h1:s1.cps.toList=[a]) (h2:s2.cps.toList=[b]) (hv:σ[i]? = some (some (.str ⟨#[c]⟩))) (k:Q (.bl (decide (a<=c)&&decide (c<=b))) H) :
  C2 Fe Fe (dC (.str s1)) (Ac i) (dC (.str s2)) σ H Q E:=by
 unfold C2 dC Ac
 rw [hv]
 exact Wk h1 h2 k
section
variable {P:aH} {w:bh} {K:aa} {mg:Str->Option Value} {base:Heap} {t:Adr}
theorem bd8 {f:Addr} {fd:ai} (Z:Facts K t) (F:FunD K "has_length" "has_length" J0 f fd .none) (T:Tab P w K mg base 0 (Ax K t) bl):FnOk P w K mg base CX0 1 f fd Ov (N2 K t):=by
 refine F.okW0 bt9 b04 T (bo6 K t) (fun vs H Q E h=>?_) (fun vs H Q E h=>?_)
 ·obtain⟨z,a,b,rfl,_⟩:=h;rfl
 ·obtain⟨z,a,b,rfl,hz,k⟩:=h
  refine⟨rfl,aR hz (by decide),?_⟩
  have e:(decide ((a:Int)<=(z.length:Int))&&decide ((z.length:Int)<=(b:Int)))=Gw a b z:=by
   unfold Gw
   congr 1 <;> exact decide_eq_decide.mpr (by omega)
  exact Lo (by rw [e];exact k)
theorem bf0 {f:Addr} {fd:ai} (Z:Facts K t) (F:FunD K "is_letter" "is_letter" Ke f fd .none) (T:Tab P w K mg base 0 (Ax K t) bl):FnOk P w K mg base CX0 1 f fd Pa (Ty K t):=by
 refine F.okW0 bv4 b19 T (bq1 K t) (fun vs H Q E h=>?_) (fun vs H Q E h=>?_)
 ·obtain⟨c,rfl,_⟩:=h;rfl
 ·obtain⟨c,rfl,k⟩:=h
  dsimp only [a52,Af,Ar]
  exact M1 (s1 := "a") (s2 := "z") (c:=c) (i:=0) (a:=97) (b:=122) (by decide +kernel) (by decide +kernel) (by rfl) k
theorem be9 {f:Addr} {fd:ai} (Z:Facts K t) (F:FunD K "is_figure" "is_figure" Kd f fd .none) (T:Tab P w K mg base 0 (Ax K t) bl):FnOk P w K mg base CX0 1 f fd O9 (Tx K t):=by
 refine F.okW0 bv3 b18 T (bq0 K t) (fun vs H Q E h=>?_) (fun vs H Q E h=>?_)
 ·obtain⟨c,rfl,_⟩:=h;rfl
 ·obtain⟨c,rfl,k⟩:=h
  dsimp only [a51,Af,Ar]
  exact M1 (s1 := "0") (s2 := "9") (c:=c) (i:=0) (a:=48) (b:=57) (by decide +kernel) (by decide +kernel) (by rfl) k
theorem bh7 (c:Nat):decide ((⟨#[c]⟩:Str) = ".")=(c==46):=by
 by_cases h:c=46
 ·subst h;decide +kernel
 ·have:¬ (⟨#[c]⟩:Str) = "." := fun z=>h (by
   have:=congrArg (fun s:Str=>s.cps.toList) z
   have e:(d7 ".").cps.toList=[46]:=by decide +kernel
   simp only at this
   rw [e] at this
   simpa using this)
  rw [decide_eq_false this]
  simp [h]
theorem ca0 {f:Addr} {fd:ai} (Z:Facts K t) (F:FunD K "is_name_sign" "is_name_sign" Th f fd .none) (T:Tab P w K mg base 1 (D5 K t) bl):FnOk P w K mg base CX0 2 f fd Zu (am6 K t):=by
 refine F.okW0 ch8 cq5 T (cf1 K t) (fun vs H Q E h=>?_) (fun vs H Q E h=>?_)
 ·obtain⟨c,rfl,_⟩:=h;rfl
 ·obtain⟨c,rfl,k⟩:=h
  unfold En at k
  refine⟨c,rfl,Bo (c:=Ez c=true) (fun e=>?_) (fun e=>?_)⟩
  ·rw [e,jw] at k
   show Q (.bl (Ez c)) H
   rw [e];exact k
  ·have e:Ez c=false:=by simpa using e
   rw [e,gO] at k
   refine⟨c,rfl,Bo (c:=Wq c=true) (fun e2=>?_) (fun e2=>?_)⟩
   ·rw [e2,jw] at k
    show Q (.bl (Wq c)) H
    rw [e2];exact k
   ·have e2:Wq c=false:=by simpa using e2
    rw [e2,gO] at k
    show Q (.bl (decide ((⟨#[c]⟩:Str) = "."))) H
    rw [bh7]
    exact k
theorem ca1 {f:Addr} {fd:ai} (Z:Facts K t) (F:FunD K "is_text_sign" "is_text_sign" Ti f fd .none) (T:Tab P w K mg base 0 (Ax K t) bl):FnOk P w K mg base CX0 1 f fd Zv (am7 K t):=by
 refine F.okW0 ch9 cq6 T (cf2 K t) (fun vs H Q E h=>?_) (fun vs H Q E h=>?_)
 ·obtain⟨x,rfl,_⟩:=h;rfl
 ·obtain⟨c,rfl,k⟩:=h
  unfold Q9 at k
  dsimp only [co3,Af,Ar,Cu]
  refine M1 (s1 := " ") (s2 := "~") (c:=c) (i:=0) (a:=32) (b:=126) (by decide +kernel) (by decide +kernel) (by rfl) ?_
  refine Bo (c:=(decide (32<=c)&&decide (c<=126))=true) (fun e2=>?_) (fun e2=>?_)
  ·rw [e2,eW] at k
   refine⟨rfl,?_⟩
   have e3:(!decide (((c:Nat):Int)=37))=(c != 37):=by
    rw [bne,cR]
    congr 1
    exact decide_eq_decide.mpr (by omega)
   show Q (.bl (!decide (((c:Nat):Int)=37))) H
   rw [e3]
   exact k
  ·have e2':(decide (32<=c)&&decide (c<=126))=false:=by simpa using e2
   rw [e2',fz] at k
   show Q (.bl (decide (32<=c)&&decide (c<=126))) H
   rw [e2']
   exact k
theorem aa7 {J:It} {its:List V} {ok:Hp->Prop} {te:DE} {σ:St} {H:Hp} {L:Addr} {R:Hp->Prop} {E:EK} (Y:Dx J its ok) (Sg:St->Prop) (Pr:Nat->V->Hp->Prop) (hL:H L=none) (hok:∀ H1,Same H H1->ok H1) (hn:its.length<sizeLine) (hσ:Sg σ) (hS:∀ σ x,Sg σ->Sg (σ.set 0 (some x)))
  (mono:∀ i v H1 H2,TKeep K H1 H2->Pr i v H1->Pr i v H2)
  (he:∀ (i:Nat) x σ H1 Q1,its[i]? = some x->Sg σ->Same H H1->(∀ v H2,Same H1 H2->Pr i v H2->Q1 v H2)->te (σ.set 0 (some x)) H1 Q1 E)
  (hd:∀ H' ys,Same H H'->H' L=some (.lst ys)->ys.length=its.length->(∀ (i:Nat) (v:V),ys[i]? = some v->Pr i v H')->R H'):Wc J (gdN 0) Eb te L R σ (upd H L (.lst [])) E:=by
 refine Ih Y (fun i σ' H'=>Sg σ'/\Same H H' /\ ∃ ys,H' L=some (.lst ys)/\ys.length=i /\ ∀ (j:Nat) (v:V),ys[j]? = some v->Pr j v H') ⟨hσ,Same.upd hL,[],Ad,rfl,fun j v e=>by simp at e⟩ (fun i σ' H' _ q=>hok H' q.2.1) ?_ ?_
 ·rintro i x σ' H' hx ⟨q1,q2,ys,q3,q4,q5⟩
  have hi:i<its.length:=(List.getElem?_eq_some_iff.mp hx).1
  refine he i x σ' H' _ hx q1 q2 fun v H2 S2 hp=>⟨ys,S2 _ _ q3,by omega,hS _ _ q1,(q2.trans S2).set hL,ys++[v],Ad,by rw [ay,q4];rfl,fun j u hu=>?_⟩
  have kp:TKeep K H2 (upd H2 L (.lst (ys++[v]))):=TKeep.lst (S2 _ _ q3)
  by_cases hj:j<ys.length
  ·rw [c6 hj] at hu
   exact mono _ _ _ _ kp (mono _ _ _ _ (TKeep.of S2) (q5 j u hu))
  ·rw [cr (by omega)] at hu
   have hj0:j - ys.length=0:=by
    rcases Nat.eq_zero_or_pos (j - ys.length) with h|h
    ·exact h
    ·rw [cU (by simp;omega)] at hu;cases hu
   rw [hj0] at hu
   cases hu
   have:j=i:=by omega
   subst this
   exact mono _ _ _ _ kp hp
 ·rintro σ' H' ⟨_,q2,ys,q3,q4,q5⟩
  exact hd H' ys q2 q3 q4 q5
theorem ba5 {α:Type} {ys:List V} {ds:List α} {f:α->V} (hl:ys.length=ds.length) (h:∀ (i:Nat) (v:V),ys[i]? = some v -> ∀ d,ds[i]? = some d->v=f d):ys=ds.map f:=by
 apply List.ext_getElem?
 intro i
 rw [aP]
 by_cases hi:i<ys.length
 ·have e1:=au hi
  have e2:=au (show i<ds.length by omega)
  rw [e1,e2,h i _ e1 _ e2]
  rfl
 ·rw [cU (by omega),cU (by omega)]
  rfl
theorem a95 {α:Type} {J:It} {its:List V} {ds:List α} {f:α->Bool} {ok:Hp->Prop} {te:DE} {σ:St} {H:Hp} {L:Addr} {R:Hp->Prop} {E:EK} (Y:Dx J its ok) (Sg:St->Prop) (hL:H L=none) (hok:∀ H1,Same H H1->ok H1) (hn:its.length<sizeLine) (hl:its.length=ds.length) (hσ:Sg σ) (hS:∀ σ x,Sg σ->Sg (σ.set 0 (some x)))
  (he:∀ (i:Nat) x d σ H1 Q1,its[i]? = some x->ds[i]? = some d->Sg σ->Same H H1->(∀ H2,Same H1 H2->Q1 (.bl (f d)) H2)->te (σ.set 0 (some x)) H1 Q1 E)
  (hd:∀ H',Same H H'->SqL K H' L ((ds.map f).map V.bl)->R H'):Wc J (gdN 0) Eb te L R σ (upd H L (.lst [])) E:=by
 refine aa7 (K:=K) Y Sg (fun (i:Nat) v _=>∀ d,ds[i]? = some d->v=.bl (f d)) hL hok hn hσ hS (fun _ _ _ _ _ h=>h) ?_ ?_
 ·intro i x σ H1 Q1 hx hg S hk
  have hi:i<its.length:=(List.getElem?_eq_some_iff.mp hx).1
  have e:=au (show i<ds.length by omega)
  exact he i x _ σ H1 Q1 hx e hg S fun H2 S2=>hk _ H2 S2 fun d hd'=>by rw [e] at hd';cases hd';rfl
 ·intro H' ys S e hy hp
  refine hd H' S (SqL.of (e.trans ?_))
  rw [ba5 (f:=fun d=>V.bl (f d)) (by omega) hp,cq]
  rfl
theorem a91 {α:Type} (ds:List α) (f:α->Bool):((ds.map f).all fun b=>b)=ds.all f:=by rw [jy];rfl
theorem Mi {z:Str} {f:Nat->Bool} {te:DE} {H:Hp} {Q:VK} {E:EK} (hz:z.length<=100) (he:∀ (c:Nat) (v:Option V) H1 (Q1:VK),Q1 (.bl (f c)) H1->te [some (.str ⟨#[c]⟩)] H1 Q1 E) (k:∀ H',Same H H'->Q (.bl (z.cps.toList.all f)) H') :
  ∀ D,H D=none->Wc (Its z) (gdN 0) Eb te D (fun H'=>Nt K [.ref D] H' Q) [none] (upd H D (.lst [])) E:=by
 refine fun D hD=>a95 (K:=K) (ds:=z.cps.toList) (f:=f) (b48 z) (fun σ=>σ.length=1) hD (fun _ _=>bv) ?_ ?_ rfl (fun σ x hσ=>by rw [fV];exact hσ) ?_ ?_
 ·unfold Ep
  rw [aj,aw3]
  exact b_ hz (by decide)
 ·unfold Ep
  rw [aj]
 ·intro i x d σ H1 Q1 hx hd hσ S hk
  unfold Ep at hx
  rw [aP,hd] at hx
  cases hx
  match σ,hσ with
  | [v],_=>exact he d v H1 Q1 (hk H1 (Same.refl _))
 ·intro H' S q
  exact⟨_,q,by rw [a91];exact k H' S⟩
theorem bg7 {f:Addr} {fd:ai} (Z:Facts K t) (F:FunD K "is_name" "is_name" Kv f fd .none) (T:Tab P w K mg base 2 (Fu K t) bl):FnOk P w K mg base CX0 3 f fd Pt (G6 K t):=by
 refine F.okW0 bx2 b37 T (br9 K t) (fun vs H Q E h=>?_) (fun vs H Q E h=>?_)
 ·obtain⟨z,rfl,_⟩:=h;rfl
 ·obtain⟨z,rfl,hz,k⟩:=h
  refine⟨z,1,12,rfl,hz,?_⟩
  have k:∀ H',Same H H'->Q (.bl (Gw 1 12 z&&z.cps.toList.all En)) H':=k
  refine Bo (c:=Gw 1 12 z=true) (fun e=>?_) (fun e=>?_)
  ·rw [e,eW] at k
   exact Mi hz (fun c v H1 Q1 q=>⟨c,rfl,q⟩) k
  ·have e:Gw 1 12 z=false:=by simpa using e
   rw [e,fz] at k
   show Q (.bl (Gw 1 12 z)) H
   rw [e]
   exact k H (Same.refl _)
theorem Uo {z:Str} (h:wfB z=true):Gw 0 60 z=true/\z.cps.toList.all Q9=true:=by unfold wfB at h;rwa [aw] at h
theorem cr4 {z:Str} (h:wfB z=true):z.length<=60:=by
 have:=(Uo h).1
 unfold Gw at this
 rw [aw] at this
 exact of_decide_eq_true this.2
theorem Vm {z:Str} (h:nmB z=true):1<=z.length/\z.length<=12:=by
 unfold nmB at h
 rw [aw] at h
 have:=h.1
 unfold Gw at this
 rw [aw] at this
 exact⟨of_decide_eq_true this.1,of_decide_eq_true this.2⟩
theorem Gd {z:Str} (h:nmB z=true):z ≠ "" := fun e=>by subst e;exact absurd h (by decide +kernel)
theorem bg9 {f:Addr} {fd:ai} (Z:Facts K t) (F:FunD K "is_text" "is_text" Kx f fd .none) (T:Tab P w K mg base 1 (D5 K t) bl):FnOk P w K mg base CX0 2 f fd Pw (K6 K t):=by
 refine F.okW0 bx4 b39 T (bs1 K t) (fun vs H Q E h=>?_) (fun vs H Q E h=>?_)
 ·obtain⟨x,rfl,_⟩:=h;rfl
 ·obtain⟨x,rfl,⟨z,rfl,hz⟩,k⟩:=h
  have l:=cr4 hz
  refine⟨z,0,60,rfl,by omega,Qm (Uo hz).1 ?_⟩
  exact Mi (f:=Q9) (by omega) (fun c v H1 Q1 q=>⟨c,rfl,q⟩) fun H' S=>by rw [(Uo hz).2];exact k H' S
theorem bf8 {f:Addr} {fd:ai} (Z:Facts K t) (F:FunD K "is_whole" "is_whole" Km f fd .none) (T:Tab P w K mg base 0 (Ax K t) bl):FnOk P w K mg base CX0 1 f fd Pi (Tz K t):=by
 refine F.okW0 bw2 b27 T (bq9 K t) (fun vs H Q E h=>?_) (fun vs H Q E h=>?_)
 ·obtain⟨x,rfl,_⟩:=h;rfl
 ·obtain⟨x,rfl,⟨i,rfl⟩,k⟩:=h
  exact⟨rfl,⟨rfl,k H (Same.refl _)⟩⟩
theorem bg8 {f:Addr} {fd:ai} (Z:Facts K t) (F:FunD K "is_rank" "is_rank" Kw f fd .none) (T:Tab P w K mg base 1 (D5 K t) bl):FnOk P w K mg base CX0 2 f fd Pu (N8 K t):=by
 refine F.okW0 bx3 b38 T (bs0 K t) (fun vs H Q E h=>?_) (fun vs H Q E h=>?_)
 ·obtain⟨x,rfl,_⟩:=h;rfl
 ·obtain⟨x,rfl,⟨i,rfl,h1,h2⟩,k⟩:=h
  refine⟨.int i,rfl,⟨i,rfl⟩,fun H1 S1=>?_⟩
  refine Lo (a:=0) (b:=1000000000) (c:=i) (Q:=Q) (H:=H1) ?_
  rw [decide_eq_true h1,decide_eq_true h2]
  exact k H1 S1
theorem bf1 {f:Addr} {fd:ai} (Z:Facts K t) (F:FunD K "is_parent" "is_parent" Kf f fd .none) (T:Tab P w K mg base 3 (D6 K t) bl):FnOk P w K mg base CX0 4 f fd Pb (N3 K t):=by
 refine F.okW0 bv5 b20 T (bq2 K t) (fun vs H Q E h=>?_) (fun vs H Q E h=>?_)
 ·obtain⟨x,rfl,_⟩:=h;rfl
 ·obtain⟨x,rfl,⟨z,rfl,hz⟩,k⟩:=h
  have l:z.length<=100:=by
   rcases hz with rfl|hz
   ·decide
   ·have:=Vm hz;omega
  refine⟨z,rfl,l,fun H1 S1=>?_⟩
  refine Bo (c:=nmB z=true) (fun e=>?_) (fun e=>?_)
  ·show Q (.bl (nmB z)) H1
   rw [e]
   exact k H1 S1
  ·have hz:=hz.resolve_right e
   subst hz
   exact⟨rfl,k H1 S1⟩
theorem bh0 {f:Addr} {fd:ai} (Z:Facts K t) (F:FunD K "insist" "insist" Ky f fd .none) (T:Tab P w K mg base 0 (Ax K t) bl):FnOk P w K mg base CX0 1 f fd Px (Er K t):=by
 refine F.okW0 bx5 b40 T (bs2 K t) (fun vs H Q E h=>?_) (fun vs H Q E h=>?_)
 ·obtain⟨rfl,_⟩:=h;rfl
 ·obtain⟨rfl,k⟩:=h
  exact k
theorem ca7 {f:Addr} {fd:ai} (Z:Facts K t) (F:FunD K "is_tuple_of" "is_tuple_of" To f fd .none) (T:Tab P w K mg base 0 (Ax K t) bl):FnOk P w K mg base CX0 1 f fd Z3 (V7 K t):=by
 refine F.okW0 ci5 cr2 T (cf8 K t) (fun vs H Q E h=>?_) (fun vs H Q E h=>?_)
 ·exact h.elim
 ·exact h.elim
theorem bh1 {f:Addr} {fd:ai} (Z:Facts K t) (F:FunD K "is_row" "is_row" Kz f fd .none) (T:Tab P w K mg base 2 (Fu K t) bl):FnOk P w K mg base CX0 3 f fd Py (Uf K t):=by
 refine F.okW0 bx6 b41 T (bs3 K t) (fun vs H Q E h=>?_) (fun vs H Q E h=>?_)
 ·exact h.elim
 ·exact h.elim
theorem bd6 {f:Addr} {fd:ai} (Z:Facts K t) (F:FunD K "fits" "Table.fits" Jy f fd .none) (T:Tab P w K mg base 3 (D6 K t) bl):FnOk P w K mg base CX0 4 f fd Ot (ak8 K t):=by
 refine F.okW0 bt7 b02 T (bo4 K t) (fun vs H Q E h=>?_) (fun vs H Q E h=>?_)
 ·exact h.elim
 ·exact h.elim
theorem ag2 {f:Addr} {fd:ai} (Z:Facts K t) (F:FunD K "fits" "Kind.fits" J3 f fd .none) (T:Tab P w K mg base 2 (Fu K t) bl):FnOk P w K mg base CX0 3 f fd Oz (al1 K t):=by
 refine F.okW0 bu3 b08 T (bp0 K t) (fun vs H Q E h=>?_) (fun vs H Q E h=>?_)
 ·obtain⟨s,z,rfl,_⟩:=h;rfl
 ·obtain⟨s,z,rfl,hz,k⟩:=h
  exact⟨.str z,rfl,⟨z,rfl,hz⟩,k⟩
theorem b99 {f:Addr} {fd:ai} (Z:Facts K t) (F:FunD K "word" "Chapter.word" Tg f fd .none) (T:Tab P w K mg base 0 (Ax K t) bl):FnOk P w K mg base CX0 1 f fd Zt (a44 K t):=by
 refine F.okW0 ch7 cq4 T (cf0 K t) (fun vs H Q E h=>?_) (fun vs H Q E h=>?_)
 ·obtain⟨s,rfl,_⟩:=h;rfl
 ·obtain⟨s,rfl,k⟩:=h;exact k
theorem be2 {f:Addr} {fd:ai} (Z:Facts K t) (F:FunD K "word" "Para.word" J6 f fd .none) (T:Tab P w K mg base 0 (Ax K t) bl):FnOk P w K mg base CX0 1 f fd O2 (al4 K t):=by
 refine F.okW0 bu6 b11 T (bp3 K t) (fun vs H Q E h=>?_) (fun vs H Q E h=>?_)
 ·obtain⟨s,rfl,_⟩:=h;rfl
 ·obtain⟨s,rfl,k⟩:=h;exact k
theorem bd7 {f:Addr} {fd:ai} (Z:Facts K t) (F:FunD K "word" "Table.word" Jz f fd .none) (T:Tab P w K mg base 0 (Ax K t) bl):FnOk P w K mg base CX0 1 f fd Ou (ak9 K t):=by
 refine F.okW0 bt8 b03 T (bo5 K t) (fun vs H Q E h=>?_) (fun vs H Q E h=>?_)
 ·obtain⟨s,rfl,_⟩:=h;rfl
 ·obtain⟨s,rfl,k⟩:=h;exact k
theorem ag0 {f:Addr} {fd:ai} (Z:Facts K t) (F:FunD K "holds" "Kind.holds" Jt f fd .none) (T:Tab P w K mg base 0 (Ax K t) bl):FnOk P w K mg base CX0 1 f fd On (ak3 K t):=by
 refine F.okW0 bt2 bz7 T (bn9 K t) (fun vs H Q E h=>?_) (fun vs H Q E h=>?_)
 ·obtain⟨s,rfl,_⟩:=h;rfl
 ·obtain⟨s,rfl,k⟩:=h;exact k
theorem b93 {f:Addr} {fd:ai} (Z:Facts K t) (F:FunD K "holds" "Chapter.holds" S0 f fd .none) (T:Tab P w K mg base 0 (Ax K t) bl):FnOk P w K mg base CX0 1 f fd Zm (a38 K t):=by
 refine F.okW0 cg9 cp7 T (ce3 K t) (fun vs H Q E h=>?_) (fun vs H Q E h=>?_)
 ·obtain⟨s,rfl,_⟩:=h;rfl
 ·obtain⟨s,rfl,k⟩:=h;exact k
end
theorem kw0:¬ (("para" : Str) = "chapter"):=by decide
section
variable {P:aH} {w:bh} {K:aa} {mg:Str->Option Value} {base:Heap} {t:Adr}
theorem Hv {H:Hp} {a dx C:Addr} (ha:H a=none) (hd:H dx=none):Same H (upd (upd H dx (.own a)) a (.ins C dx [])):=(Same.upd hd).set ha
theorem Od {H:Hp} {a:Addr} {o o':HO}:upd (upd H a o) a o'=upd H a o':=by
 funext b
 by_cases h:b=a
 ·subst h;rw [Ad,Ad]
 ·rw [Ak h,Ak h,Ak h]
theorem But.of {H H':Hp} (S:Same H H') {d:Addr}:But d H H':=fun b o _ e=>S b o e
theorem But.trans {H H' H2:Hp} {d:Addr} (h:But d H H') (g:But d H' H2):But d H H2:=fun b o n e=>g b o n (h b o n e)
theorem But.upd {H:Hp} {d:Addr} {o:HO}:But d H (upd H d o):=fun b o n e=>by rw [Ak n];exact e
theorem ae2 {H H2:Hp} {a:Addr} {O X:HO} {Q:VK} (k:∀ H',Same H H'->Q .non (upd H' a X)) (b:But a H H2) (e:H a=some O):Q .non (upd H2 a X):=by
 have:=k (L2.upd H2 a O) fun b' o h=>by
  by_cases hb:b'=a
  ·subst hb;rw [Ad,<- e,h]
  ·rw [Ak hb];exact b _ _ hb h
 rwa [Od] at this
theorem ca2 {f:Addr} {fd:ai} (Z:Facts K t) (F:FunD K "kind_of_word" "kind_of_word" Tj f fd .none) (T:Tab P w K mg base 1 (D5 K t) bl):FnOk P w K mg base CX0 2 f fd Zw (Q7 K t):=by
 refine F.okW0 ci0 cq7 T (cf3 K t) (fun vs H Q E h=>?_) (fun vs H Q E h=>?_)
 ·obtain⟨w,rfl,_⟩:=h;rfl
 ·obtain⟨w,rfl,hw,k⟩:=h
  refine⟨rfl,?_⟩
  refine⟨rfl,fun a1 d1 ha1 hd1 n1=>?_⟩
  have S1:=Hv (C:=t.c_zci) ha1 hd1
  have e1:upd (upd H d1 (.own a1)) a1 (.ins t.c_zci d1 []) a1=some (.ins t.c_zci d1 []):=Ad
  generalize upd (upd H d1 (.own a1)) a1 (.ins t.c_zci d1 [])=H1 at S1 e1 ⊢
  refine⟨rfl,fun a2 d2 ha2 hd2 n2=>?_⟩
  have S2:=Hv (C:=t.c_zcp) ha2 hd2
  have e2:upd (upd H1 d2 (.own a2)) a2 (.ins t.c_zcp d2 []) a2=some (.ins t.c_zcp d2 []):=Ad
  generalize upd (upd H1 d2 (.own a2)) a2 (.ins t.c_zcp d2 [])=H2 at S2 e2 ⊢
  refine⟨rfl,fun a3 d3 ha3 hd3 n3=>?_⟩
  have S3:=Hv (C:=t.c_zcm) ha3 hd3
  generalize upd (upd H2 d3 (.own a3)) a3 (.ins t.c_zcm d3 [])=H3 at S3 ⊢
  refine⟨(show 3<=sizeLine by decide),fun l hl=>.inl ⟨⟨_,SqL.of Ad⟩,?_⟩⟩
  have S4:=Same.upd (o:=.lst [.ref a1,.ref a2,.ref a3]) hl
  have e4:upd H3 l (.lst [.ref a1,.ref a2,.ref a3]) l=some (.lst [.ref a1,.ref a2,.ref a3]):=Ad
  generalize upd H3 l (.lst [.ref a1,.ref a2,.ref a3])=H4 at S4 e4 ⊢
  have f1:=S4 _ _ (S3 _ _ (S2 _ _ e1))
  have f2:=S4 _ _ (S3 _ _ e2)
  have S:=((S1.trans S2).trans S3).trans S4
  refine Fb (E4 [.ref a1,.ref a2,.ref a3]) (fun i σ H'=>H'=H4/\(∃ v,σ=[some (.str w),v])/\(1<=i->w = "para")/\i<=1) ⟨rfl,⟨_,rfl⟩,(fun h=>by omega),by omega⟩ (fun i σ H' _ h=>h.1▸SqL.of e4) ?_ ?_
  ·rintro i x σ H' hx ⟨rfl,⟨v,rfl⟩,g1,hi⟩
   match i,hx with
   | 0,hx=>
    cases hx
    refine⟨a1,d1,[],⟨t.c_zci,bb4 K t⟩,rfl,.head _,f1,rfl,⟨ac 1,ac 1⟩,_,rfl,?_⟩
    refine Bo (c:=decide (("chapter" : Str)=w)=true) (fun e=>?_) (fun e=>⟨rfl,⟨_,rfl⟩,fun _=>hw.resolve_left fun z=>e (decide_eq_true z.symm),by omega⟩)
    have e:=of_decide_eq_true e
    subst e
    refine k _ a1 d1 S ?_
    rw [f1]
    unfold kcl
    rw [if_pos rfl]
   | 1,hx=>
    cases hx
    have e:=g1 (by omega)
    subst e
    refine⟨a2,d2,[],⟨t.c_zcp,ad9 K t⟩,rfl,.tail _ (.head _),f2,rfl,⟨ac 1,ac 1⟩,_,rfl,?_⟩
    refine k _ a2 d2 S ?_
    rw [f2]
    unfold kcl
    rw [if_neg kw0]
   | n+2,hx=>omega
  ·rintro σ H' ⟨_,_,_,h3⟩
   have h3:3<=1:=h3
   omega
theorem Dy (e:Ed):edC t e∈[t.c_zct,t.c_zcs,t.c_zco,t.c_zcr]:=by cases e <;> simp [edC]
theorem Facts.fld (Z:Facts K t) (e:Ed) {f:Str} (h:f∈Wr):NoAttr K (edC t e) f:=(Z.ed _ (Dy e)).2.2 f h
theorem Facts.cl (Z:Facts K t) (e:Ed):Cls K (edC t e):=(Z.ed _ (Dy e)).1
theorem ac6 {H:Hp} {ka dx:Addr} {z c:Str} {Q:VK} {E:EK} (hz:kdS z) (hk:H ka=some (.ins (kcl t z) dx [])) (hc:wfB c=true) (k:∀ H',Same H H'->Q (.bl true) H') :
  ∃ a dx fs mi,V.ref ka=.ref a/\mi∈F9 K t/\H a=some (.ins mi.C dx fs)/\fs.lookup (d7 "fits")=none/\(1+1<=mi.i.ps.length/\mi.i.ps.length<=1+1+mi.i.dfs.length)/\spE mi.i.sp (mi.i.dfs.drop (1+1+mi.i.dfs.length - mi.i.ps.length)) [.ref a,.str c] H Q E:=by
 rcases hz with rfl|rfl
 ·exact⟨ka,dx,[],⟨t.c_zci,Lw K t⟩,rfl,.head _,hk,rfl,⟨ac 2,ac 2⟩,.ref ka,c,rfl,hc,k⟩
 ·exact⟨ka,dx,[],⟨t.c_zcp,Lw K t⟩,rfl,.tail _ (.head _),hk,rfl,⟨ac 2,ac 2⟩,.ref ka,c,rfl,hc,k⟩
theorem a18 {f:Addr} {fd:ai} (Z:Facts K t) (F:FunD K "__init__" "PartEdit.__init__" Ta f fd .none) (T:Tab P w K mg base 3 (D6 K t) bl):FnOk P w K mg base CX0 4 f fd Zo (V6 K t):=by
 refine F.okW0 ch1 cp9 T (ce5 K t) (fun vs H Q E h=>?_) (fun vs H Q E h=>?_)
 ·obtain⟨a,C,dx,n,rfl,_⟩:=h;rfl
 ·obtain⟨a,C,dx,n,rfl,e,hC,hn,k⟩:=h
  have:=Vm hn
  refine⟨n,rfl,by omega,fun H' S=>?_⟩
  rw [hn]
  exact⟨rfl,.inl ⟨C,dx,[],S _ _ e,(Z.ed C hC).1,(Z.ed C hC).2.2 _ (by decide),by decide,k H' S⟩⟩
theorem bf5 {f:Addr} {fd:ai} (Z:Facts K t) (F:FunD K "__init__" "Put.__init__" Kj f fd .none) (T:Tab P w K mg base 4 (Fv K t) bl):FnOk P w K mg base CX0 5 f fd Pf (am2 K t):=by
 refine F.okW0 bv9 b24 T (bq6 K t) (fun vs H Q E h=>?_) (fun vs H Q E h=>?_)
 ·obtain⟨a,dx,e,hk,rfl,_⟩:=h;cases e <;> first|rfl|cases hk
 ·obtain⟨a,dx,e,hk,rfl,ea,ho,k⟩:=h
  cases e <;> first|cases hk;done|skip
  rename_i n kd p r c
  obtain⟨hn,hkd,hp,hr,hc⟩:=ho
  have Z1:=Z.cl (.put n kd p r c)
  have Z2:=fun f h=>Z.fld (.put n kd p r c) (f:=f) h
  have:=Vm hn
  refine⟨n,rfl,by omega,fun H1 S1=>?_⟩
  rw [hn]
  refine⟨.str p,rfl,⟨p,rfl,hp⟩,fun H2 S2=>⟨.int r,rfl,⟨r,rfl,hr⟩,fun H3 S3=>⟨rfl,?_⟩⟩⟩
  refine⟨kd,rfl,hkd,fun H4 ka kx S4 _=>⟨rfl,?_⟩⟩
  refine⟨kd,rfl,hkd,fun H5 ka2 kx2 S5 hka=>ac6 hkd hka hc fun H6 S6=>⟨rfl,?_⟩⟩
  have S16:=((S1.trans S2).trans (S3.trans S4)).trans (S5.trans S6)
  exact .inl ⟨_,dx,_,S16 _ _ ea,Z1,Z2 _ (by decide),(show 0<1000 by decide),.inl ⟨_,dx,_,Ad,Z1,Z2 _ (by decide),(show 1<1000 by decide),.inl ⟨_,dx,_,Ad,Z1,Z2 _ (by decide),(show 2<1000 by decide),.inl ⟨_,dx,_,Ad,Z1,Z2 _ (by decide),(show 3<1000 by decide),.inl ⟨_,dx,_,Ad,Z1,Z2 _ (by decide),(show 4<1000 by decide),ae2 k (((((But.of S16).trans But.upd).trans But.upd).trans But.upd).trans But.upd) ea⟩⟩⟩⟩⟩
theorem be0 {f:Addr} {fd:ai} (Z:Facts K t) (F:FunD K "__init__" "Move.__init__" J4 f fd .none) (T:Tab P w K mg base 5 (Fw K t) bl):FnOk P w K mg base CX0 6 f fd O0 (al2 K t):=by
 refine F.okW0 bu4 b09 T (bp1 K t) (fun vs H Q E h=>?_) (fun vs H Q E h=>?_)
 ·obtain⟨a,dx,e,hk,rfl,_⟩:=h;cases e <;> first|rfl|cases hk
 ·obtain⟨a,dx,e,hk,rfl,ea,ho,k⟩:=h
  cases e <;> first|cases hk;done|skip
  rename_i n p r
  obtain⟨hn,hp,hr⟩:=ho
  have Z1:=Z.cl (.move n p r)
  have Z2:=fun f h=>Z.fld (.move n p r) (f:=f) h
  refine⟨a,_,dx,n,rfl,ea,Dy (.move n p r),hn,fun H1 S1=>?_⟩
  refine⟨.str p,rfl,⟨p,rfl,hp⟩,fun H2 S2=>⟨.int r,rfl,⟨r,rfl,hr⟩,fun H3 S3=>⟨rfl,?_⟩⟩⟩
  exact .inl ⟨_,dx,_,(S2.trans S3) _ _ Ad,Z1,Z2 _ (by decide),(show 1<1000 by decide),.inl ⟨_,dx,_,Ad,Z1,Z2 _ (by decide),(show 2<1000 by decide),ae2 k ((((But.of S1).trans But.upd).trans (But.of (S2.trans S3))).trans But.upd) ea⟩⟩
theorem be6 {f:Addr} {fd:ai} (Z:Facts K t) (F:FunD K "__init__" "Wrap.__init__" Ka f fd .none) (T:Tab P w K mg base 5 (Fw K t) bl):FnOk P w K mg base CX0 6 f fd O6 (al8 K t):=by
 refine F.okW0 bv0 b15 T (bp7 K t) (fun vs H Q E h=>?_) (fun vs H Q E h=>?_)
 ·obtain⟨a,dx,e,hk,rfl,_⟩:=h;cases e <;> first|rfl|cases hk
 ·obtain⟨a,dx,e,hk,rfl,ea,ho,k⟩:=h
  cases e <;> first|cases hk;done|skip
  rename_i n m x
  obtain⟨hn,hm,hx⟩:=ho
  have Z1:=Z.cl (.wrap n m x)
  have Z2:=fun f h=>Z.fld (.wrap n m x) (f:=f) h
  have:=Vm hm
  refine⟨a,_,dx,n,rfl,ea,Dy (.wrap n m x),hn,fun H1 S1=>?_⟩
  refine⟨m,rfl,by omega,fun H2 S2=>?_⟩
  rw [hm]
  refine⟨.str x,rfl,⟨x,rfl,hx⟩,fun H3 S3=>⟨rfl,?_⟩⟩
  exact .inl ⟨_,dx,_,(S2.trans S3) _ _ Ad,Z1,Z2 _ (by decide),(show 1<1000 by decide),.inl ⟨_,dx,_,Ad,Z1,Z2 _ (by decide),(show 2<1000 by decide),ae2 k ((((But.of S1).trans But.upd).trans (But.of (S2.trans S3))).trans But.upd) ea⟩⟩
theorem Mb {f:Addr} {fd:ai} (Z:Facts K t) (F:FunD K "__init__" "EditError.__init__" G5 f fd t.dv_zf) (T:Tab P w K mg base 0 (Ax K t) bl):FnOk P w K mg base CX0 1 f fd Zi (a34 K t):=by
 refine F.okW0 cg5 cp3 T (cd9 K t) (fun vs H Q E h=>?_) (fun vs H Q E h=>?_)
 ·obtain⟨H0,a,C,x,y,rfl,_⟩:=h;rfl
 ·obtain⟨H0,a,C,x,y,rfl,ha,rfl,c,n1,n2,k⟩:=h
  refine .inr ⟨C,c,n1,.inl ⟨Ad,fun dx hdx ne=>.inr ⟨C,c,n2,.inr ⟨dx,[("part", x)],ne,Ad,by rw [Ak ne,Ad],(show 1<1000 by decide),?_⟩⟩⟩⟩
  have hd:H0 dx=none:=by rw [Ak ne] at hdx;exact hdx
  refine k _ dx (fun b o h=>?_) ne (by rw [Ak (cz ne),Ad]) Ad
  have b1:b≠dx:=fun z=>by rw [z,hd] at h;cases h
  have b2:b≠a:=fun z=>by rw [z,ha] at h;cases h
  rw [Ak b1,Ak b2,Ak b1,Ak b2]
  exact h
theorem bf7 {f:Addr} {fd:ai} (Z:Facts K t) (F:FunD K "told" "Put.told" Kl f fd .none) (T:Tab P w K mg base 0 (Ax K t) bl):FnOk P w K mg base CX0 1 f fd Ph (am4 K t):=by
 refine F.okW0 bw1 b26 T (bq8 K t) (fun vs H Q E h=>?_) (fun vs H Q E h=>?_)
 ·obtain⟨a,e,rfl,_⟩:=h;rfl
 ·obtain⟨a,e,rfl,hk,⟨dx,ea⟩,k⟩:=h
  cases e <;> first|cases hk;done|skip
  rename_i n kd p r c
  have Z1:=Z.cl (.put n kd p r c)
  have Z2:=fun f h=>Z.fld (.put n kd p r c) (f:=f) h
  exact bR ⟨_,_,_,_,ea,Z1,(Z2 _ (by decide)),rfl,(bR ⟨_,_,_,_,ea,Z1,(Z2 _ (by decide)),rfl,(bR ⟨_,_,_,_,ea,Z1,(Z2 _ (by decide)),rfl,(bR ⟨_,_,_,_,ea,Z1,(Z2 _ (by decide)),rfl,(bR ⟨_,_,_,_,ea,Z1,(Z2 _ (by decide)),rfl,(⟨(show 6<=sizeLine by decide),fun p hp=>k _ p (Same.upd hp) (SqT.of Ad)⟩)⟩)⟩)⟩)⟩)⟩
theorem bf4 {f:Addr} {fd:ai} (Z:Facts K t) (F:FunD K "told" "Cut.told" Ki f fd .none) (T:Tab P w K mg base 0 (Ax K t) bl):FnOk P w K mg base CX0 1 f fd Pe (am1 K t):=by
 refine F.okW0 bv8 b23 T (bq5 K t) (fun vs H Q E h=>?_) (fun vs H Q E h=>?_)
 ·obtain⟨a,e,rfl,_⟩:=h;rfl
 ·obtain⟨a,e,rfl,hk,⟨dx,ea⟩,k⟩:=h
  cases e <;> first|cases hk;done|skip
  rename_i n
  have Z1:=Z.cl (.cut n)
  have Z2:=fun f h=>Z.fld (.cut n) (f:=f) h
  exact bR ⟨_,_,_,_,ea,Z1,(Z2 _ (by decide)),rfl,(⟨(show 2<=sizeLine by decide),fun p hp=>k _ p (Same.upd hp) (SqT.of Ad)⟩)⟩
theorem be1 {f:Addr} {fd:ai} (Z:Facts K t) (F:FunD K "told" "Move.told" J5 f fd .none) (T:Tab P w K mg base 0 (Ax K t) bl):FnOk P w K mg base CX0 1 f fd O1 (al3 K t):=by
 refine F.okW0 bu5 b10 T (bp2 K t) (fun vs H Q E h=>?_) (fun vs H Q E h=>?_)
 ·obtain⟨a,e,rfl,_⟩:=h;rfl
 ·obtain⟨a,e,rfl,hk,⟨dx,ea⟩,k⟩:=h
  cases e <;> first|cases hk;done|skip
  rename_i n p r
  have Z1:=Z.cl (.move n p r)
  have Z2:=fun f h=>Z.fld (.move n p r) (f:=f) h
  exact bR ⟨_,_,_,_,ea,Z1,(Z2 _ (by decide)),rfl,(bR ⟨_,_,_,_,ea,Z1,(Z2 _ (by decide)),rfl,(bR ⟨_,_,_,_,ea,Z1,(Z2 _ (by decide)),rfl,(⟨(show 4<=sizeLine by decide),fun p hp=>k _ p (Same.upd hp) (SqT.of Ad)⟩)⟩)⟩)⟩
theorem be8 {f:Addr} {fd:ai} (Z:Facts K t) (F:FunD K "told" "Wrap.told" Kc f fd .none) (T:Tab P w K mg base 0 (Ax K t) bl):FnOk P w K mg base CX0 1 f fd O8 (am0 K t):=by
 refine F.okW0 bv2 b17 T (bp9 K t) (fun vs H Q E h=>?_) (fun vs H Q E h=>?_)
 ·obtain⟨a,e,rfl,_⟩:=h;rfl
 ·obtain⟨a,e,rfl,hk,⟨dx,ea⟩,k⟩:=h
  cases e <;> first|cases hk;done|skip
  rename_i n m x
  have Z1:=Z.cl (.wrap n m x)
  have Z2:=fun f h=>Z.fld (.wrap n m x) (f:=f) h
  exact bR ⟨_,_,_,_,ea,Z1,(Z2 _ (by decide)),rfl,(bR ⟨_,_,_,_,ea,Z1,(Z2 _ (by decide)),rfl,(bR ⟨_,_,_,_,ea,Z1,(Z2 _ (by decide)),rfl,(⟨(show 4<=sizeLine by decide),fun p hp=>k _ p (Same.upd hp) (SqT.of Ad)⟩)⟩)⟩)⟩
theorem be5 {f:Addr} {fd:ai} (Z:Facts K t) (F:FunD K "about" "Put.about" J9 f fd .none) (T:Tab P w K mg base 0 (Ax K t) bl):FnOk P w K mg base CX0 1 f fd O5 (al7 K t):=by
 refine F.okW0 bu9 b14 T (bp6 K t) (fun vs H Q E h=>?_) (fun vs H Q E h=>?_)
 ·obtain⟨a,e,rfl,_⟩:=h;rfl
 ·obtain⟨a,e,rfl,hk,⟨dx,ea⟩,k⟩:=h
  cases e <;> first|cases hk;done|skip
  rename_i n kd p r c
  exact bR ⟨_,_,_,_,ea,(Z.cl (.put n kd p r c)),(Z.fld (.put n kd p r c) (by decide)),rfl,k⟩
theorem ag3 {f:Addr} {fd:ai} (Z:Facts K t) (F:FunD K "about" "PartEdit.about" Sy f fd .none) (T:Tab P w K mg base 0 (Ax K t) bl):FnOk P w K mg base CX0 1 f fd Zk (a36 K t):=by
 refine F.okW0 cg7 cp5 T (ce1 K t) (fun vs H Q E h=>?_) (fun vs H Q E h=>?_)
 ·obtain⟨a,e,rfl,_⟩:=h;rfl
 ·obtain⟨a,e,rfl,hk,⟨dx,ea⟩,k⟩:=h
  have Z1:=Z.cl e
  have Z2:=fun f h=>Z.fld e (f:=f) h
  cases e with
  | put=>exact absurd rfl hk
  | cut n=>exact bR ⟨_,_,_,_,ea,Z1,(Z2 _ (by decide)),rfl,k⟩
  | move n p r=>exact bR ⟨_,_,_,_,ea,Z1,(Z2 _ (by decide)),rfl,k⟩
  | wrap n m x=>exact bR ⟨_,_,_,_,ea,Z1,(Z2 _ (by decide)),rfl,k⟩
theorem ag1 {f:Addr} {fd:ai} (Z:Facts K t) (F:FunD K "made" "Edit.made" J2 f fd .none) (T:Tab P w K mg base 0 (Ax K t) bl):FnOk P w K mg base CX0 1 f fd Ox (al0 K t):=by
 refine F.okW0 bu1 b06 T (bo8 K t) (fun vs H Q E h=>?_) (fun vs H Q E h=>?_)
 ·obtain⟨s,rfl,_⟩:=h;rfl
 ·obtain⟨s,rfl,k⟩:=h;exact k
theorem bf6 {f:Addr} {fd:ai} (Z:Facts K t) (F:FunD K "made" "Put.made" Kk f fd .none) (T:Tab P w K mg base 0 (Ax K t) bl):FnOk P w K mg base CX0 1 f fd Pg (am3 K t):=by
 refine F.okW0 bw0 b25 T (bq7 K t) (fun vs H Q E h=>?_) (fun vs H Q E h=>?_)
 ·obtain⟨a,e,rfl,_⟩:=h;rfl
 ·obtain⟨a,e,rfl,hk,⟨dx,ea⟩,k⟩:=h
  cases e <;> first|cases hk;done|skip
  rename_i n kd p r c
  exact bR ⟨_,_,_,_,ea,(Z.cl (.put n kd p r c)),(Z.fld (.put n kd p r c) (by decide)),rfl,k⟩
theorem be7 {f:Addr} {fd:ai} (Z:Facts K t) (F:FunD K "made" "Wrap.made" Kb f fd .none) (T:Tab P w K mg base 0 (Ax K t) bl):FnOk P w K mg base CX0 1 f fd O7 (al9 K t):=by
 refine F.okW0 bv1 b16 T (bp8 K t) (fun vs H Q E h=>?_) (fun vs H Q E h=>?_)
 ·obtain⟨a,e,rfl,_⟩:=h;rfl
 ·obtain⟨a,e,rfl,hk,⟨dx,ea⟩,k⟩:=h
  cases e <;> first|cases hk;done|skip
  rename_i n m x
  exact bR ⟨_,_,_,_,ea,(Z.cl (.wrap n m x)),(Z.fld (.wrap n m x) (by decide)),rfl,k⟩
end
theorem aq1 (z:Str):get [] z=none:=rfl
theorem By {z y:Str} {r:Rc} {S:Rs} (e:y=z):get ((y,r)::S) z=some r:=by unfold get;simp [cx,e]
theorem Bq {z y:Str} {r:Rc} {S:Rs} (e:y≠z):get ((y,r)::S) z=get S z:=by unfold get;simp [cx,e]
theorem Hr (z:Str):∀ S:Rs,(S.any fun p=>decide (p.1=z))=has S z
 | []=>rfl
 | (y,r)::S=>by
  unfold has
  rw [cT]
  by_cases e:y=z
  ·rw [By e,decide_eq_true e];rfl
  ·rw [Bq e,decide_eq_false e,gO];exact Hr z S
theorem mem_keys {z:Str}:∀ {S:Rs},z∈keys S ↔ has S z=true
 | []=>by simp [keys,has,get]
 | (y,r)::S=>by
  unfold has
  show z∈y::keys S ↔ _
  by_cases e:y=z
  ·rw [By e];simp [e]
  ·rw [Bq e,av,mem_keys]
   exact⟨fun h=>h.resolve_left (cz e),.inr⟩
theorem Ao {S:Rs} {z:Str} (h:has S z=true):get S z=some (An S z):=by
 unfold has at h
 unfold An
 cases e:get S z with
 | none=>rw [e] at h;cases h
 | some r=>rfl
theorem Bx {S:Rs} {z:Str} {r:Rc} (h:get S z=some r):has S z=true:=by unfold has;rw [h];rfl
theorem G4 {S:Rs} {z:Str} {r:Rc} (h:get S z=some r):An S z=r:=by unfold An;rw [h];rfl
theorem bc8 {S:Rs} {z:Str} (h:has S z=false):get S z=none:=by
 unfold has at h
 cases e:get S z with
 | none=>rfl
 | some r=>rw [e] at h;cases h
section
variable {K:aa} {t:Adr} {H H':Hp}
theorem KvAt.keep (T:TKeep K H H'):∀ {S:Rs} {kvs:List (Key×V)},KvAt K H S kvs->KvAt K H' S kvs
 | [],_,h=>h
 | (z,r)::S,kvs,h=>by
  obtain⟨q,rest,e,h1,h2⟩:=h
  exact⟨q,rest,e,T _ _ h1,h2.keep T⟩
theorem KvAt.val:∀ {S:Rs} {kvs:List (Key×V)},KvAt K H S kvs -> ∀ z,match get S z with
  | none=>A9 kvs (.inr z)=none
  | some r=>∃ q,A9 kvs (.inr z)=some (.ref q)/\SqT K H q (rcV r)
 | [],kvs,h,z=>by rw [show kvs=[] from h];exact an7
 | (y,r)::S,kvs,h,z=>by
  obtain⟨q,rest,rfl,h1,h2⟩:=h
  by_cases e:y=z
  ·rw [By e,Bm (by rw [e])]
   exact⟨q,rfl,h1⟩
  ·rw [Bq e,Bl (fun c=>e (eO c))]
   exact h2.val z
theorem KvAt.some {S:Rs} {kvs:List (Key×V)} (h:KvAt K H S kvs) {z:Str} {r:Rc} (g:get S z=aX r):∃ q,A9 kvs (.inr z)=aX (.ref q)/\SqT K H q (rcV r):=by
 have:=h.val z
 rw [g] at this
 exact this
theorem KvAt.isSome {S:Rs} {kvs:List (Key×V)} (h:KvAt K H S kvs) (z:Str):(A9 kvs (.inr z)).isSome=has S z:=by
 have:=h.val z
 unfold has
 split at this
 ·rename_i e;rw [this,e];rfl
 ·rename_i r e;obtain⟨q,e2,_⟩:=this;rw [e2,e];rfl
theorem KvAt.keys:∀ {S:Rs} {kvs:List (Key×V)},KvAt K H S kvs->kvs.map (·.1)=(keys S).map dO
 | [],kvs,h=>by rw [show kvs=[] from h];rfl
 | (y,r)::S,kvs,h=>by
  obtain⟨q,rest,rfl,_,h2⟩:=h
  show _::_=_::_
  rw [h2.keys]
  rfl
theorem KvAt.len {S:Rs} {kvs:List (Key×V)} (h:KvAt K H S kvs):kvs.length=S.length:=by
 have:=congrArg iU h.keys
 unfold K25.keys at this
 simpa using this
theorem KvAt.app:∀ {S S':Rs} {kvs kvs':List (Key×V)},KvAt K H S kvs->KvAt K H S' kvs'->KvAt K H (S++S') (kvs++kvs')
 | [],_,kvs,_,h,g=>by rw [show kvs=[] from h];exact g
 | (y,r)::S,_,kvs,_,h,g=>by
  obtain⟨q,rest,rfl,h1,h2⟩:=h
  exact⟨q,_,rfl,h1,h2.app g⟩
theorem KvAt.map {z:Str} {r:Rc} {p:Addr} (hp:SqT K H p (rcV r)):∀ {S:Rs} {kvs:List (Key×V)},KvAt K H S kvs->KvAt K H (S.map fun p=>if p.1=z then (p.1,r) else p) (kvs.map fun kv=>if kv.1=.inr z then (kv.1,.ref p) else kv)
 | [],kvs,h=>by rw [show kvs=[] from h];rfl
 | (y,s)::S,kvs,h=>by
  obtain⟨q,rest,rfl,h1,h2⟩:=h
  by_cases e:y=z
  ·subst e
   rw [aM,aM,if_pos rfl,if_pos rfl]
   exact⟨p,_,rfl,hp,h2.map hp⟩
  ·rw [aM,aM,if_neg e,if_neg (fun c=>e (eO c))]
   exact⟨q,_,rfl,h1,h2.map hp⟩
theorem KvAt.put {S:Rs} {kvs:List (Key×V)} (h:KvAt K H S kvs) {z:Str} {r:Rc} {p:Addr} (hp:SqT K H p (rcV r)):KvAt K H (Ci S z r) (C9 kvs (.inr z) (.ref p)):=by
 unfold Ci C9
 rw [Hr,Es,h.isSome]
 by_cases e:has S z=true
 ·rw [if_pos e,if_pos e];exact h.map hp
 ·rw [if_neg e,if_neg e];exact h.app ⟨p,[],rfl,hp,rfl⟩
theorem KvAt.filter {f:Str->Bool} {g:Key->Bool} (fg:∀ z,g (.inr z)=f z):∀ {S:Rs} {kvs:List (Key×V)},KvAt K H S kvs->KvAt K H (S.filter fun p=>f p.1) (kvs.filter fun kv=>g kv.1)
 | [],kvs,h=>by rw [show kvs=[] from h];rfl
 | (y,s)::S,kvs,h=>by
  obtain⟨q,rest,rfl,h1,h2⟩:=h
  have ih:=h2.filter fg
  cases e:f y with
  | true=>rw [dz (by exact e),dz (by show g (.inr y)=true;rw [fg];exact e)];exact⟨q,_,rfl,h1,ih⟩
  | false=>rw [dy (by show ¬ f y=true;rw [e];exact ak),dy (by show ¬ g (.inr y)=true;rw [fg,e];exact ak)];exact ih
theorem But.tk {d:Addr} {kvs:List (Key×V)} (b:But d H H') (e:H d=aX (.dK kvs)):TKeep K H H':=fun a xs q=>by
 rcases q with (q|⟨o,q⟩)|q
 ·exact .inl (.inl (b _ _ (fun z=>by rw [z,e] at q;cases q) q))
 ·exact .inl (.inr ⟨o,b _ _ (fun z=>by rw [z,e] at q;cases q) q⟩)
 ·exact .inr q
theorem RsAt.up {d:Addr} {S:Rs} (h:RsAt K H d S) (T:Same H H'):RsAt K H' d S:=by
 obtain⟨kvs,e,g⟩:=h
 exact⟨kvs,T _ _ e,g.keep (TKeep.of T)⟩
theorem PlAt.up {p d:Addr} {S:Rs} (h:PlAt K t H p d S) (T:Same H H'):PlAt K t H' p d S:=by
 obtain⟨⟨dx,e⟩,g⟩:=h
 exact⟨⟨dx,T _ _ e⟩,g.up T⟩
theorem RsAt.other {d d2:Addr} {S S2:Rs} (h:RsAt K H d S) (h2:RsAt K H d2 S2) (ne:d≠d2) (b:But d2 H H'):RsAt K H' d S:=by
 obtain⟨kvs,e,g⟩:=h
 obtain⟨kvs2,e2,_⟩:=h2
 exact⟨kvs,b _ _ ne e,g.keep (b.tk e2)⟩
theorem PlAt.but {p d:Addr} {S S':Rs} (h:PlAt K t H p d S) (b:But d H H') (h':RsAt K H' d S'):PlAt K t H' p d S':=by
 obtain⟨⟨dx,e⟩,kvs,e2,_⟩:=h
 exact⟨⟨dx,b _ _ (fun z=>by rw [z,e2] at e;cases e) e⟩,h'⟩
end
section
variable {P:aH} {w:bh} {K:aa} {mg:Str->Option Value} {base:Heap} {t:Adr}
theorem bd3 {f:Addr} {fd:ai} (Z:Facts K t) (F:FunD K "__init__" "Plain.__init__" Jv f fd .none) (T:Tab P w K mg base 0 (Ax K t) bl):FnOk P w K mg base CX0 1 f fd Op (ak5 K t):=by
 refine F.okW0 bt4 bz9 T (bo1 K t) (fun vs H Q E h=>?_) (fun vs H Q E h=>?_)
 ·obtain⟨a,dx,rfl,_⟩:=h;rfl
 ·obtain⟨a,dx,rfl,e,k⟩:=h
  intro d hd
  have ne:a≠d:=fun z=>by rw [z,hd] at e;cases e
  exact .inl (.inl ⟨t.c_zcl,dx,[],by rw [Ak ne];exact e,Z.pl,Z.plr,by decide,k d hd⟩)
theorem be3 {f:Addr} {fd:ai} (Z:Facts K t) (F:FunD K "has" "Plain.has" J7 f fd .none) (T:Tab P w K mg base 0 (Ax K t) bl):FnOk P w K mg base CX0 1 f fd O3 (al5 K t):=by
 refine F.okW0 bu7 b12 T (bp4 K t) (fun vs H Q E h=>?_) (fun vs H Q E h=>?_)
 ·obtain⟨p,d,S,z,rfl,_⟩:=h;rfl
 ·obtain⟨p,d,S,z,rfl,⟨⟨dx,e⟩,kvs,ed,g⟩,k⟩:=h
  refine bR ⟨_,_,_,.ref d,e,Z.pl,Z.plr,rfl,.inr ⟨_,.inl ⟨kvs,.inr z,.inl ed,rfl,rfl⟩,?_⟩⟩
  show Q (.bl (A9 kvs (.inr z)).isSome) H
  rw [g.isSome]
  exact k
theorem ca5 {f:Addr} {fd:ai} (Z:Facts K t) (F:FunD K "state" "Plain.state" Tm f fd .none) (T:Tab P w K mg base 2 (Fu K t) bl):FnOk P w K mg base CX0 3 f fd Zz (a47 K t):=by
 refine F.okW0 ci3 cr0 T (cf6 K t) (fun vs H Q E h=>?_) (fun vs H Q E h=>?_)
 ·obtain⟨p,d,S,z,r,rfl,_⟩:=h;rfl
 ·obtain⟨p,d,S,z,r,rfl,⟨⟨dx,e⟩,kvs,ed,g⟩,er,k⟩:=h
  obtain⟨q,eq,hq⟩:=g.some er
  have dg:D9 H d (.str z) (some (.ref q)):=.inl ⟨kvs,.inr z,.inl ed,rfl,eq.symm⟩
  exact bR ⟨_,_,_,.ref d,e,Z.pl,Z.plr,rfl,.inr ⟨_,dg,bR ⟨_,_,_,.ref d,e,Z.pl,Z.plr,rfl,⟨_,dg,k q hq⟩⟩⟩⟩
theorem b96 {f:Addr} {fd:ai} (Z:Facts K t) (F:FunD K "kind_of" "Plain.kind_of" Td f fd .none) (T:Tab P w K mg base 3 (D6 K t) bl):FnOk P w K mg base CX0 4 f fd Zq (a41 K t):=by
 refine F.okW0 ch4 cq1 T (ce7 K t) (fun vs H Q E h=>?_) (fun vs H Q E h=>?_)
 ·obtain⟨p,d,S,z,r,rfl,_⟩:=h;rfl
 ·obtain⟨p,d,S,z,r,rfl,hP,er,k⟩:=h
  obtain⟨dx,e⟩:=hP.1
  exact⟨p,dx,_,⟨t.c_zcl,Qk K t⟩,rfl,.head _,e,rfl,⟨ac _,ac _⟩,⟨p,d,S,z,r,rfl,hP,er,fun q hq=>⟨_,_,.inr hq,rfl,k⟩⟩⟩
theorem b90 {f:Addr} {fd:ai} (Z:Facts K t) (F:FunD K "parent_of" "Plain.parent_of" Sv f fd .none) (T:Tab P w K mg base 3 (D6 K t) bl):FnOk P w K mg base CX0 4 f fd Zg (a32 K t):=by
 refine F.okW0 cg3 cp1 T (cd7 K t) (fun vs H Q E h=>?_) (fun vs H Q E h=>?_)
 ·obtain⟨p,d,S,z,r,rfl,_⟩:=h;rfl
 ·obtain⟨p,d,S,z,r,rfl,hP,er,k⟩:=h
  obtain⟨dx,e⟩:=hP.1
  exact⟨p,dx,_,⟨t.c_zcl,Qk K t⟩,rfl,.head _,e,rfl,⟨ac _,ac _⟩,⟨p,d,S,z,r,rfl,hP,er,fun q hq=>⟨_,_,.inr hq,rfl,k⟩⟩⟩
theorem b97 {f:Addr} {fd:ai} (Z:Facts K t) (F:FunD K "rank_of" "Plain.rank_of" Te f fd .none) (T:Tab P w K mg base 3 (D6 K t) bl):FnOk P w K mg base CX0 4 f fd Zr (a42 K t):=by
 refine F.okW0 ch5 cq2 T (ce8 K t) (fun vs H Q E h=>?_) (fun vs H Q E h=>?_)
 ·obtain⟨p,d,S,z,r,rfl,_⟩:=h;rfl
 ·obtain⟨p,d,S,z,r,rfl,hP,er,k⟩:=h
  obtain⟨dx,e⟩:=hP.1
  exact⟨p,dx,_,⟨t.c_zcl,Qk K t⟩,rfl,.head _,e,rfl,⟨ac _,ac _⟩,⟨p,d,S,z,r,rfl,hP,er,fun q hq=>⟨_,_,.inr hq,rfl,k⟩⟩⟩
theorem b88 {f:Addr} {fd:ai} (Z:Facts K t) (F:FunD K "content_of" "Plain.content_of" Ss f fd .none) (T:Tab P w K mg base 3 (D6 K t) bl):FnOk P w K mg base CX0 4 f fd Ze (a30 K t):=by
 refine F.okW0 cg1 co9 T (cd5 K t) (fun vs H Q E h=>?_) (fun vs H Q E h=>?_)
 ·obtain⟨p,d,S,z,r,rfl,_⟩:=h;rfl
 ·obtain⟨p,d,S,z,r,rfl,hP,er,k⟩:=h
  obtain⟨dx,e⟩:=hP.1
  exact⟨p,dx,_,⟨t.c_zcl,Qk K t⟩,rfl,.head _,e,rfl,⟨ac _,ac _⟩,⟨p,d,S,z,r,rfl,hP,er,fun q hq=>⟨_,_,.inr hq,rfl,k⟩⟩⟩
theorem ca4 {f:Addr} {fd:ai} (Z:Facts K t) (F:FunD K "names" "Plain.names" Tl f fd .none) (T:Tab P w K mg base 0 (Ax K t) bl):FnOk P w K mg base CX0 1 f fd Zy (a46 K t):=by
 refine F.okW0 ci2 cq9 T (cf5 K t) (fun vs H Q E h=>?_) (fun vs H Q E h=>?_)
 ·obtain⟨p,d,S,rfl,_⟩:=h;rfl
 ·obtain⟨p,d,S,rfl,⟨⟨dx,e⟩,kvs,ed,g⟩,T,k⟩:=h
  have l:(keys S).length<=8:=by unfold keys;rw [aj];exact T.few
  exact bR ⟨_,_,_,.ref d,e,Z.pl,Z.plr,rfl,.inr ⟨rfl,d,keys S,rfl,.inr ⟨kvs,.inl ed,g.keys⟩,T.nd,by omega,k⟩⟩
theorem be4 {f:Addr} {fd:ai} (Z:Facts K t) (F:FunD K "lay" "Plain.lay" J8 f fd .none) (T:Tab P w K mg base 0 (Ax K t) bl):FnOk P w K mg base CX0 1 f fd O4 (al6 K t):=by
 refine F.okW0 bu8 b13 T (bp5 K t) (fun vs H Q E h=>?_) (fun vs H Q E h=>?_)
 ·obtain⟨p,d,S,z,r,rfl,_⟩:=h;rfl
 ·obtain⟨p,d,S,z,r,rfl,⟨⟨dx,e⟩,kvs,ed,g⟩,hl,k⟩:=h
  refine⟨(show 4<=sizeLine by decide),fun q hq=>?_⟩
  have n1:p≠q:=fun z=>by rw [z,hq] at e;cases e
  have n2:d≠q:=fun z=>by rw [z,hq] at ed;cases ed
  refine bR ⟨_,_,_,.ref d,(by rw [Ak n1];exact e),Z.pl,Z.plr,rfl,⟨_,DPut.k (k:=.inr z) (by rw [Ak n2];exact ed) (by rw [g.len];exact ij hl (by decide)),?_⟩⟩
  have ed2:upd H q (.tup (rcV r)) d=some (.dK kvs):=by rw [Ak n2];exact ed
  have B:But d (upd H q (.tup (rcV r))) (upd (upd H q (.tup (rcV r))) d (.dK (C9 kvs (.inr z) (.ref q)))):=But.upd
  refine k _ ((But.of (Same.upd hq)).trans B) ⟨_,Ad,(KvAt.put (g.keep (TKeep.of (Same.upd hq))) (SqT.of Ad)).keep (B.tk ed2)⟩
theorem b89 {f:Addr} {fd:ai} (Z:Facts K t) (F:FunD K "need_place" "Plain.need_place" Su f fd .none) (T:Tab P w K mg base 2 (Fu K t) bl):FnOk P w K mg base CX0 3 f fd Zf (a31 K t):=by
 refine F.okW0 cg2 cp0 T (cd6 K t) (fun vs H Q E h=>?_) (fun vs H Q E h=>?_)
 ·obtain⟨p,d,S,z,rfl,_⟩:=h;rfl
 ·obtain⟨p,d,S,z,rfl,⟨⟨dx,e⟩,kvs,ed,g⟩,hz,k⟩:=h
  refine Bo (c:=(!decide (z = ""))=true) (fun n=>?_) (fun n=>?_)
  ·have n:z ≠ "" := by simpa using n
   have hz:=hz.resolve_left n
   refine bR ⟨_,_,_,.ref d,e,Z.pl,Z.plr,rfl,.inr ⟨_,.inl ⟨kvs,.inr z,.inl ed,rfl,rfl⟩,?_⟩⟩
   show if (!(A9 kvs (.inr z)).isSome)=true then _ else _
   rw [g.isSome,hz]
   exact k
  ·exact k
theorem a17 {f:Addr} {fd:ai} (Z:Facts K t) (F:FunD K "place_key" "Plain.place_key" Sw f fd .none) (T:Tab P w K mg base 4 (Fv K t) bl):FnOk P w K mg base CX0 5 f fd Zh (a33 K t):=by
 refine F.okW0 cg4 cp2 T (cd8 K t) (fun vs H Q E h=>?_) (fun vs H Q E h=>?_)
 ·obtain⟨p,d,S,z,rfl,_⟩:=h;rfl
 ·obtain⟨p,d,S,z,rfl,hP,hz,k⟩:=h
  obtain⟨dx,e⟩:=hP.1
  exact⟨p,dx,_,⟨t.c_zcl,aq4 K t⟩,rfl,.head _,e,rfl,⟨ac _,ac _⟩,⟨p,d,S,z,An S z,rfl,hP,Ao hz,⟨(show 2<=sizeLine by decide),fun q hq=>k q hq⟩⟩⟩
theorem bh4 {f:Addr} {fd:ai} (Z:Facts K t) (F:FunD K "place" "place" K2 f fd .none) (T:Tab P w K mg base 4 (Fv K t) bl):FnOk P w K mg base CX0 5 f fd P1 (Oa K t):=by
 refine F.okW0 bx9 b44 T (bs6 K t) (fun vs H Q E h=>?_) (fun vs H Q E h=>?_)
 ·obtain⟨p,d,S,n,q,r,rfl,_⟩:=h;rfl
 ·obtain⟨p,d,S,n,q,r,rfl,hP,hl,hn,k⟩:=h
  obtain⟨dx,e⟩:=hP.1
  have g:=Ao hn
  exact⟨p,dx,_,⟨t.c_zcl,Qi K t⟩,rfl,.head _,e,rfl,⟨ac _,ac _⟩,p,dx,_,⟨t.c_zcl,ae0 K t⟩,rfl,.head _,e,rfl,⟨ac _,ac _⟩,⟨p,d,S,n,_,rfl,hP,g,
   ⟨p,dx,_,⟨t.c_zcl,bb0 K t⟩,rfl,.head _,e,rfl,⟨ac _,ac _⟩,⟨p,d,S,n,_,rfl,hP,g,⟨p,d,S,n,⟨(An S n).kd,q,r,(An S n).ct⟩,rfl,hP,hl,k⟩⟩⟩⟩⟩
end
end K25
set_option maxHeartbeats 2000000
namespace K25
open PySem L2
theorem bs8 {n i:Nat} {x:V} (h:(Nv 0 n)[i]? = some x):i<n/\x=.int (i:Int):=by
 have hi:i<n:=by
  have:=(List.getElem?_eq_some_iff.mp h).1
  rw [Ch] at this
  exact this
 rw [Gh hi] at h
 have:=aN h
 rw [Int.zero_add] at this
 exact⟨hi,this.symm⟩
theorem cr8 {c1 c2 c3:Bool} {A B:Prop} (a:A) (b:B):if c1=true then (if c2=true then (if c3=true then A else B) else (if false=true then A else B)) else (if false=true then A else B):=by
 cases c1 <;> cases c2 <;> cases c3 <;> first|exact Hk (Hk b)|exact Hk b|exact M8 (Hk (Hk b))|exact M8 (M8 (Hk b))|exact M8 (M8 (M8 a))
theorem atM {α:Type} {xs:List α} (c:Int) (m:Int) (hm:(xs.length:Int)=m) (h:0<m):∃ v,v∈xs/\atI xs (c % m)=some v:=by
 have h1:=dY c (show m≠0 by omega)
 have h2:=cS c h
 have hl:(c % m).toNat<xs.length:=by omega
 refine⟨xs[(c % m).toNat],dI hl,?_⟩
 unfold atI ixN
 have a1:¬ (c % m<0):=by omega
 have a2:c % m<(xs.length:Int):=by omega
 simp [a1,a2]
 rw [if_pos h1]
 exact au hl
noncomputable def alpha:Str := "abcdefghijklmnopqrstuvwxyz0123456789."
theorem ao8:∀ c,c<128->decide (c∈alpha.cps.toList)=En c:=by decide +kernel
theorem ao7:∀ c∈alpha.cps.toList,c<128:=by decide +kernel
theorem Z5 (c:Nat):decide (c∈alpha.cps.toList)=En c:=by
 by_cases h:c<128
 ·exact ao8 c h
 ·rw [decide_eq_false (fun hc=>h (ao7 c hc))]
  unfold En Ez Wq
  symm
  simp
  omega
theorem M9 (l:List Nat):Txt.join (d7 "") (l.map fun k=>(⟨#[k]⟩:Str))=⟨l.toArray⟩:=by
 show Builtin.Str.glued (d7 "") _=_
 rw [StrLaws.glued_eq_join,show d7 "" = (⟨#[]⟩:Str) from by decide +kernel]
 exact PyProof.Rows.join_ones l
theorem K4 {l:List Nat} {n:Int} (h0:0<=n) (h:n.toNat<=l.length):jO ⟨l.toArray⟩ none (some n)=⟨(l.take n.toNat).toArray⟩:=by
 have e:=bS (PyProof.Rows.slice_closes_to (x:=⟨l.toArray⟩) (j:=n) ⟨h0,by show n<=(l.length:Int);omega⟩)
 rw [e,Int.sub_zero]
 rfl
theorem Tt {l:List Nat} {n:Int} (h0:0<=n) (h:n.toNat<=l.length):jO ⟨l.toArray⟩ (some n) none=⟨(l.drop n.toNat).toArray⟩:=by
 have e:=bS (PyProof.Rows.slice_closes_from (x:=⟨l.toArray⟩) (i:=n) ⟨h0,by show n<=(l.length:Int);omega⟩)
 rw [e]
 show (⟨((l.drop n.toNat).take ((l.length:Int) - n).toNat).toArray⟩:Str)=_
 rw [List.take_of_length_le (by rw [dJ];omega)]
theorem a16 {l:List Nat} (h1:1<=l.length) (h2:l.length<=12) (a:∀ c∈l,En c=true):nmB ⟨l.toArray⟩=true:=by
 unfold nmB Gw
 have e:(⟨l.toArray⟩:Str).length=l.length:=by simp [jq]
 rw [e,decide_eq_true h1,decide_eq_true h2,eW,eW]
 refine List.all_eq_true.mpr fun c hc=>a c ?_
 simpa using hc
theorem Mq (l m:List Nat):(⟨l.toArray⟩:Str)++⟨m.toArray⟩=⟨(l++m).toArray⟩:=by
 show (⟨l.toArray++m.toArray⟩:Str)=_
 simp
theorem Ii (c:Nat) (l:List Nat):(⟨#[c]⟩:Str)++⟨l.toArray⟩=⟨(c::l).toArray⟩:=Mq [c] l
theorem Nb (l:List Nat):(⟨l.toArray⟩:Str).length=l.length:=by simp [jq]
theorem av1 {n i:Nat} {x:V} (h:(Nv 1 n)[i]? = some x):i<n/\x=.int (1+(i:Int)):=by
 have hi:i<n:=by
  have:=(List.getElem?_eq_some_iff.mp h).1
  rw [Ch] at this
  exact this
 rw [Gh hi] at h
 exact⟨hi,(aN h).symm⟩
theorem We:alpha.cps.toList.length=37:=by decide +kernel
theorem Fi:alpha.length<=sizeLine:=by decide +kernel
theorem Fh (i:Int):∃ c,En c=true/\atI alpha.cps.toList (i % 37)=some c:=by
 obtain⟨c,hc,e⟩:=atM (xs:=alpha.cps.toList) i 37 (by rw [We];rfl) (by decide)
 exact⟨c,by rw [<- Z5];exact decide_eq_true hc,e⟩
noncomputable def someN:List Str:=["chapter", "put", "para", "table", "top", "cut", "wrap", "move", "write", "none", "cell", "0"]
theorem av8:∀ z∈someN,nmB z=true:=by decide +kernel
theorem am9 (cs:List Nat):((cs.map fun c=>(⟨#[c]⟩:Str)).map (·.length)).sum=cs.length:=by
 induction cs with
 | nil=>rfl
 | cons c cs ih=>
  rw [aM,aM,List.sum_cons,ih,aE]
  show 1+cs.length=cs.length+1
  omega
section
variable {P:aH} {w:bh} {K:aa} {mg:Str->Option Value} {base:Heap} {t:Adr}
theorem bf9 {f:Addr} {fd:ai} (Z:Facts K t) (F:FunD K "_law_cell" "_law_cell" Kn f fd .none) (T:Tab P w K mg base 0 (Ax K t) bl):FnOk P w K mg base CX0 1 f fd Pj (Ua K t):=by
 refine F.okW0 bw3 b28 T (br0 K t) (fun vs H Q E h=>?_) (fun vs H Q E h=>?_)
 ·obtain⟨a,ns,k,rfl,_⟩:=h;rfl
 ·obtain⟨a,ns,k,rfl,hS,q⟩:=h
  refine .inl ⟨_,.inl hS,Bo (fun hlt=>?_) (fun _=>⟨.inr ⟨by decide,by decide⟩,q _⟩)⟩
  have hlt:(k:Int)<((ns.map V.int).length:Int):=of_decide_eq_true hlt
  have hk:k<ns.length:=by rw [aj] at hlt;omega
  refine⟨_,.int ns[k],.inl hS,?_,q _⟩
  exact Z6 (by rw [aP,au hk];rfl)
theorem bd9 {f:Addr} {fd:ai} (Z:Facts K t) (F:FunD K "_law_stream" "_law_stream" J1 f fd .none) (T:Tab P w K mg base 0 (Ax K t) bl):FnOk P w K mg base CX0 1 f fd Ow (Tv K t):=by
 refine F.okW0 bu0 b05 T (bo7 K t) (fun vs H Q E h=>?_) (fun vs H Q E h=>?_)
 ·obtain⟨c,n,rfl,_⟩:=h;rfl
 ·obtain⟨c,n,rfl,hn,k⟩:=h
  refine⟨by decide,fun l hl=>⟨⟨by decide,by decide⟩,by decide,⟨by omega,by omega⟩,?_⟩⟩
  rw [Int.toNat_natCast]
  have m1:=dY c (show (2147483629:Int)≠0 by decide)
  have m2:=cS c (show (0:Int)<2147483629 by decide)
  refine Fb (K9 0 n) (fun i σ H'=>(∃ left num v,σ=[some (.int c),some (.int n),some (.ref l),some (.int left),some (.int num),v]/\0<=num/\num<4294967296)/\Same H H' /\ ∃ ns:List Int,ns.length=i/\H' l=some (.lst (ns.map V.int)) /\ ∀ z∈ns,0<=z/\z<2147483648)
   ⟨⟨_,_,_,rfl,by omega,by omega⟩,Same.upd hl,[],rfl,Ad,(fun z hz=>by cases hz)⟩ (fun _ _ _ _ _=>bv) ?_ ?_
  ·rintro i x σ H' hx ⟨⟨left,num,v,rfl,u1,u2⟩,S,ns,e1,e2,e3⟩
   obtain⟨hi,rfl⟩:=bs8 hx
   refine⟨.inr ⟨by decide,by decide⟩,.inl ⟨by decide,by decide⟩,by decide,by decide,?_⟩
   have w1:=dY (num * 48271+7919 * (i:Int)+1) (show (2147483647:Int)≠0 by decide)
   have w2:=cS (num * 48271+7919 * (i:Int)+1) (show (0:Int)<2147483647 by decide)
   generalize (num * 48271+7919 * (i:Int)+1) % 2147483647=nu at w1 w2 ⊢
   have put:∀ y:Int,0<=y->y<2147483648->Same H (upd H' l (.lst (ns.map V.int++[.int y]))) /\ ∃ ns2:List Int,ns2.length=i+1/\upd H' l (.lst (ns.map V.int++[.int y])) l=some (.lst (ns2.map V.int)) /\ ∀ z∈ns2,0<=z/\z<2147483648:=fun y y1 y2=>
    ⟨S.set hl,ns++[y],by rw [ay,e1];rfl,by rw [Ad,bw];rfl,fun z hz=>by
     rcases List.mem_append.mp hz with h|h
     ·exact e3 z h
     ·have:z=y:=by simpa using h
      subst this;exact⟨y1,y2⟩⟩
   have hsz:(ns.map V.int).length<sizeLine:=by rw [aj,e1];exact aI (show i<100 by omega) (by decide)
   refine cr8 ?_ ?_
   ·have y1:=dY left (show (268435456:Int)≠0 by decide)
    have y2:=cS left (show (0:Int)<268435456 by decide)
    exact⟨.inl ⟨rfl,_,SqL.of e2⟩,by decide,l,_,_,rfl,rfl,e2,hsz,⟨by decide,by decide⟩,⟨_,_,_,rfl,by omega,by omega⟩,put _ y1 (by omega)⟩
   ·have y1:=dY (nu * nu % 2147483629 * 16807+(i:Int)) (show (2147483587:Int)≠0 by decide)
    have y2:=cS (nu * nu % 2147483629 * 16807+(i:Int)) (show (0:Int)<2147483587 by decide)
    exact⟨.inl ⟨rfl,_,SqL.of e2⟩,.inl ⟨by omega,by omega⟩,by decide,.inr ⟨by decide,by decide⟩,by decide,⟨by decide,by decide⟩,l,_,_,rfl,rfl,e2,hsz,⟨_,_,_,rfl,by omega,by omega⟩,put _ (by omega) (by omega)⟩
  ·rintro σ H' ⟨⟨left,num,v,rfl,_⟩,S,ns,e1,e2,e3⟩
   rw [Ch] at e1
   exact .inl (k _ l ns S hl e2 e1 e3)
theorem bg4 {f:Addr} {fd:ai} (Z:Facts K t) (F:FunD K "_law_name" "_law_name" Ks f fd .none) (T:Tab P w K mg base 0 (Ax K t) bl):FnOk P w K mg base CX0 1 f fd Po (Ue K t):=by
 refine F.okW0 bw8 b33 T (br5 K t) (fun vs H Q E h=>?_) (fun vs H Q E h=>?_)
 ·obtain⟨c,n,rfl,_⟩:=h;rfl
 ·obtain⟨c,n,rfl,hn,k⟩:=h
  refine⟨(show 12<=sizeLine by decide),fun l hl=>?_⟩
  have S1:=Same.upd (o:=.lst (someN.map V.str)) hl
  have el:upd H l (.lst (someN.map V.str)) l=some (.lst (someN.map V.str)):=Ad
  refine⟨by decide,Bo (fun e4=>?_) (fun e4=>?_)⟩
  ·obtain⟨v,hv,ev⟩:=atM (xs:=someN.map V.str) ((n:Int)+c / 5) 12 rfl (by decide)
   obtain⟨z,hz,rfl⟩:=List.mem_map.mp hv
   exact⟨⟨by decide,by decide⟩,by decide,_,_,.inl (SqL.of el),ev,k z _ S1 (av8 z hz)⟩
  ·refine⟨rfl,⟨by decide,by decide,by decide,by decide⟩,fun D hD=>?_⟩
   refine Ih (K9 1 11) (fun j σ' H'=>(∃ v,σ'=[v,some (.int c),some (.str alpha)])/\Same (upd H l (.lst (someN.map V.str))) H' /\ ∃ cs:List Nat,cs.length=j/\(∀ x∈cs,En x=true)/\H' D=some (.lst ((cs.map fun c=>(⟨#[c]⟩:Str)).map V.str))) ⟨⟨_,rfl⟩,Same.upd hD,[],rfl,(fun x hx=>by cases hx),Ad⟩ (fun _ _ _ _ _=>bv) ?_ ?_
   ·rintro j x σ' H5 hxj ⟨⟨v,rfl⟩,S5,cs,e1,e2,e3⟩
    obtain⟨hj,rfl⟩:=av1 hxj
    obtain⟨ch,hch,ec⟩:=Fh (c / 37+7 * (1+(j:Int)) * (1+(j:Int)))
    refine⟨⟨by decide,by decide⟩,.inl ⟨by decide,by decide⟩,.inr ⟨by omega,by omega⟩,by decide,Fi,ch,ec,?_⟩
    refine⟨_,e3,?_,⟨_,rfl⟩,S5.set hD,cs++[ch],by rw [ay,e1];rfl,fun y hy=>?_,by rw [Ad,bw,bw];rfl⟩
    ·rw [aj,aj,e1];exact aI (show j<11 by omega) (by decide)
    ·rcases List.mem_append.mp hy with q|q
     ·exact e2 y q
     ·have:y=ch:=by simpa using q
      subst this;exact hch
   ·rintro σ' H5 ⟨_,S5,cs,e1,e2,e3⟩
    rw [Ch] at e1
    refine⟨"", D,cs.map fun c=>(⟨#[c]⟩:Str),rfl,rfl,SqL.of e3,?_,?_⟩
    ·rw [am9,aj,e1];decide +kernel
    rw [M9]
    have S15:=S1.trans S5
    refine⟨by decide,Bo (fun e5=>?_) (fun e5=>?_)⟩
    ·obtain⟨ch,hch,ec⟩:=Fh (c / 5+(n:Int) / 12)
     refine⟨⟨by decide,by decide⟩,⟨by decide,by decide⟩,by decide,Fi,ch,ec,by decide,?_⟩
     have m1:0<=(n:Int) % 12/\(n:Int) % 12<12:=by omega
     refine⟨by rw [Nb,e1];decide,?_⟩
     rw [K4 m1.1 (by omega)]
     refine⟨?_,k _ _ S15 ?_⟩
     ·show 1+(⟨(cs.take ((n:Int) % 12).toNat).toArray⟩:Str).length<=sizeLine
      rw [Nb,bI]
      exact aR (show 1+_<=100 by omega) (by decide)
     ·rw [Ii]
      refine a16 (by simp) (by simp;omega) fun x hx=>?_
      rcases List.mem_cons.mp hx with rfl|hx
      ·exact hch
      ·exact e2 x (eA hx)
    ·have big:100<=sizeLine:=by decide
     have hs:1<=1+c / 5 % 12/\1+c / 5 % 12<=12:=by omega
     refine⟨⟨by decide,by decide⟩,by decide,⟨by decide,by decide⟩,by omega,?_⟩
     have ha1:=dY (c / 60) (show 1+c / 5 % 12≠0 by omega)
     have ha2:=cS (c / 60) (show 0<1+c / 5 % 12 by omega)
     obtain⟨ch,hch,ec⟩:=Fh (c / 720)
     obtain⟨ch2,hch2,ec2⟩:=Fh (c / 26640+(n:Int))
     refine⟨⟨by decide,by decide⟩,by decide,Fi,ch,ec,?_⟩
     refine⟨by show 1+(⟨cs.toArray⟩:Str).length<=sizeLine;rw [Nb,e1];omega,by rw [Ii,Nb,aE,e1];omega,?_⟩
     generalize 1+c / 5 % 12=sz at hs ha1 ha2 ⊢
     generalize c / 60 % sz=at_ at ha1 ha2 ⊢
     rw [Ii,K4 (l:=ch::cs) (n:=sz) (by omega) (by rw [aE];omega)]
     have lB:((ch::cs).take sz.toNat).length=sz.toNat:=by rw [bI,aE,e1];omega
     have aB:∀ x∈(ch::cs).take sz.toNat,En x=true:=fun x hx=>by
      rcases List.mem_cons.mp (eA hx) with rfl|hx
      ·exact hch
      ·exact e2 x hx
     generalize (ch::cs).take sz.toNat=B at lB aB ⊢
     refine⟨by rw [Nb,lB];omega,?_⟩
     rw [K4 (l:=B) (n:=at_) ha1 (by omega)]
     refine⟨⟨by decide,by decide⟩,by decide,Fi,ch2,ec2,by rw [Nb,bI];show _+1<=_;omega,by rw [Nb,lB];omega,?_⟩
     rw [Tt (l:=B) (n:=at_+1) (by omega) (by omega)]
     have e7:(⟨(B.take at_.toNat).toArray⟩:Str)++⟨#[ch2]⟩=⟨(B.take at_.toNat++[ch2]).toArray⟩:=Mq _ [ch2]
     rw [e7]
     refine⟨by rw [Nb,Nb,ay,bI,dJ];show _+1+_<=_;omega,k _ _ S15 ?_⟩
     rw [Mq]
     refine a16 ?_ ?_ fun x hx=>?_
     ·rw [ay,ay,bI,dJ];show 1<=_+1+_;omega
     ·rw [ay,ay,bI,dJ];show _+1+_<=12;omega
     ·rcases List.mem_append.mp hx with hx|hx
      ·rcases List.mem_append.mp hx with hx|hx
       ·exact aB x (eA hx)
       ·have:x=ch2:=by simpa using hx
        subst this;exact hch2
      ·exact aB x (iF hx)
end
end K25
set_option maxHeartbeats 400000
namespace K25
open PySem L2
theorem cs9:a58 10 9:=⟨by decide,by decide,by decide +kernel⟩
section
variable {P:aH} {w:bh} {K:aa} {mg:Str->Option Value} {base:Heap} {t:Adr}
theorem bf2 {f:Addr} {fd:ai} (Z:Facts K t) (F:FunD K "_law_about" "_law_about" Kg f fd .none) (T:Tab P w K mg base 0 (Ax K t) bl):FnOk P w K mg base CX0 1 f fd Pc (N4 K t):=by
 refine F.okW0 bv6 b21 T (bq3 K t) (fun vs H Q E h=>?_) (fun vs H Q E h=>?_)
 ·obtain⟨p,e,rfl,_⟩:=h;rfl
 ·obtain⟨p,e,rfl,q,k⟩:=h
  cases e with
  | put n kd p r c=>exact⟨_,_,.inr q,rfl,⟨_,_,.inr q,rfl,k⟩⟩
  | cut n=>exact⟨_,_,.inr q,rfl,⟨_,_,.inr q,rfl,k⟩⟩
  | move n p r=>exact⟨_,_,.inr q,rfl,⟨_,_,.inr q,rfl,k⟩⟩
  | wrap n m x=>exact⟨_,_,.inr q,rfl,⟨_,_,.inr q,rfl,k⟩⟩
theorem bf3 {f:Addr} {fd:ai} (Z:Facts K t) (F:FunD K "_law_makes" "_law_makes" Kh f fd .none) (T:Tab P w K mg base 0 (Ax K t) bl):FnOk P w K mg base CX0 1 f fd Pd (K5 K t):=by
 refine F.okW0 bv7 b22 T (bq4 K t) (fun vs H Q E h=>?_) (fun vs H Q E h=>?_)
 ·obtain⟨p,e,rfl,_⟩:=h;rfl
 ·obtain⟨p,e,rfl,q,k⟩:=h
  cases e with
  | put n kd p r c=>exact⟨_,_,.inr q,rfl,⟨_,_,.inr q,rfl,k⟩⟩
  | cut n=>exact⟨_,_,.inr q,rfl,⟨_,_,.inr q,rfl,k⟩⟩
  | move n p r=>exact⟨_,_,.inr q,rfl,⟨_,_,.inr q,rfl,k⟩⟩
  | wrap n m x=>exact⟨_,_,.inr q,rfl,⟨_,_,.inr q,rfl,⟨_,_,.inr q,rfl,k⟩⟩⟩
theorem Nd {H H':Hp} {e:Ed} {a dx:Addr} {Q:VK} (k:∀ H' a,Same H H'->EdAt t H' e a->Q (.ref a) H') (ha:H a=none) (hd:H dx=none) (S:Same (upd (upd H dx (.own a)) a (.ins (edC t e) dx [])) H'):Q (.ref a) (upd H' a (.ins (edC t e) dx (edF e))):=
 k _ a (((Hv ha hd).trans S).set ha) ⟨dx,Ad⟩
theorem bg3 {f:Addr} {fd:ai} (Z:Facts K t) (F:FunD K "_law_made" "_law_made" Kr f fd .none) (T:Tab P w K mg base 7 (Ws K t) bl):FnOk P w K mg base CX0 8 f fd Pn (Ud K t):=by
 refine F.okW0 bw7 b32 T (br4 K t) (fun vs H Q E h=>?_) (fun vs H Q E h=>?_)
 ·obtain⟨p,e,rfl,_⟩:=h;rfl
 ·obtain⟨p,e,rfl,q,ho,k⟩:=h
  cases e with
  | put n kd p r c=>
   exact⟨_,_,.inr q,rfl,⟨_,_,.inr q,rfl,_,_,.inr q,rfl,_,_,.inr q,rfl,_,_,.inr q,rfl,_,_,.inr q,rfl,fun a dx ha hd ne=>⟨a,dx,.put n kd p r c,rfl,rfl,Ad,ho,fun H' S=>⟨rfl,Nd k ha hd S⟩⟩⟩⟩
  | cut n=>
   exact⟨_,_,.inr q,rfl,⟨_,_,.inr q,rfl,⟨_,_,.inr q,rfl,fun a dx ha hd ne=>⟨a,_,dx,n,rfl,Ad,Dy (.cut n),ho,fun H' S=>⟨rfl,Nd (e:=.cut n) k ha hd S⟩⟩⟩⟩⟩
  | move n p r=>
   exact⟨_,_,.inr q,rfl,⟨_,_,.inr q,rfl,⟨_,_,.inr q,rfl,⟨_,_,.inr q,rfl,_,_,.inr q,rfl,_,_,.inr q,rfl,fun a dx ha hd ne=>⟨a,dx,.move n p r,rfl,rfl,Ad,ho,fun H' S=>⟨rfl,Nd k ha hd S⟩⟩⟩⟩⟩⟩
  | wrap n m x=>
   exact⟨_,_,.inr q,rfl,⟨_,_,.inr q,rfl,⟨_,_,.inr q,rfl,⟨_,_,.inr q,rfl,_,_,.inr q,rfl,_,_,.inr q,rfl,fun a dx ha hd ne=>⟨a,dx,.wrap n m x,rfl,rfl,Ad,ho,fun H' S=>⟨rfl,Nd k ha hd S⟩⟩⟩⟩⟩⟩
theorem bg0 {f:Addr} {fd:ai} (Z:Facts K t) (F:FunD K "_law_deed" "_law_deed" Ko f fd .none) (T:Tab P w K mg base 1 (D5 K t) bl):FnOk P w K mg base CX0 2 f fd Pk (Ub K t):=by
 refine F.okW0 bw4 b29 T (br1 K t) (fun vs H Q E h=>?_) (fun vs H Q E h=>?_)
 ·obtain⟨l,c,ps,rfl,_⟩:=h;rfl
 ·obtain⟨l,c,ps,rfl,el,l8,hp,k⟩:=h
  refine⟨c,6,rfl,by decide,fun H1 x ns S1 _ ex en eb=>?_⟩
  match ns,en with
  | [n0,n1,n2,n3,n4,n5],_=>
   have q:SqL K H1 x [.int n0,.int n1,.int n2,.int n3,.int n4,.int n5]:=SqL.of ex
   have el1:=S1 _ _ el
   have ql:SqL K H1 l (ps.map V.str):=SqL.of el1
   have pick:∀ y:Int,∃ z,z∈ps/\atI (ps.map V.str) (y % 8)=some (.str z):=fun y=>by
    obtain⟨v,hv,ev⟩:=atM (xs:=ps.map V.str) y 8 (by rw [aj,l8];rfl) (by decide)
    obtain⟨z,hz,rfl⟩:=List.mem_map.mp hv
    exact⟨z,hz,ev⟩
   obtain⟨z3,hz3,ev3⟩:=pick n1
   obtain⟨z5,hz5,ev5⟩:=pick n5
   clear eb
   refine⟨_,_,.inl q,rfl,by decide,_,_,.inl ql,ev3,?_⟩
   refine⟨(show 2<=sizeLine by decide),fun p4 hp4=>?_⟩
   have S2:=Same.upd (o:=.lst [.str "", .str ""]) hp4
   have e4:upd H1 p4 (.lst [.str "", .str ""]) p4=some (.lst [.str "", .str ""]):=Ad
   generalize upd H1 p4 (.lst [.str "", .str ""])=H2 at S2 e4 ⊢
   refine .inl ⟨l,p4,_,_,rfl,rfl,S2 _ _ el1,e4,by rw [aj,l8];decide,fun p5 hp5=>?_⟩
   have S3:=S2.trans (Same.upd (o:=.lst (ps.map V.str++[.str "", .str ""])) hp5)
   have e5:upd H2 p5 (.lst (ps.map V.str++[.str "", .str ""])) p5=some (.lst (ps.map V.str++[.str "", .str ""])):=Ad
   generalize upd H2 p5 (.lst (ps.map V.str++[.str "", .str ""]))=H3 at S3 e5 ⊢
   obtain⟨v4,hv4,ev4⟩:=atM (xs:=ps.map V.str++[.str "", .str ""]) n2 10 (by rw [ay,aj,l8];rfl) (by decide)
   obtain⟨z4,rfl,hz4⟩:∃ z,v4=.str z/\prS z:=by
    rcases List.mem_append.mp hv4 with h|h
    ·obtain⟨z,hz,rfl⟩:=List.mem_map.mp h
     exact⟨z,rfl,.inr (hp z hz)⟩
    ·simp only [av,aO,or_false] at h
     rcases h with rfl|rfl
     ·exact⟨"", rfl,.inl rfl⟩
     ·exact⟨"", rfl,.inl rfl⟩
   have q3:=S3.seqL q
   refine⟨_,_,.inl q3,rfl,by decide,_,_,.inl (SqL.of e5),ev4,?_⟩
   refine⟨_,_,.inl q3,rfl,⟨by decide,by decide⟩,by decide,_,_,.inl q3,rfl,⟨by decide,by decide⟩,by decide,_,_,.inl q3,rfl,⟨by decide,by decide⟩,cs9,by decide,(show 4<=sizeLine by decide),fun p6 hp6=>?_⟩
   have S4:=S3.trans (Same.upd (o:=.lst [.int 0,.int (n3 / 4 % 3),.int (n3 / 4 % 3),.int (n3 / 4 % (10 ^ ie 9+1))]) hp6)
   have e6:upd H3 p6 (.lst [.int 0,.int (n3 / 4 % 3),.int (n3 / 4 % 3),.int (n3 / 4 % (10 ^ ie 9+1))]) p6=some (.lst [.int 0,.int (n3 / 4 % 3),.int (n3 / 4 % 3),.int (n3 / 4 % (10 ^ ie 9+1))]):=Ad
   generalize upd H3 p6 (.lst [.int 0,.int (n3 / 4 % 3),.int (n3 / 4 % 3),.int (n3 / 4 % (10 ^ ie 9+1))])=H4 at S4 e6 ⊢
   obtain⟨v5,hv5,ev5'⟩:=atM (xs:=[V.int 0,.int (n3 / 4 % 3),.int (n3 / 4 % 3),.int (n3 / 4 % (10 ^ ie 9+1))]) n3 4 rfl (by decide)
   obtain⟨r5,rfl,hr5⟩:∃ r,v5=.int r/\rkI r:=by
    simp only [av,aO,or_false] at hv5
    rcases hv5 with rfl|rfl|rfl|rfl
    ·exact⟨_,rfl,by decide,by decide⟩
    ·exact⟨_,rfl,by omega,by omega⟩
    ·exact⟨_,rfl,by omega,by omega⟩
    ·have hM:(10:Int) ^ ie 9+1=1000000001:=by decide +kernel
     rw [hM]
     exact⟨_,rfl,by omega,by omega⟩
   have q4:=S4.seqL q
   have ql4:=S4.seqL ql
   have T4:=S1.trans S4
   refine⟨_,_,.inl q4,rfl,by decide,_,_,.inl (SqL.of e6),ev5',?_⟩
   refine⟨_,_,.inl q4,rfl,by decide,Bo (fun _=>?_) (fun _=>?_)⟩
   ·refine⟨(show 4<=sizeLine by decide),fun p7 hp7=>?_⟩
    have S5:=Same.upd (o:=.lst [.str "chapter", .str "chapter", .str "chapter", .str "para"]) hp7
    have e7:upd H4 p7 (.lst [.str "chapter", .str "chapter", .str "chapter", .str "para"]) p7=some (.lst [.str "chapter", .str "chapter", .str "chapter", .str "para"]):=Ad
    generalize upd H4 p7 (.lst [.str "chapter", .str "chapter", .str "chapter", .str "para"])=H5 at S5 e7 ⊢
    obtain⟨v6,hv6,ev6⟩:=atM (xs:=[V.str "chapter", .str "chapter", .str "chapter", .str "para"]) n4 4 rfl (by decide)
    obtain⟨z6,rfl,hz6⟩:∃ z,v6=.str z/\kdS z:=by
     simp only [av,aO,or_false] at hv6
     rcases hv6 with rfl|rfl|rfl|rfl
     ·exact⟨_,rfl,.inl rfl⟩
     ·exact⟨_,rfl,.inl rfl⟩
     ·exact⟨_,rfl,.inl rfl⟩
     ·exact⟨_,rfl,.inr rfl⟩
    refine⟨_,_,.inl (S5.seqL q4),rfl,by decide,_,_,.inl (SqL.of e7),ev6,(show 6<=sizeLine by decide),fun p8 hp8=>?_⟩
    exact k _ (.put z3 z6 z4 r5 "text") p8 (T4.trans (S5.trans (Same.upd hp8))) ⟨hp z3 hz3,hz6,hz4,hr5,by decide +kernel⟩ (fun z e=>by cases e;exact hz3) (SqT.of Ad)
   ·refine⟨_,_,.inl q4,rfl,by decide,Bo (fun _=>?_) (fun _=>?_)⟩
    ·exact⟨(show 2<=sizeLine by decide),fun p8 hp8=>k _ (.cut z3) p8 (T4.trans (Same.upd hp8)) (hp z3 hz3) (fun z e=>by cases e) (SqT.of Ad)⟩
    ·refine⟨_,_,.inl q4,rfl,by decide,Bo (fun _=>?_) (fun _=>?_)⟩
     ·exact⟨_,_,.inl q4,rfl,by decide,_,_,.inl ql4,ev5,(show 4<=sizeLine by decide),fun p8 hp8=>k _ (.wrap z3 z5 "title") p8 (T4.trans (Same.upd hp8)) ⟨hp z3 hz3,hp z5 hz5,by decide +kernel⟩ (fun z e=>by cases e;exact hz5) (SqT.of Ad)⟩
     ·exact⟨(show 4<=sizeLine by decide),fun p8 hp8=>k _ (.move z3 z4 r5) p8 (T4.trans (Same.upd hp8)) ⟨hp z3 hz3,hz4,hr5⟩ (fun z e=>by cases e) (SqT.of Ad)⟩
end
theorem Eo {l:List Str} {x:List Str} (nd:l.Nodup) (h:∀ z∈l,z∈x):l.length<=x.length:=by
 induction l generalizing x with
 | nil=>exact bC _
 | cons a l ih=>
  obtain⟨na,nd⟩:=List.nodup_cons.mp nd
  have ha:=h a b8
  have:=ih (x:=x.erase a) nd fun z hz=>(List.mem_erase_of_ne (fun e:z=a=>na (e▸hz))).mpr (h z (ax _ hz))
  rw [List.length_erase_of_mem ha] at this
  have:0<x.length:=List.length_pos_of_mem ha
  rw [aE]
  omega
section
variable {S:Rs}
theorem Way.det {z:Str} {l l':List Str} (w:Way S z l) (w':Way S z l'):l=l':=by
 induction w generalizing l' with
 | top=>cases w' with
  | top=>rfl
  | up hz _ _=>exact absurd rfl hz
 | up hz g w ih=>cases w' with
  | top=>exact absurd rfl hz
  | up _ g' w'=>
   rw [g] at g'
   cases g'
   rw [ih w']
theorem Way.part {z y:Str} {l:List Str} (w:Way S z l) (h:y∈l):∃ a b,l=a++y::b/\Way S y (y::b):=by
 induction w with
 | top=>cases h
 | up hz g w ih=>
  rcases List.mem_cons.mp h with rfl|h
  ·exact⟨[],_,rfl,.up hz g w⟩
  ·obtain⟨a,b,e,w2⟩:=ih h
   exact⟨_::a,b,by rw [e];rfl,w2⟩
theorem Way.has {z y:Str} {l:List Str} (w:Way S z l) (h:y∈l):has S y=true/\y ≠ "" := by
 obtain⟨a,b,_,w⟩:=w.part h
 cases w with
 | up hz g _=>exact⟨Bx g,hz⟩
theorem Way.nodup {z:Str} {l:List Str} (w:Way S z l):l.Nodup:=by
 induction w with
 | top=>exact iJ
 | up hz g w ih=>
  refine List.nodup_cons.mpr ⟨fun h=>?_,ih⟩
  obtain⟨a,b,e,w2⟩:=w.part h
  have e2:=(Way.up hz g w).det w2
  have e3:=congrArg iU e
  have e4:=congrArg iU e2
  rw [ay,aE] at e3
  rw [aE,aE] at e4
  omega
theorem Way.len {z:Str} {l:List Str} (w:Way S z l):l.length<=S.length:=by
 have:=Eo (x:=keys S) w.nodup fun y hy=>mem_keys.mpr (w.has hy).1
 unfold keys at this
 rwa [aj] at this
theorem Way.fun {z:Str} {l:List Str} (w:Way S z l):∀ {n:Nat},l.length<n->wyN n S z=l:=by
 induction w with
 | top=>intro n h;cases n with
  | zero=>omega
  | succ n=>unfold wyN;rw [if_pos rfl]
 | up hz g w ih=>intro n h;cases n with
  | zero=>omega
  | succ n=>
   unfold wyN
   rw [if_neg hz,g]
   dsimp only
   rw [ih (by rw [aE] at h;omega)]
theorem Way.wy (hf:S.length<=8) {z:Str} {l:List Str} (w:Way S z l):wy S z=l:=w.fun (by have:=w.len;omega)
theorem Tr.way (T:Tr S) {z:Str} (h:has S z=true):Way S z (wy S z):=by
 obtain⟨l,w⟩:=T.we z _ (Ao h)
 rw [w.wy T.few]
 exact w
theorem Oe:wy S "" = []:=by unfold wy wyN;rw [if_pos rfl]
theorem Tr.wayO (T:Tr S) {z:Str} (h:z = "" \/ has S z=true):Way S z (wy S z):=by
 rcases h with rfl|h
 ·rw [Oe];exact .top
 ·exact T.way h
theorem Tr.step (T:Tr S) {z:Str} (h:has S z=true):wy S z=z::wy S (An S z).pr/\((An S z).pr = "" \/ has S (An S z).pr=true):=by
 have w:=T.way h
 have g:=Ao h
 have nz:z ≠ "" := Gd (T.nm z _ g)
 have hp:(An S z).pr = "" \/ has S (An S z).pr=true:=by
  by_cases e:(An S z).pr = ""
  ·exact .inl e
  ·obtain⟨q,hq,_⟩:=T.ch z _ g e
   exact .inr (Bx hq)
 exact⟨w.det (.up nz g (T.wayO hp)),hp⟩
theorem Tr.self (T:Tr S) {z:Str} (h:has S z=true):z∈wy S z:=by rw [(T.step h).1];exact b8
theorem Fy {z y:Str} {r:Rc}:∀ S:Rs,get (S.map fun p=>if p.1=z then (p.1,r) else p) y=if y=z then (get S y).map fun _=>r else get S y
 | []=>by simp [get]
 | (x,s)::S=>by
  rw [aM]
  by_cases e:x=z
  ·subst e
   rw [if_pos rfl]
   by_cases e2:x=y
   ·subst e2
    rw [By rfl,By rfl,if_pos rfl]
    rfl
   ·rw [Bq e2,Bq e2]
    exact Fy S
  ·rw [if_neg (by exact e)]
   by_cases e2:x=y
   ·subst e2
    rw [By rfl,By rfl,if_neg e]
   ·rw [Bq e2,Bq e2]
    exact Fy S
theorem Vb {y:Str}:∀ S S':Rs,get (S++S') y=(get S y).or (get S' y)
 | [],S'=>by simp [get]
 | (x,s)::S,S'=>by
  rw [eG]
  by_cases e:x=y
  ·rw [By e,By e];rfl
  ·rw [Bq e,Bq e];exact Vb S S'
theorem Bz {z y:Str} {r:Rc}:get (Ci S z r) y=if y=z then some r else get S y:=by
 unfold Ci
 rw [Hr]
 by_cases h:has S z=true
 ·rw [if_pos h,Fy]
  by_cases e:y=z
  ·subst e
   rw [if_pos rfl,if_pos rfl,Ao h]
   rfl
  ·rw [if_neg e,if_neg e]
 ·rw [if_neg h,Vb]
  have hn:=bc8 (by simpa using h:has S z=false)
  by_cases e:y=z
  ·subst e
   rw [if_pos rfl,hn,By rfl]
   rfl
  ·rw [if_neg e,Bq (cz e),aq1,Option.or_none]
theorem Ja {z:Str} {r:Rc}:keys (Ci S z r)=if has S z=true then keys S else keys S++[z]:=by
 unfold Ci
 rw [Hr]
 by_cases h:has S z=true
 ·rw [if_pos h,if_pos h]
  unfold keys
  rw [cq]
  refine eM fun p _=>?_
  show (if p.1=z then (p.1,r) else p).1=p.1
  split <;> rfl
 ·rw [if_neg h,if_neg h]
  unfold keys
  rw [bw]
  rfl
theorem Way.put {n:Str} {rc:Rc} {z:Str} {l:List Str} (w:Way S z l) (h:n∉l):Way (Ci S n rc) z l:=by
 induction w with
 | top=>exact .top
 | up hz g w ih=>
  have h1:=fun e=>h (List.mem_cons.mpr (.inl e))
  refine .up hz (by rw [Bz,if_neg (fun e=>h1 e.symm)];exact g) (ih fun q=>h (ax _ q))
theorem Way.put2 {n:Str} {rc:Rc} {lp:List Str} (hn:n ≠ "") (wp:Way S rc.pr lp) (h:n∉lp) {z:Str} {l:List Str} (w:Way S z l):∃ l',Way (Ci S n rc) z l':=by
 have top:Way (Ci S n rc) n (n::lp):=.up hn (by rw [Bz,if_pos rfl]) (wp.put h)
 induction w with
 | top=>exact⟨[],.top⟩
 | up hz g w ih=>
  rename_i y r l
  by_cases e:y=n
  ·subst e;exact⟨_,top⟩
  ·obtain⟨l',w'⟩:=ih
   exact⟨_,.up hz (by rw [Bz,if_neg e];exact g) w'⟩
theorem Oc (T:Tr S) {n:Str} {rc:Rc} (few:(Ci S n rc).length<=8) (hn:nmB n=true) (hk:kdS rc.kd) (hp:rc.pr = "" \/ ∃ q,get S rc.pr=some q/\q.kd = "chapter") (hc:n∉wy S rc.pr) (keep:has S n=true->(An S n).kd=rc.kd):Tr (Ci S n rc):=by
 have n0:=Gd hn
 have hp2:rc.pr = "" \/ has S rc.pr=true:=hp.imp id fun⟨q,hq,_⟩=>Bx hq
 have wp:=T.wayO hp2
 refine⟨?_,few,fun z r g=>?_,fun z r g=>?_,fun z r g hr=>?_,fun z r g=>?_⟩
 ·rw [Ja]
  split
  ·exact T.nd
  ·rename_i h
   refine List.nodup_append.mpr ⟨T.nd,by simp,fun a ha b hb e=>?_⟩
   have eb:b=n:=by simpa using hb
   rw [e,eb] at ha
   exact h (mem_keys.mp ha)
 ·rw [Bz] at g
  split at g
  ·rename_i e;rw [e];exact hn
  ·exact T.nm z r g
 ·rw [Bz] at g
  split at g
  ·rename_i e
   subst e
   exact⟨_,.up n0 (by rw [Bz,if_pos rfl]) (wp.put hc)⟩
  ·exact Way.put2 n0 wp hc (T.way (Bx g))
 ·have ex:∀ y q,get S y=some q->q.kd = "chapter" -> ∃ q',get (Ci S n rc) y=some q'/\q'.kd = "chapter" := fun y q hq hk=>by
   rw [Bz]
   by_cases e:y=n
   ·subst e
    rw [if_pos rfl]
    refine⟨rc,rfl,?_⟩
    rw [<- keep (Bx hq),G4 hq]
    exact hk
   ·rw [if_neg e];exact⟨q,hq,hk⟩
  rw [Bz] at g
  split at g
  ·cases g
   obtain⟨q,hq,hk⟩:=hp.resolve_left hr
   exact ex _ q hq hk
  ·obtain⟨q,hq,hk⟩:=T.ch z r g hr
   exact ex _ q hq hk
 ·rw [Bz] at g
  split at g
  ·cases g;exact hk
  ·exact T.kd z r g
theorem C6 {f:Str->Bool} {y:Str}:∀ S:Rs,get (S.filter fun p=>f p.1) y=if f y=true then get S y else none
 | []=>by simp [get]
 | (x,s)::S=>by
  by_cases h:f x=true
  ·rw [dz (by exact h)]
   by_cases e:x=y
   ·subst e
    rw [By rfl,By rfl,if_pos h]
   ·rw [Bq e,Bq e];exact C6 S
  ·rw [dy (by exact h),C6 S]
   by_cases e:x=y
   ·subst e
    rw [if_neg h,if_neg h]
   ·rw [Bq e]
theorem M6 {n y:Str}:get (Hh S n) y=if n∉wy S y then get S y else none:=by
 unfold Hh
 rw [C6 (f:=fun z=>decide (n∉wy S z))]
 by_cases h:n∉wy S y
 ·rw [if_pos h,if_pos (decide_eq_true h)]
 ·rw [if_neg h,if_neg (by rw [decide_eq_false h];exact ak)]
theorem by8 (T:Tr S) {n:Str}:Tr (Hh S n):=by
 have sub:∀ z r,get (Hh S n) z=some r->get S z=some r/\n∉wy S z:=fun z r g=>by
  rw [M6] at g
  split at g
  ·rename_i h;exact⟨g,h⟩
  ·cases g
 have wc:∀ {z:Str} {l:List Str},Way S z l->n∉l->Way (Hh S n) z l:=fun w=>by
  induction w with
  | top=>exact fun _=>.top
  | up hz g w ih=>
   intro h
   refine .up hz ?_ (ih fun q=>h (ax _ q))
   rw [M6,(Way.up hz g w).wy T.few,if_pos h]
   exact g
 refine⟨?_,?_,fun z r g=>T.nm z r (sub z r g).1,fun z r g=>?_,fun z r g hr=>?_,fun z r g=>T.kd z r (sub z r g).1⟩
 ·unfold Hh keys
  exact T.nd.sublist (List.filter_sublist.map _)
 ·exact aR (dZ _ _) T.few
 ·obtain⟨g,h⟩:=sub z r g
  exact⟨_,wc (T.way (Bx g)) h⟩
 ·obtain⟨g,h⟩:=sub z r g
  obtain⟨q,hq,hk⟩:=T.ch z r g hr
  refine⟨q,?_,hk⟩
  have e:=(T.step (Bx g)).1
  rw [G4 g] at e
  rw [e] at h
  rw [M6,if_pos (fun z=>h (ax _ z))]
  exact hq
end
noncomputable def chz (S:Rs) (zs:List Str) (p:Str):List Str:=zs.filter fun z=>decide ((An S z).pr=p)
theorem Et (S:Rs) (zs:List Str) (z p:Str):chz S (zs++[z]) p=chz S zs p++(if (An S z).pr=p then [z] else []):=by
 unfold chz
 rw [gj]
 congr 1
 by_cases h:(An S z).pr=p <;> simp [h]
structure UnI (S:Rs) (N:Addr->Prop) (H:Hp) (u:Addr) (zs:List Str) (kvs:List (Key×V)):Prop where
 at_:H u=some (.dK kvs)
 no:∀ p,A9 kvs (.inr p)=none->chz S zs p=[]
 yes:∀ p v,A9 kvs (.inr p)=some v -> ∃ l,v=.ref l/\H l=some (.lst ((chz S zs p).map V.str))/\N l
 inj:∀ p p' v,A9 kvs (.inr p)=some v->A9 kvs (.inr p')=some v->p=p'
 len:kvs.length<=zs.length
section
variable {S:Rs} {N:Addr->Prop} {H:Hp} {u q l:Addr} {zs:List Str} {kvs:List (Key×V)} {z:Str}
theorem UnI.old (h:UnI S N H u zs kvs) (hq:H q=none) (e:A9 kvs (.inr (An S z).pr)=some (.ref l)) :
  H l=some (.lst ((chz S zs (An S z).pr).map V.str))/\UnI S N (upd (upd H q (.lst [])) l (.lst ((chz S zs (An S z).pr).map V.str++[.str z]))) u (zs++[z]) kvs:=by
 obtain⟨l',el,hl,h0⟩:=h.yes _ _ e
 cases el
 have lu:u≠l:=fun c=>by rw [<- c,h.at_] at hl;cases hl
 have qu:u≠q:=fun c=>by rw [<- c,h.at_] at hq;cases hq
 refine⟨hl,by rw [Ak lu,Ak qu];exact h.at_,fun p hp=>?_,fun p v hp=>?_,h.inj,by have:=h.len;rw [ay];omega⟩
 ·rw [Et,h.no p hp,if_neg (fun c=>by rw [c,hp] at e;cases e)]
  rfl
 ·obtain⟨l2,rfl,hl2,h2⟩:=h.yes p v hp
  refine⟨l2,rfl,?_,h2⟩
  by_cases c:(An S z).pr=p
  ·subst c
   rw [hp] at e
   cases e
   rw [Ad,Et,if_pos rfl,bw]
   rfl
  ·have n1:l2≠l:=fun c2=>by
    rw [c2] at hp
    exact c (h.inj _ _ _ e hp)
   have n2:l2≠q:=fun c2=>by rw [c2,hq] at hl2;cases hl2
   rw [Ak n1,Ak n2,Et,if_neg c,cb]
   exact hl2
theorem UnI.new (h:UnI S N H u zs kvs) (hq:H q=none) (h0q:N q) (e:A9 kvs (.inr (An S z).pr)=none) :
  UnI S N (upd (upd (upd H q (.lst [])) u (.dK (C9 kvs (.inr (An S z).pr) (.ref q)))) q (.lst ([]++[.str z]))) u (zs++[z]) (C9 kvs (.inr (An S z).pr) (.ref q)):=by
 have qu:u≠q:=fun c=>by have:=h.at_;rw [c,hq] at this;cases this
 have vq:∀ p v,A9 kvs (.inr p)=some v->v≠.ref q:=fun p v hp c=>by
  obtain⟨l2,rfl,hl2,_⟩:=h.yes p v hp
  cases c
  rw [hq] at hl2
  cases hl2
 refine⟨by rw [Ak qu,Ad],fun p hp=>?_,fun p v hp=>?_,fun p p' v hp hp'=>?_,?_⟩
 ·rw [K8] at hp
  split at hp
  ·cases hp
  ·rename_i c
   rw [Et,h.no p hp,if_neg (fun c2=>c (by rw [c2]))]
   rfl
 ·rw [K8] at hp
  split at hp
  ·rename_i c
   have c:=eO c
   subst c
   cases hp
   refine⟨q,rfl,?_,h0q⟩
   rw [Ad,Et,h.no _ e,if_pos rfl]
   rfl
  ·rename_i c
   obtain⟨l2,rfl,hl2,h2⟩:=h.yes p v hp
   have n2:l2≠q:=fun c2=>by rw [c2,hq] at hl2;cases hl2
   have n3:l2≠u:=fun c2=>by rw [c2,h.at_] at hl2;cases hl2
   refine⟨l2,rfl,?_,h2⟩
   rw [Ak n2,Ak n3,Ak n2,Et,if_neg (fun c2=>c (by rw [c2])),cb]
   exact hl2
 ·rw [K8] at hp hp'
  split at hp
  ·rename_i c
   split at hp'
   ·rename_i c'
    exact (eO c).trans (eO c').symm
   ·exact absurd (aN hp).symm (vq p' v hp')
  ·split at hp'
   ·exact absurd (aN hp').symm (vq p v hp)
   ·exact h.inj p p' v hp hp'
 ·have:=Co kvs (.inr (An S z).pr) (.ref q)
  have:=h.len
  rw [ay,cy]
  omega
end
section
variable {P:aH} {w:bh} {K:aa} {mg:Str->Option Value} {base:Heap} {t:Adr}
theorem ord_mem {S:Rs} {z:Str}:z∈G0 S ↔ has S z=true:=by
 unfold G0
 rw [(Bn _ _).mem_iff]
 exact mem_keys
theorem b87 {f:Addr} {fd:ai} (Z:Facts K t) (F:FunD K "all_unders" "Plain.all_unders" Sr f fd .none) (T:Tab P w K mg base 7 (Ws K t) bl):FnOk P w K mg base CX0 8 f fd Zd (a29 K t):=by
 refine F.okW0 cg0 co8 T (cd4 K t) (fun vs H Q E h=>?_) (fun vs H Q E h=>?_)
 ·obtain⟨p,d,S,rfl,_⟩:=h;rfl
 ·obtain⟨p,d,S,rfl,hP,T,k⟩:=h
  refine fun u hu=>.inl ?_
  have S1:=Same.upd (o:=.dK []) hu
  have e1:upd H u (.dK []) u=some (.dK []):=Ad
  generalize upd H u (.dK [])=H1 at S1 e1 ⊢
  have hP1:=hP.up S1
  obtain⟨⟨dx,e⟩,kvs0,ed,g⟩:=id hP1
  have l8:(keys S).length<=8:=by unfold keys;rw [aj];exact T.few
  refine bR ⟨_,_,_,.ref d,e,Z.pl,Z.plr,rfl,⟨d,p,dx,_,⟨t.c_zcl,aq3 K t⟩,keys S,rkf S,rfl,.inr ⟨kvs0,.inl ed,g.keys⟩,T.nd,by omega,rfl,.head _,e,rfl,
   (fun z hz H3 S3=>⟨p,d,S,z,rfl,hP1.up S3,mem_keys.mp hz,fun q hq=>⟨q,rfl,Same.upd hq,Ad⟩⟩),fun H3 D S3 hD eD=>.inl ⟨⟨_,SqL.of eD⟩,?_⟩⟩⟩
  have hD0:H D=none:=by
   cases c:H D with
   | none=>rfl
   | some o=>rw [S1 _ _ c] at hD;cases hD
  have uD:D≠u:=fun c=>by rw [c,e1] at hD;cases hD
  have lo:(G0 S).length=(keys S).length:=(Bn _ _).length_eq
  refine Fb (E4 ((G0 S).map V.str)) (fun i σ H'=>(∃ v,σ=[some (.ref p),some (.ref u),v])/\Same H H'/\H' D=some (.lst ((G0 S).map V.str)) /\ ∃ kvs,UnI S (fun l=>H l=none/\l≠D) H' u ((G0 S).take i) kvs)
   ⟨⟨_,rfl⟩,S1.trans S3,eD,[],S3 _ _ e1,(fun _ _=>rfl),(fun p v hp=>by cases hp),(fun p p' v hp=>by cases hp),bC _⟩ (fun i σ' H' _ h=>SqL.of h.2.2.1) ?_ ?_
  ·rintro i x σ H4 hx ⟨⟨v,rfl⟩,S4,eD4,kvs,U⟩
   rw [aP] at hx
   obtain⟨z,hz,rfl⟩:=Option.map_eq_some_iff.mp hx
   have hi:i<(G0 S).length:=(List.getElem?_eq_some_iff.mp hz).1
   have hh:=ord_mem.mp (a9 hz)
   have hP4:=hP.up S4
   obtain⟨dx4,e4⟩:=hP4.1
   have tk:(G0 S).take (i+1)=(G0 S).take i++[z]:=by rw [d9,hz];rfl
   have kl:kvs.length<1000:=by have:=U.len;rw [bI] at this;omega
   refine⟨.inr (.inr (.inl ⟨rfl,.inl ⟨kvs,U.at_⟩⟩)),⟨p,dx4,_,⟨t.c_zcl,Rw K t⟩,rfl,.head _,e4,rfl,⟨ac _,ac _⟩,⟨p,d,S,z,An S z,rfl,hP4,Ao hh,⟨(show 0<=sizeLine by decide),fun q hq=>?_⟩⟩⟩⟩
   have S5:=Same.upd (o:=.lst []) hq
   refine .inr ⟨u,.inr (An S z).pr,.ref q,kvs,rfl,rfl,S5 _ _ U.at_,ij kl (by decide),?_⟩
   have hq0:H q=none:=by
    cases c:H q with
    | none=>rfl
    | some o=>rw [S4 _ _ c] at hq;cases hq
   have hq3:H q=none/\q≠D:=⟨hq0,fun c=>by rw [c,eD4] at hq;cases hq⟩
   cases ev:A9 kvs (.inr (An S z).pr) with
   | some v=>
    obtain⟨l,rfl,hl,h0⟩:=U.yes _ _ ev
    obtain⟨hl,U2⟩:=U.old (z:=z) hq ev
    refine⟨.inl ⟨rfl,_,SqL.of (S5 _ _ hl)⟩,l,_,_,rfl,rfl,S5 _ _ hl,?_,⟨⟨_,rfl⟩,(S4.trans S5).set h0.1,?_,kvs,by rw [tk];exact U2⟩⟩
    ·rw [aj]
     have:(chz S ((G0 S).take i) (An S z).pr).length<=((G0 S).take i).length:=dZ _ _
     rw [bI] at this
     exact b_ (show _<=8 by omega) (by decide)
    ·rw [Ak (cz h0.2)]
     exact S5 _ _ eD4
   | none=>
    have U2:=U.new (z:=z) hq hq3 ev
    have hu0:H u=none:=hu
    have qu:q≠u:=fun c=>by have:=U.at_;rw [<- c,hq] at this;cases this
    refine⟨.inl ⟨rfl,[],SqL.of ?_⟩,q,[],_,rfl,rfl,?_,by decide,⟨⟨_,rfl⟩,((S4.trans S5).set hu0).set hq0,?_,_,by rw [tk];exact U2⟩⟩
    ·rw [Ak qu,Ad]
    ·rw [Ak qu,Ad]
    ·rw [Ak (cz hq3.2),Ak uD,Ak (cz hq3.2)]
     exact eD4
  ·rintro σ H4 ⟨⟨v,rfl⟩,S4,eD4,kvs,U⟩
   rw [aj,eI] at U
   refine .inl (k H4 u S4 ⟨kvs,U.at_,fun p=>?_⟩)
   split
   ·rename_i c;exact U.no p c
   ·rename_i v' c
    obtain⟨l,e1,e2,_⟩:=U.yes p v' c
    exact⟨l,e1,e2⟩
end
structure DfI (S:Rs) (n:Str) (F W:List Str):Prop where
 nd:(F++W).Nodup
 sub:∀ z∈F++W,has S z=true/\z≠n/\n∈wy S z
 par:∀ z∈F++W,(An S z).pr=n\/(An S z).pr∈F
 chn:∀ z,has S z=true->(An S z).pr=n->z∈F++W
 chf:∀ x∈F,∀ z,has S z=true->(An S z).pr=x->z∈F++W
section
variable {S:Rs} {n:Str}
theorem ch_mem {p z:Str}:z∈chS S p ↔ has S z=true/\(An S z).pr=p:=by
 unfold chS
 rw [c_,ord_mem,decide_eq_true_iff]
theorem aa5 (T:Tr S) (p:Str):(chS S p).Nodup:=by
 unfold chS G0
 exact ((Bn _ _).nodup_iff.mpr T.nd).sublist fU
theorem aa6 (T:Tr S) {p z:Str} (h:z∈chS S p):wy S z=z::wy S p/\z∉wy S p:=by
 obtain⟨h1,h2⟩:=ch_mem.mp h
 have e:=(T.step h1).1
 rw [h2] at e
 have nd:=(T.way h1).nodup
 rw [e] at nd
 exact⟨e,(List.nodup_cons.mp nd).1⟩
theorem ab5 (T:Tr S) (hn:has S n=true):DfI S n [] (chS S n).reverse:=by
 have m:∀ {z},z∈([]:List Str)++(chS S n).reverse ↔ z∈chS S n:=by intro z;simp
 refine⟨by rw [List.nil_append];exact (List.reverse_perm _).nodup_iff.mpr (aa5 T n),fun z hz=>?_,fun z hz=>.inl (ch_mem.mp (m.mp hz)).2,fun z h1 h2=>m.mpr (ch_mem.mpr ⟨h1,h2⟩),fun x hx=>by cases hx⟩
 have hz:=m.mp hz
 obtain⟨e,ne⟩:=aa6 T hz
 have sn:=T.self hn
 exact⟨(ch_mem.mp hz).1,fun c=>ne (c▸sn),by rw [e];exact ax _ sn⟩
theorem ap5 (T:Tr S) {F W:List Str} {x:Str} (D:DfI S n F (W++[x])):DfI S n (F++[x]) (W++(chS S x).reverse):=by
 have xm:x∈F++(W++[x]):=by simp
 obtain⟨hx,xn,nx⟩:=D.sub x xm
 have nd:=D.nd
 have xF:x∉F:=fun h=>by
  rw [<- cK] at nd
  exact (List.nodup_append.mp nd).2.2 x (cm _ h) x (by simp) rfl
 have new:∀ c,c∈chS S x->c∉F++(W++[x]):=fun c hc hm=>by
  obtain⟨h1,h2⟩:=ch_mem.mp hc
  rcases D.par c hm with h|h
  ·rw [h2] at h;exact xn h
  ·rw [h2] at h;exact xF h
 have m:∀ {z},z∈(F++[x])++(W++(chS S x).reverse) ↔ z∈F++(W++[x])\/z∈chS S x:=by
  intro z
  simp only [br,bL,List.mem_reverse]
  constructor
  ·rintro ((h|h)|h|h)
   ·exact .inl (.inl h)
   ·exact .inl (.inr (.inr h))
   ·exact .inl (.inr (.inl h))
   ·exact .inr h
  ·rintro ((h|h|h)|h)
   ·exact .inl (.inl h)
   ·exact .inr (.inl h)
   ·exact .inl (.inr h)
   ·exact .inr (.inr h)
 refine⟨?_,fun z hz=>?_,fun z hz=>?_,fun z h1 h2=>m.mpr (.inl (D.chn z h1 h2)),fun y hy z h1 h2=>?_⟩
 ·have p:((F++[x])++(W++(chS S x).reverse)).Perm ((F++(W++[x]))++(chS S x).reverse):=by
   rw [<- cK (F++[x]) W]
   refine List.Perm.append_right _ ?_
   rw [cK F [x] W]
   exact List.Perm.append_left F List.perm_append_comm
  refine p.nodup_iff.mpr (List.nodup_append.mpr ⟨D.nd,(List.reverse_perm _).nodup_iff.mpr (aa5 T x),fun a ha b hb e=>?_⟩)
  subst e
  exact new a (List.mem_reverse.mp hb) ha
 ·rcases m.mp hz with h|h
  ·exact D.sub z h
  ·obtain⟨e,ne⟩:=aa6 T h
   exact⟨(ch_mem.mp h).1,fun c=>ne (c▸nx),by rw [e];exact ax _ nx⟩
 ·rcases m.mp hz with h|h
  ·exact (D.par z h).imp id fun q=>cm _ q
  ·exact .inr (by rw [(ch_mem.mp h).2];simp)
 ·rcases List.mem_append.mp hy with h|h
  ·exact m.mpr (.inl (D.chf y h z h1 h2))
  ·have:y=x:=by simpa using h
   subst this
   exact m.mpr (.inr (ch_mem.mpr ⟨h1,h2⟩))
theorem ba1 (T:Tr S) {F:List Str} (D:DfI S n F []):Of S n F:=by
 refine⟨by have:=D.nd;rwa [cb] at this,fun z=>⟨fun h=>D.sub z (by rw [cb];exact h),fun⟨h1,h2,h3⟩=>?_⟩⟩
 have go:∀ {y:Str} {l:List Str},Way S y l->y≠n->n∈l->y∈F:=fun w=>by
  induction w with
  | top=>exact fun _ h=>by cases h
  | up hz g w ih=>
   rename_i y r l
   intro ne hm
   have hm:=(List.mem_cons.mp hm).resolve_left (cz ne)
   have hy:=Bx g
   by_cases e:r.pr=n
   ·have:=D.chn y hy (by rw [G4 g];exact e)
    rwa [cb] at this
   ·have:=D.chf r.pr (ih e hm) y hy (by rw [G4 g])
    rwa [cb] at this
 exact go (T.way h1) h2 h3
theorem ba2 (T:Tr S) {F W:List Str} (D:DfI S n F W):F.length+W.length<=S.length:=by
 have:=Eo (x:=keys S) D.nd fun z hz=>mem_keys.mpr (D.sub z hz).1
 unfold keys at this
 rwa [ay,aj] at this
end
section
variable {K:aa} {H H':Hp}
theorem PrAt.keep (T:TKeep K H H'):∀ {ws:List (Int×Str)} {ys:List V},PrAt K H ws ys->PrAt K H' ws ys
 | [],_,h=>h
 | w::ws,ys,h=>by
  obtain⟨q,rest,e,h1,h2⟩:=h
  exact⟨q,rest,e,T _ _ h1,h2.keep T⟩
theorem PrAt.app:∀ {ws ws':List (Int×Str)} {ys ys':List V},PrAt K H ws ys->PrAt K H ws' ys'->PrAt K H (ws++ws') (ys++ys')
 | [],_,ys,_,h,g=>by rw [show ys=[] from h];exact g
 | w::ws,_,ys,_,h,g=>by
  obtain⟨q,rest,rfl,h1,h2⟩:=h
  exact⟨q,_,rfl,h1,h2.app g⟩
theorem PrAt.split:∀ {ws:List (Int×Str)} {x:Int×Str} {ys:List V},PrAt K H (ws++[x]) ys -> ∃ ys' q,ys=ys'++[.ref q]/\PrAt K H ws ys'/\SqT K H q [.int x.1,.str x.2]
 | [],x,ys,h=>by
  obtain⟨q,rest,rfl,h1,h2⟩:=h
  rw [show rest=[] from h2]
  exact⟨[],q,rfl,rfl,h1⟩
 | w::ws,x,ys,h=>by
  obtain⟨q,rest,rfl,h1,h2⟩:=h
  obtain⟨ys',q',rfl,h3,h4⟩:=PrAt.split h2
  exact⟨.ref q::ys',q',rfl,⟨q,ys',rfl,h1,h3⟩,h4⟩
theorem PrAt.length:∀ {ws:List (Int×Str)} {ys:List V},PrAt K H ws ys->ys.length=ws.length
 | [],ys,h=>by rw [show ys=[] from h];rfl
 | w::ws,ys,h=>by
  obtain⟨q,rest,rfl,_,h2⟩:=h
  rw [aE,aE,h2.length]
theorem PrAt.tree:∀ {ws:List (Int×Str)} {ys:List V},PrAt K H ws ys->AtL K H (ws.map fun w=>.tup [.at_ (.int w.1),Cc w.2]) ys
 | [],ys,h=>by rw [show ys=[] from h];exact Cm
 | w::ws,ys,h=>by
  obtain⟨q,rest,rfl,h1,h2⟩:=h
  exact Aw (Ri h1 (Aw (Hm rfl) (Aw Bg Cm))) h2.tree
theorem U5:∀ ws:List (Int×Str),B6 (ws.map fun w=>Dt.tup [.at_ (.int w.1),Cc w.2])<=1
 | []=>by simp [B6]
 | w::ws=>by
  rw [aM]
  unfold B6
  refine Nat.max_le.mpr ⟨?_,U5 ws⟩
  unfold Cc
  simp [dep,B6]
theorem cc0 {ws:List (Int×Str)} {ys:List V} {a b:Addr} {Q:VK} (h:PrAt K H ws ys) (ea:H a=some (.lst ys)) (eb:H b=some (.lst [])) (k:Q (.bl (!ws.isEmpty)) H):A5 K true (.ref a) (.ref b) H Q:=by
 refine .inr (.inl ⟨.lst (ws.map fun w=>.tup [.at_ (.int w.1),Cc w.2]),.lst [],Z8 (SqL.of ea) h.tree,Z8 (SqL.of eb) Cm,?_,?_⟩)
 ·have:=U5 ws
  unfold dep
  omega
 ·have e:deq (.lst (ws.map fun w=>Dt.tup [.at_ (.int w.1),Cc w.2])) (.lst [])=ws.isEmpty:=by
   cases ws <;> simp [deq,Fr]
  rw [e]
  exact k
theorem UnAt.up {u:Addr} {S:Rs} (h:UnAt H u S) (T:Same H H'):UnAt H' u S:=by
 obtain⟨kvs,e,g⟩:=h
 refine⟨kvs,T _ _ e,fun p=>?_⟩
 have:=g p
 split at this
 ·exact this
 ·obtain⟨l,e1,e2⟩:=this
  exact⟨l,e1,T _ _ e2⟩
theorem UnAt.get {u:Addr} {S:Rs} (h:UnAt H u S) (p:Str) {q:Addr} (hq:H q=some (.lst [])):∃ o l,D9 H u (.str p) o/\o.getD (.ref q)=.ref l/\H l=some (.lst ((chS S p).map V.str)):=by
 obtain⟨kvs,e,g⟩:=h
 have:=g p
 split at this
 ·rename_i ev
  refine⟨none,q,.inl ⟨kvs,.inr p,.inl e,rfl,ev.symm⟩,rfl,?_⟩
  rw [this]
  exact hq
 ·rename_i v ev
  obtain⟨l,rfl,hl⟩:=this
  exact⟨some (.ref l),l,.inl ⟨kvs,.inr p,.inl e,rfl,ev.symm⟩,rfl,hl⟩
theorem b47 {a:Addr} (xs:List V):Dx (Oh K a xs.length) xs.reverse (fun H=>SqL K H a xs):=by
 refine⟨fun i H q h=>⟨by rw [cv] at h;exact h,xs,q,rfl⟩,fun H q=>by show xs.length<=xs.reverse.length;rw [cv];exact ac _,fun i H x H' q hi h=>?_⟩
 obtain⟨h1,h2⟩:=h
 rw [cv] at hi
 refine⟨h1,?_⟩
 rw [List.getElem?_reverse hi]
 exact h2 xs q
theorem a20 {c:Int}:∀ {zs:List Str} {ys:List V},ys.length=zs.length->(∀ (i:Nat) v,ys[i]? = some v -> ∀ z,zs[i]? = some z -> ∃ q,v=.ref q/\SqT K H q [.int c,.str z])->PrAt K H (zs.map fun z=>(c,z)) ys
 | [],[],_,_=>rfl
 | [],_::_,h,_=>by simp at h
 | _::_,[],h,_=>by simp at h
 | z::zs,y::ys,h,g=>by
  obtain⟨q,rfl,hq⟩:=g 0 y rfl z rfl
  exact⟨q,ys,rfl,hq,a20 (by simpa using h) fun i v h1 z h2=>g (i+1) v h1 z h2⟩
theorem aa8 {zs:List Str} {a L:Addr} {c:Int} {te:DE} {σ:St} {R:Hp->Prop} {E:EK} (Sg:St->Prop) (hL:H L=none) (ha:H a=some (.lst (zs.map V.str))) (hz:zs.length<=8) (hσ:Sg σ) (hS:∀ σ x,Sg σ->Sg (σ.set 0 (some x)))
  (he:∀ (z:Str) σ H1 (Q1:VK),Sg σ->Same H H1->(∀ q,H1 q=none->Q1 (.ref q) (upd H1 q (.tup [.int c,.str z])))->te (σ.set 0 (some (.str z))) H1 Q1 E)
  (hd:∀ H' ys,Same H H'->H' L=some (.lst ys)->PrAt K H' (zs.reverse.map fun z=>(c,z)) ys->R H'):Wc (Oh K a (zs.map V.str).length) (gdN 0) Eb te L R σ (upd H L (.lst [])) E:=by
 refine aa7 (K:=K) (b47 (zs.map V.str)) Sg (fun (i:Nat) v H=>∀ z,zs.reverse[i]? = some z -> ∃ q,v=.ref q/\SqT K H q [.int c,.str z]) hL (fun H1 S=>SqL.of (S _ _ ha)) ?_ hσ hS (fun i v H1 H2 T h z hz=>by
  obtain⟨q,e,hq⟩:=h z hz
  exact⟨q,e,T _ _ hq⟩) ?_ ?_
 ·rw [cv,aj]
  exact b_ hz (by decide)
 ·intro i x σ H1 Q1 hx hg S hk
  rw [<- List.map_reverse,aP] at hx
  obtain⟨z,ez,rfl⟩:=Option.map_eq_some_iff.mp hx
  exact he z σ H1 Q1 hg S fun q hq=>hk _ _ (Same.upd hq) fun z' ez'=>by
   rw [ez] at ez'
   cases ez'
   exact⟨q,rfl,SqT.of Ad⟩
 ·intro H' ys S e hl hp
  refine hd H' ys S e (a20 ?_ hp)
  rw [hl,cv,aj,cv]
end
section
variable {P:aH} {w:bh} {K:aa} {mg:Str->Option Value} {base:Heap} {t:Adr}
structure WkI (K:aa) (S:Rs) (n:Str) (H1:Hp) (f wt:Addr) (fs ws:List (Int×Str)) (yf yw:List V) (H:Hp):Prop where
 sm:Same H1 H
 hf:H f=some (.lst yf)
 pf:PrAt K H fs yf
 hw:H wt=some (.lst yw)
 pw:PrAt K H ws yw
 df:DfI S n (fs.map (·.2)) (ws.map (·.2))
theorem none_of {H H':Hp} {a:Addr} (S:Same H H') (h:H' a=none):H a=none:=by
 cases c:H a with
 | none=>rfl
 | some o=>rw [S _ _ c] at h;cases h
theorem WkI.len {S:Rs} {n:Str} {H1 H:Hp} {f wt:Addr} {fs ws:List (Int×Str)} {yf yw:List V} (I:WkI K S n H1 f wt fs ws yf yw H) (T:Tr S):fs.length+ws.length<=8:=by
 have:=ba2 T I.df
 have:=T.few
 rw [aj,aj] at *
 omega
theorem Rm {S:Rs} (T:Tr S) (x:Str):(chS S x).length<=8:=by
 have h1:=Eo (x:=keys S) (aa5 T x) fun z hz=>mem_keys.mpr (ch_mem.mp hz).1
 have:=T.few
 unfold keys at h1
 rw [aj] at h1
 omega
theorem ah2 (c:Int) (zs:List Str):(zs.map fun z=>(c,z)).map (·.2)=zs:=by
 rw [cq]
 exact List.map_id' zs
theorem bd4 {f:Addr} {fd:ai} (Z:Facts K t) (F:FunD K "walk" "Plain.walk" Jw f fd .none) (T:Tab P w K mg base 8 (ap8 K t) bl):FnOk P w K mg base CX0 9 f fd Oq (ak6 K t):=by
 refine F.okW0 bt5 b00 T (bo2 K t) (fun vs H Q E h=>?_) (fun vs H Q E h=>?_)
 ·obtain⟨p,d,S,n,rfl,_⟩:=h;rfl
 ·obtain⟨p,d,S,n,rfl,hP,T,hn,k⟩:=h
  obtain⟨dx,e⟩:=hP.1
  refine⟨p,dx,_,⟨t.c_zcl,ba9 K t⟩,rfl,.head _,e,rfl,⟨ac _,ac _⟩,⟨p,d,S,rfl,hP,T,fun H1 u S1 hU=>?_⟩⟩
  refine⟨(show 0<=sizeLine by decide),fun f hf=>?_⟩
  have S2:=Same.upd (o:=.lst []) hf
  have ef:upd H1 f (.lst []) f=some (.lst []):=Ad
  generalize upd H1 f (.lst [])=H2 at S2 ef ⊢
  obtain⟨kvs,eu,_⟩:=id (hU.up S2)
  refine⟨.inr (.inr (.inl ⟨rfl,.inl ⟨kvs,eu⟩⟩)),⟨(show 0<=sizeLine by decide),fun q hq=>?_⟩⟩
  have S3:=Same.upd (o:=.lst []) hq
  have eq:upd H2 q (.lst []) q=some (.lst []):=Ad
  generalize upd H2 q (.lst [])=H3 at S3 eq ⊢
  obtain⟨o,l,h1,h2,h3⟩:=((hU.up S2).up S3).get n eq
  refine⟨o,h1,?_⟩
  rw [h2]
  refine⟨_,SqL.of h3,fun L hL=>?_⟩
  have fL:f≠L:=fun c=>by rw [<- c,S3 _ _ ef] at hL;cases hL
  have hL1:=none_of (S2.trans S3) hL
  refine aa8 (c:=1) (fun σ=>σ.length=1) hL h3 (Rm T n) rfl (fun σ x hσ=>by rw [fV];exact hσ) ?_ ?_
  ·intro z σ H4 Q1 hσ S4 hk
   obtain⟨v,rfl⟩:∃ v,σ=[v]:=by
    match σ,hσ with
    | [v],_=>exact⟨v,rfl⟩
   exact⟨(show 2<=sizeLine by decide),fun q hq=>hk q hq⟩
  ·intro H4 ys S4 eL hp
   have I0:WkI K S n H1 f L [] ((chS S n).reverse.map fun z=>((1:Int),z)) [] ys H4:=⟨(S2.trans S3).trans S4,S4 _ _ (S3 _ _ ef),rfl,eL,hp,by rw [ah2];exact ab5 T hn⟩
   refine⟨fun m σ H'=>∃ fs ws yf yw v,m=8 - fs.length/\σ=[some (.ref p),some (.str n),some (.ref u),some (.ref f),some (.ref L),v]/\WkI K S n H1 f L fs ws yf yw H',⟨_,_,_,_,_,_,rfl,rfl,I0⟩,?_⟩
   clear I0 S4 eL hp hL S3 eq h1 h2 h3 S2 ef
   rintro m σ H5 ⟨fs,ws,yf,yw,v,rfl,rfl,I⟩
   have hl:=I.len T
   refine⟨(show 0<=sizeLine by decide),fun q hq=>?_⟩
   have S6:=Same.upd (o:=.lst []) hq
   have eq:upd H5 q (.lst []) q=some (.lst []):=Ad
   generalize upd H5 q (.lst [])=H6 at S6 eq ⊢
   have I:WkI K S n H1 f L fs ws yf yw H6:=⟨I.sm.trans S6,S6 _ _ I.hf,I.pf.keep (TKeep.of S6),S6 _ _ I.hw,I.pw.keep (TKeep.of S6),I.df⟩
   refine cc0 I.pw I.hw eq ?_
   rcases List.eq_nil_or_concat ws with rfl|⟨ws',x,rfl⟩
   ·exact k H6 f fs yf (S1.trans I.sm) I.pf (ba1 T I.df) I.hf
   ·rw [List.concat_eq_append] at I hl ⊢
    have ne:(!(ws'++[x]).isEmpty)=true:=by cases ws' <;> rfl
    rw [ne]
    obtain⟨yw',q',rfl,pw',hq'⟩:=I.pw.split
    have l1:=I.pf.length
    have l2:=pw'.length
    rw [ay,cy] at hl
    refine⟨fun σ H'=>∃ fs2 ws2 yf2 yw2 v2,fs2.length=fs.length+1/\σ=[some (.ref p),some (.str n),some (.ref u),some (.ref f),some (.ref L),v2]/\WkI K S n H1 f L fs2 ws2 yf2 yw2 H',?_,?_⟩
    ·rintro σ' H' ⟨fs2,ws2,yf2,yw2,v2,e1,e2,e3⟩
     exact⟨8 - fs2.length,by omega,fs2,ws2,yf2,yw2,v2,rfl,e2,e3⟩
    ·refine .inl ⟨.inl ⟨rfl,_,SqL.of I.hw⟩,.inl ⟨L,_,_,rfl,rfl,I.hw,by rw [ay,cy,Nat.add_sub_cancel];exact List.getElem?_concat_length,?_⟩⟩
     rw [List.dropLast_concat]
     have k7:TKeep K H6 (upd H6 L (.lst yw')):=TKeep.lst I.hw
     have s7:Same H1 (upd H6 L (.lst yw')):=I.sm.set hL1
     have f7:upd H6 L (.lst yw') f=some (.lst yf):=by rw [Ak fL];exact I.hf
     have e7:upd H6 L (.lst yw') L=some (.lst yw'):=Ad
     generalize upd H6 L (.lst yw')=H7 at k7 s7 f7 e7 ⊢
     refine⟨.inl ⟨rfl,_,SqL.of f7⟩,f,_,_,rfl,rfl,f7,b_ (show yf.length<=8 by omega) (by decide),?_⟩
     have k8:TKeep K H7 (upd H7 f (.lst (yf++[.ref q']))):=TKeep.lst f7
     have s8:Same H1 (upd H7 f (.lst (yf++[.ref q']))):=s7.set hf
     have f8:upd H7 f (.lst (yf++[.ref q'])) f=some (.lst (yf++[.ref q'])):=Ad
     have e8:upd H7 f (.lst (yf++[.ref q'])) L=some (.lst yw'):=by rw [Ak (cz fL)];exact e7
     generalize upd H7 f (.lst (yf++[.ref q']))=H8 at k8 s8 f8 e8 ⊢
     have k8:=k7.trans k8
     obtain⟨kvs,eu,_⟩:=id (hU.up s8)
     have t8:=k8 _ _ hq'
     refine⟨.inl ⟨rfl,_,SqL.of e8⟩,⟨.inr (.inr (.inl ⟨rfl,.inl ⟨kvs,eu⟩⟩)),⟨_,_,.inr t8,rfl,⟨(show 0<=sizeLine by decide),fun q2 hq2=>?_⟩⟩⟩⟩
     have S9:=Same.upd (o:=.lst []) hq2
     have e9:upd H8 q2 (.lst []) q2=some (.lst []):=Ad
     generalize upd H8 q2 (.lst [])=H9 at S9 e9 ⊢
     obtain⟨o2,l2',g1,g2,g3⟩:=((hU.up s8).up S9).get x.2 e9
     refine⟨o2,g1,?_⟩
     rw [g2]
     refine⟨_,SqL.of g3,fun L2 hL2=>?_⟩
     refine aa8 (c:=x.1+1) (fun σ=>∃ v,σ=[v,some (.ref q')]) hL2 g3 (Rm T x.2) ⟨none,rfl⟩ (fun σ y hσ=>by obtain⟨v,rfl⟩:=hσ;exact⟨_,rfl⟩) ?_ ?_
     ·rintro z σ H10 Q1 ⟨v,rfl⟩ S10 hk
      exact⟨_,_,.inr ((S9.trans S10).seqT t8),rfl,(show 2<=sizeLine by decide),fun q hq=>hk q hq⟩
     ·intro H10 zs S10 eL2 hp
      have S10:=S9.trans S10
      have e10:=S10 _ _ e8
      have l3:=hp.length
      rw [aj,cv] at l3
      have l4:=Rm T x.2
      refine⟨L,L2,_,_,rfl,rfl,e10,eL2,aR (show yw'.length+zs.length<=16 by omega) (by decide),?_⟩
      have k10:=(k8.trans (TKeep.of S10)).trans (TKeep.lst (zs:=yw'++zs) e10)
      refine⟨fs++[x],ws'++((chS S x.2).reverse.map fun z=>(x.1+1,z)),_,_,_,by rw [ay,cy],rfl,(s8.trans S10).set hL1,by rw [Ak fL];exact S10 _ _ f8,(I.pf.keep k10).app ⟨q',[],rfl,k10 _ _ hq',rfl⟩,Ad,(pw'.keep k10).app (hp.keep (TKeep.lst e10)),?_⟩
      have D:=I.df
      rw [bw] at D
      have:=ap5 T D
      rw [bw,bw,ah2]
      exact this
theorem PrAt.ix {H:Hp}:∀ {ws:List (Int×Str)} {ys:List V},PrAt K H ws ys -> ∀ {i:Nat} {x:V},ys[i]? = some x -> ∃ p q,ws[i]? = some p/\x=.ref q/\SqT K H q [.int p.1,.str p.2]
 | [],ys,h,i,x,e=>by rw [show ys=[] from h] at e;cases e
 | w::ws,ys,h,i,x,e=>by
  obtain⟨q,rest,rfl,h1,h2⟩:=h
  cases i with
  | zero=>cases e;exact⟨w,q,rfl,rfl,h1⟩
  | succ i=>exact h2.ix e
theorem Lj {S:Rs} {n:Str} {l:List Str} (T:Tr S) (B:Of S n l):l.length<=8:=by
 have h1:=Eo (x:=keys S) B.1 fun z hz=>mem_keys.mpr ((B.2 z).mp hz).1
 have:=T.few
 unfold keys at h1
 rw [aj] at h1
 omega
theorem b95 {f:Addr} {fd:ai} (Z:Facts K t) (F:FunD K "beneath" "Plain.beneath" Tc f fd .none) (T:Tab P w K mg base 9 (ap9 K t) bl):FnOk P w K mg base CX0 10 f fd Zp (a40 K t):=by
 refine F.okW0 ch3 cq0 T (ce6 K t) (fun vs H Q E h=>?_) (fun vs H Q E h=>?_)
 ·obtain⟨p,d,S,n,rfl,_⟩:=h;rfl
 ·obtain⟨p,d,S,n,rfl,hP,T,hn,k⟩:=h
  obtain⟨dx,e⟩:=hP.1
  refine⟨p,dx,_,⟨t.c_zcl,bb1 K t⟩,rfl,.head _,e,rfl,⟨ac _,ac _⟩,⟨p,d,S,n,rfl,hP,.inr hn,?_⟩⟩
  refine⟨p,dx,_,⟨t.c_zcl,ad8 K t⟩,rfl,.head _,e,rfl,⟨ac _,ac _⟩,⟨p,d,S,n,rfl,hP,T,hn,fun H1 a ws ys S1 hp B ea=>.inl ⟨⟨_,SqL.of ea⟩,fun L hL=>?_⟩⟩⟩
  have lb:=Lj T B
  have ll:=hp.length
  rw [aj] at lb
  have aL:a≠L:=fun c=>by rw [<- c,ea] at hL;cases hL
  refine Ih (E4 ys) (fun i σ H'=>σ.length=2/\Same H1 H'/\H' L=some (.lst (((ws.take i).map (·.2)).map V.str))) ⟨rfl,Same.upd hL,Ad⟩ (fun i σ H' _ h=>SqL.of (h.2.1 _ _ ea)) ?_ ?_
  ·rintro i x σ H2 hx ⟨hσ,S2,eL⟩
   obtain⟨⟨c,z⟩,q,hi,rfl,hq⟩:=hp.ix hx
   obtain⟨u,v,rfl⟩:∃ u v,σ=[u,v]:=by
    match σ,hσ with
    | [u,v],_=>exact⟨u,v,rfl⟩
   have hi':i<ws.length:=(List.getElem?_eq_some_iff.mp hi).1
   refine⟨_,S2.seqT hq,rfl,_,eL,?_,rfl,S2.set hL,?_⟩
   ·rw [aj,aj,bI]
    exact b_ (show _<=8 by omega) (by decide)
   ·rw [Ad,d9,hi,bw,bw]
    rfl
  ·rintro σ H2 ⟨_,S2,eL⟩
   rw [ll,eI] at eL
   exact k H2 L _ (S1.trans S2) B eL
theorem ap2 {S:Rs} {n:Str} {ws:List Str} (T:Tr S) (hn:has S n=true) (B:Of S n ws):(S.filter fun p=>decide (p.1∉n::ws))=Hh S n:=by
 unfold Hh
 refine ft fun p hp=>?_
 have hh:has S p.1=true:=mem_keys.mp (fW hp)
 refine decide_eq_decide.mpr (not_congr ?_)
 by_cases c:p.1=n
 ·rw [c]
  exact⟨fun _=>T.self hn,fun _=>b8⟩
 ·rw [av,B.2]
  exact⟨fun h=>(h.resolve_left c).2.2,fun h=>.inr ⟨hh,c,h⟩⟩
theorem Nh:∀ {l:List Str} {i:Nat} {z:Str},l.Nodup->l[i]? = some z->z∉l.take i
 | [],i,z,_,e,_=>by simp at e
 | a::l,0,z,_,_,h=>by cases h
 | a::l,i+1,z,nd,e,h=>by
  obtain⟨h1,h2⟩:=List.nodup_cons.mp nd
  rw [dA] at e
  rw [List.take_succ_cons] at h
  rcases List.mem_cons.mp h with rfl|h
  ·exact h1 (a9 e)
  ·exact Nh h2 e h
theorem bd2 {f:Addr} {fd:ai} (Z:Facts K t) (F:FunD K "drop" "Plain.drop" Ju f fd .none) (T:Tab P w K mg base 10 (U7 K t) bl):FnOk P w K mg base CX0 11 f fd Oo (ak4 K t):=by
 refine F.okW0 bt3 bz8 T (bo0 K t) (fun vs H Q E h=>?_) (fun vs H Q E h=>?_)
 ·obtain⟨p,d,S,n,rfl,_⟩:=h;rfl
 ·obtain⟨p,d,S,n,rfl,hP,T,hn,k⟩:=h
  obtain⟨dx,e⟩:=id hP.1
  have ed0:=hP.2
  obtain⟨kvs0,ed,g⟩:=hP.2
  refine⟨p,dx,_,⟨t.c_zcl,Qk K t⟩,rfl,.head _,e,rfl,⟨ac _,ac _⟩,⟨p,d,S,n,An S n,rfl,hP,Ao hn,fun _ _=>?_⟩⟩
  refine⟨(show 1<=sizeLine by decide),fun q hq=>?_⟩
  have S1:=Same.upd (o:=.lst [.str n]) hq
  have eq:upd H q (.lst [.str n]) q=some (.lst [.str n]):=Ad
  generalize upd H q (.lst [.str n])=H1 at S1 eq ⊢
  refine⟨p,dx,_,⟨t.c_zcl,bb3 K t⟩,rfl,.head _,S1 _ _ e,rfl,⟨ac _,ac _⟩,⟨p,d,S,n,rfl,hP.up S1,T,hn,fun H2 l ws S2 B el=>?_⟩⟩
  have lb:=Lj T B
  refine .inl ⟨q,l,_,_,rfl,rfl,S2 _ _ eq,el,?_,fun L hL=>?_⟩
  ·rw [aj]
   exact aR (show 1+ws.length<=9 by omega) (by decide)
  have S3:=Same.upd (o:=.lst ([.str n]++ws.map V.str)) hL
  have eL:upd H2 L (.lst ([.str n]++ws.map V.str)) L=some (.lst ((n::ws).map V.str)):=Ad
  generalize upd H2 L (.lst ([.str n]++ws.map V.str))=H3 at S3 eL ⊢
  have S3:=(S1.trans S2).trans S3
  have dL:L≠d:=fun c=>by rw [c,S3 _ _ ed] at eL;cases eL
  have dp:p≠d:=fun c=>by rw [c,ed] at e;cases e
  refine .inl ⟨⟨_,SqL.of eL⟩,?_⟩
  have nd:(n::ws).Nodup:=List.nodup_cons.mpr ⟨fun h=>((B.2 n).mp h).2.1 rfl,B.1⟩
  have al:∀ z∈n::ws,has S z=true:=fun z hz=>by
   rcases List.mem_cons.mp hz with rfl|hz
   ·exact hn
   ·exact ((B.2 z).mp hz).1
  refine Fb (E4 ((n::ws).map V.str)) (fun i σ H'=>(∃ v,σ=[some (.ref p),some (.str n),v])/\But d H H'/\H' L=some (.lst ((n::ws).map V.str))/\RsAt K H' d (S.filter fun r=>decide (r.1∉(n::ws).take i)))
   ⟨⟨_,rfl⟩,But.of S3,eL,?_⟩ (fun i σ' H' _ h=>SqL.of h.2.2.1) ?_ ?_
  ·rw [List.take_zero,List.filter_eq_self.mpr (fun a _=>by simp)]
   exact⟨kvs0,S3 _ _ ed,g.keep (TKeep.of S3)⟩
  ·rintro i x σ H4 hx ⟨⟨v,rfl⟩,B4,eL4,kvs,ed4,g4⟩
   rw [aP] at hx
   obtain⟨z,hz,rfl⟩:=Option.map_eq_some_iff.mp hx
   have zt:=Nh nd hz
   have gz:get (S.filter fun r=>decide (r.1∉(n::ws).take i)) z=some (An S z):=by
    rw [C6 (f:=fun y=>decide (y∉(n::ws).take i)),if_pos (by simpa using zt)]
    exact Ao (al z (a9 hz))
   obtain⟨q4,ev,_⟩:=g4.some gz
   have B5:But d H4 (upd H4 d (.dK (Ha kvs (.inr z)))):=fun b o hb h=>by rw [Ak hb];exact h
   refine .inl ⟨_,_,_,.ref d,B4 _ _ dp e,Z.pl,Z.plr,rfl,.inr ⟨.inr (.inr (.inl ⟨rfl,.inl ⟨kvs,ed4⟩⟩)),d,.inr z,.ref q4,kvs,rfl,rfl,ed4,ev,⟨⟨_,rfl⟩,B4.trans B5,by rw [Ak dL];exact eL4,_,Ad,?_⟩⟩⟩
   have:=(g4.filter (f:=fun y=>decide (y≠z)) (g:=fun y=>decide (y≠.inr z)) fun y=>decide_eq_decide.mpr (not_congr ⟨fun h=>eO h,fun h=>by rw [h]⟩)).keep (B5.tk ed4)
   rw [jc] at this
   rw [d9,hz]
   refine Eq.mp (congrArg (fun S=>KvAt K _ S _) (ft fun p _=>?_)) this
   simp [and_comm,not_or]
  ·rintro σ H4 ⟨⟨v,rfl⟩,B4,_,R⟩
   rw [aj,eI,ap2 T hn B] at R
   exact .inl (k H4 B4 R)
end
section
variable {P:aH} {w:bh} {K:aa} {mg:Str->Option Value} {base:Heap} {t:Adr} {H:Hp}
theorem Gg (Z:Facts K t) {o:Option (Nat×Str)} {n:Nat} {z:Str} {ch:V} {E:XK} {C:Addr} {EE:EK} (B:Bad t H o ch E) (hn:o=some (n,z)) (hC:(Z9 t)[n]? = some C) :
  mkX C (some (Dk K t)) 1 [.str z,ch] H (Sl K fun a H'=>E (.ref a) none H') EE:=by
 intro a ha
 obtain⟨c,n1,n2,_⟩:=Z.bx n C hC
 exact⟨H,a,C,.str z,ch,rfl,ha,rfl,c,n1,n2,fun H' dx S ne e1 e2=>⟨rfl,C,some dx,e1,c,B n z C hn hC _ a (S.set ha) ⟨dx,ne,Ad,by rw [Ak ne];exact e2⟩⟩⟩
theorem Bad.up {H1:Hp} {o:Option (Nat×Str)} {ch:V} {E:XK} (B:Bad t H o ch E) (S:Same H H1):Bad t H1 o ch E:=fun n z C h1 h2 H' a S' f=>B n z C h1 h2 H' a (S.trans S') f
theorem Bad.call {o:Option (Nat×Str)} {ch:V} {E:XK} (B:Bad t H o ch E):Bad t H o ch fun v _ H'=>∃ a,v=.ref a/\E (.ref a) none H':=fun n z C h1 h2 H' a S f=>⟨a,rfl,B n z C h1 h2 H' a S f⟩
theorem NeedO.call {o:Option (Nat×Str)} {ch:V} {Q:VK} {E:XK} (k:NeedO t H o ch Q E):NeedO t H o ch (fun _ H'=>Q .non H') fun v _ H'=>∃ a,v=.ref a/\E (.ref a) none H':=⟨k.1,k.2.call⟩
theorem NeedO.up {H1:Hp} {o:Option (Nat×Str)} {ch:V} {Q:VK} {E:XK} (k:NeedO t H o ch Q E) (S:Same H H1):NeedO t H1 o ch Q E:=⟨fun h H' S'=>k.1 h H' (S.trans S'),k.2.up S⟩
theorem NeedO.seq {o o' o2:Option (Nat×Str)} {ch:V} {Q Q':VK} {E:XK} (k:NeedO t H o2 ch Q E) (h0:o=none->o'=o2) (h1:∀ x,o=some x->o2=some x) (g:∀ H1,o=none->Same H H1->NeedO t H1 o' ch Q E->Q' .non H1):NeedO t H o ch Q' fun v _ H'=>∃ a,v=.ref a/\E (.ref a) none H':=
 ⟨fun h H1 S=>g H1 h S (by rw [h0 h];exact k.up S),fun n z C e1 e2 H' a S f=>⟨a,rfl,k.2 n z C (h1 _ e1) e2 H' a S f⟩⟩
theorem bg6 {f:Addr} {fd:ai} (Z:Facts K t) (F:FunD K "need_new" "need_new" Ku f fd .none) (T:Tab P w K mg base 2 (Fu K t) bl):FnOk P w K mg base (CXE P w) 3 f fd Pq (N7 K t):=by
 refine F.okWX bx0 b35 T (br7 K t) (fun vs H Q E h=>?_) (fun vs H Q E h=>?_)
 ·obtain⟨p,d,S,n,ch,rfl,_⟩:=h;rfl
 ·obtain⟨p,d,S,n,ch,rfl,hP,k⟩:=h
  obtain⟨dx,e⟩:=hP.1
  refine⟨p,dx,_,⟨t.c_zcl,Qh K t⟩,rfl,.head _,e,rfl,⟨ac _,ac _⟩,⟨p,d,S,n,rfl,hP,?_⟩⟩
  refine Bo (c:=has S n=true) (fun g=>?_) (fun g=>?_)
  ·rw [if_pos g] at k
   exact⟨(show 2<=1000 by decide),Gg Z k.2 rfl rfl⟩
  ·rw [if_neg g] at k
   exact k.1 rfl H (Same.refl _)
theorem Wy {ka dx:Addr} {z:Str} {Q:VK} {E:EK} (hz:kdS z) (hk:H ka=some (.ins (kcl t z) dx [])) (k:Q (.bl (decide (z = "chapter"))) H) :
  ∃ a dx fs mi,V.ref ka=.ref a/\mi∈Em K t/\H a=some (.ins mi.C dx fs)/\fs.lookup (d7 "holds")=none/\(0+1<=mi.i.ps.length/\mi.i.ps.length<=0+1+mi.i.dfs.length)/\spE mi.i.sp (mi.i.dfs.drop (0+1+mi.i.dfs.length - mi.i.ps.length)) [.ref a] H Q E:=by
 rcases hz with rfl|rfl
 ·exact⟨ka,dx,[],⟨t.c_zci,bb2 K t⟩,rfl,.head _,hk,rfl,⟨ac 1,ac 1⟩,.ref ka,rfl,k⟩
 ·exact⟨ka,dx,[],⟨t.c_zcp,Qe K t⟩,rfl,.tail _ (.head _),hk,rfl,⟨ac 1,ac 1⟩,.ref ka,rfl,k⟩
theorem Iw {S:Rs}:Iv S "" = none:=if_pos rfl
theorem Ew {S:Rs} {n:Str} (h:n ≠ "") (g:has S n=true):Iv S n=if (An S n).kd = "chapter" then none else some (4,n):=by
 unfold Iv
 rw [if_neg h,Ao g]
theorem bd0 {f:Addr} {fd:ai} (Z:Facts K t) (F:FunD K "need_holder" "need_holder" Jr f fd .none) (T:Tab P w K mg base 4 (Fv K t) bl):FnOk P w K mg base (CXE P w) 5 f fd Ol (N1 K t):=by
 refine F.okWX bt0 bz5 T (bn7 K t) (fun vs H Q E h=>?_) (fun vs H Q E h=>?_)
 ·obtain⟨p,d,S,n,ch,rfl,_⟩:=h;rfl
 ·obtain⟨p,d,S,n,ch,rfl,hP,T,hn,k⟩:=h
  obtain⟨dx,e⟩:=hP.1
  refine Bo (c:=(!decide (n = ""))=true) (fun g=>?_) (fun g=>?_)
  ·have g:n ≠ "" := by simpa using g
   have hn:=hn.resolve_left g
   refine⟨p,dx,_,⟨t.c_zcl,ae0 K t⟩,rfl,.head _,e,rfl,⟨ac _,ac _⟩,⟨p,d,S,n,An S n,rfl,hP,Ao hn,?_⟩⟩
   rw [Ew g hn] at k
   have hk:=T.kd _ _ (Ao hn)
   refine⟨_,rfl,hk,fun H1 ka dk S1 ek=>Wy hk ek ?_⟩
   refine Bo (c:=(!decide ((An S n).kd = "chapter"))=true) (fun g2=>?_) (fun g2=>?_)
   ·have g2:¬ ((An S n).kd = "chapter"):=by simpa using g2
    rw [if_neg g2] at k
    exact⟨(show 2<=1000 by decide),Gg Z (k.2.up S1) rfl rfl⟩
   ·have g2:(An S n).kd = "chapter" := by simpa using g2
    rw [if_pos g2] at k
    exact k.1 rfl H1 S1
  ·have g:n = "" := by simpa using g
   subst g
   exact k.1 Iw H (Same.refl _)
theorem b98 {f:Addr} {fd:ai} (Z:Facts K t) (F:FunD K "need_rest" "Put.need_rest" Tf f fd .none) (T:Tab P w K mg base 5 (Fw K t) bl):FnOk P w K mg base (CXE P w) 6 f fd Zs (a43 K t):=by
 refine F.okWX ch6 cq3 T (ce9 K t) (fun vs H Q E h=>?_) (fun vs H Q E h=>?_)
 ·obtain⟨a,p,d,S,e,ch,rfl,_⟩:=h;rfl
 ·obtain⟨a,p,d,S,e,ch,rfl,hk,hE,ho,hP,T,ha,k⟩:=h
  cases e <;> first|cases hk;done|skip
  rename_i n kd q r c
  obtain⟨dx,ea⟩:=hE
  have Z1:=Z.cl (.put n kd q r c)
  have Z2:=fun f h=>Z.fld (.put n kd q r c) (f:=f) h
  refine bR ⟨_,_,_,_,ea,Z1,(Z2 _ (by decide)),rfl,⟨p,d,S,n,ch,rfl,hP,k.seq (o':=Iv S q) (fun h=>?_) (fun x h=>?_) fun H1 h S1 k1=>?_⟩⟩
  ·have g:¬ has S n=true:=fun c=>by rw [if_pos c] at h;cases h
   exact (if_neg g).symm
  ·have g:has S n=true:=eE fun c=>by rw [if_neg c] at h;cases h
   rw [if_pos g] at h
   rw [<- h]
   exact if_pos g
  ·exact bR ⟨_,_,_,_,(S1 _ _ ea),Z1,(Z2 _ (by decide)),rfl,⟨p,d,S,q,ch,rfl,hP.up S1,T,ha,k1.call⟩⟩
theorem b94 {f:Addr} {fd:ai} (Z:Facts K t) (F:FunD K "need_rest" "Cut.need_rest" S8 f fd .none) (T:Tab P w K mg base 0 (Ax K t) bl):FnOk P w K mg base CX0 1 f fd Zn (a39 K t):=by
 refine F.okW0 ch0 cp8 T (ce4 K t) (fun vs H Q E h=>?_) (fun vs H Q E h=>?_)
 ·obtain⟨a,p,d,S,e,ch,rfl,_⟩:=h;rfl
 ·obtain⟨a,p,d,S,e,ch,rfl,hk,hE,ho,hP,T,ha,k⟩:=h
  cases e <;> first|cases hk;done|skip
  exact k.1 rfl H (Same.refl _)
theorem b92 {f:Addr} {fd:ai} (Z:Facts K t) (F:FunD K "need_rest" "Wrap.need_rest" Sz f fd .none) (T:Tab P w K mg base 3 (D6 K t) bl):FnOk P w K mg base (CXE P w) 4 f fd Zl (a37 K t):=by
 refine F.okWX cg8 cp6 T (ce2 K t) (fun vs H Q E h=>?_) (fun vs H Q E h=>?_)
 ·obtain⟨a,p,d,S,e,ch,rfl,_⟩:=h;rfl
 ·obtain⟨a,p,d,S,e,ch,rfl,hk,hE,ho,hP,T,ha,k⟩:=h
  cases e <;> first|cases hk;done|skip
  rename_i n m x
  obtain⟨dx,ea⟩:=hE
  have Z1:=Z.cl (.wrap n m x)
  have Z2:=fun f h=>Z.fld (.wrap n m x) (f:=f) h
  exact bR ⟨_,_,_,_,ea,Z1,(Z2 _ (by decide)),rfl,⟨p,d,S,m,ch,rfl,hP,k.call⟩⟩
end
theorem ao1 (S:Rs) (z:Str):(wy S z).length<=9:=by
 have go:∀ n z,(wyN n S z).length<=n:=fun n=>by
  induction n with
  | zero=>exact fun z=>ac _
  | succ n ih=>
   intro z
   unfold wyN
   split
   ·exact bC _
   ·split
    ·exact bC _
    ·exact Nat.succ_le_succ (ih _)
 exact go 9 z
section
variable {P:aH} {w:bh} {K:aa} {mg:Str->Option Value} {base:Heap} {t:Adr} {H:Hp}
theorem bh3 {f:Addr} {fd:ai} (Z:Facts K t) (F:FunD K "way_up" "way_up" K1 f fd .none) (T:Tab P w K mg base 4 (Fv K t) bl):FnOk P w K mg base CX0 5 f fd P0 (Ug K t):=by
 refine F.okW0 bx8 b43 T (bs5 K t) (fun vs H Q E h=>?_) (fun vs H Q E h=>?_)
 ·obtain⟨p,d,S,n,rfl,_⟩:=h;rfl
 ·obtain⟨p,d,S,n,rfl,hP,T,hn,k⟩:=h
  refine⟨(show 0<=sizeLine by decide),fun l hl=>?_⟩
  refine⟨fun m σ H'=>∃ w z,m=(wy S z).length/\σ=[some (.ref p),some (.str n),some (.ref l),some (.str z)]/\Same H H'/\H' l=some (.lst (w.map V.str))/\wy S n=w++wy S z/\(z = "" \/ has S z=true),⟨_,[],n,rfl,rfl,Same.upd hl,Ad,rfl,hn⟩,?_⟩
  rintro m σ H1 ⟨w,z,rfl,rfl,S1,el,ew,hz⟩
  refine Bo (c:=(!decide (z = ""))=true) (fun g=>?_) (fun g=>?_)
  ·have g:z ≠ "" := by simpa using g
   have hz:=hz.resolve_left g
   have st:=(T.step hz).1
   have hl9:=ao1 S n
   rw [ew,st,ay,aE] at hl9
   refine⟨fun σ H'=>∃ w2 z2,(wy S z2).length<(wy S z).length/\σ=[some (.ref p),some (.str n),some (.ref l),some (.str z2)]/\Same H H'/\H' l=some (.lst (w2.map V.str))/\wy S n=w2++wy S z2/\(z2 = "" \/ has S z2=true),?_,?_⟩
   ·rintro σ' H' ⟨w2,z2,h1,h2⟩
    exact⟨_,h1,w2,z2,rfl,h2⟩
   ·refine⟨.inl ⟨rfl,_,SqL.of el⟩,l,_,_,rfl,rfl,el,by rw [aj];exact b_ (show w.length<=9 by omega) (by decide),?_⟩
    have S2:Same H (upd H1 l (.lst (w.map V.str++[.str z]))):=S1.set hl
    have hP2:=hP.up S2
    obtain⟨dx,e⟩:=id hP2.1
    refine⟨p,dx,_,⟨t.c_zcl,Rw K t⟩,rfl,.head _,e,rfl,⟨ac _,ac _⟩,⟨p,d,S,z,An S z,rfl,hP2,Ao hz,?_⟩⟩
    exact⟨w++[z],(An S z).pr,by rw [st];exact cG _,rfl,S2,by rw [Ad,bw];rfl,by rw [ew,st,cK];rfl,(T.step hz).2⟩
  ·have g:z = "" := by simpa using g
   subst g
   rw [Oe,cb] at ew
   exact k H1 l S1 (by rw [ew];exact el)
theorem inS {z:Str} {zs:List Str}:inV (.str z) (zs.map V.str)=decide (z∈zs):=by
 induction zs with
 | nil=>rfl
 | cons y zs ih=>
  show ((y==z)||inV (.str z) (zs.map V.str))=_
  rw [ih]
  by_cases e:y=z
  ·subst e;simp
  ·have e2:¬ z=y:=fun c=>e c.symm
   simp [e,e2]
theorem Ry {l:Addr} {zs:List Str} {z:Str} {Q:VK} (e:H l=some (.lst (zs.map V.str))) (k:Q (.bl (decide (z∈zs))) H):Hl K false (.str z) (.ref l) H Q:=by
 refine .inl ⟨l,_,rfl,.inl (SqL.of e),rfl,?_,?_⟩
 ·rw [jy];exact List.all_eq_true.mpr fun _ _=>rfl
 ·rw [if_neg ak,inS];exact k
noncomputable def Qv (i0 i1 i2 i3:FI):Ed->FI
 | .put ..=>i0
 | .cut _=>i1
 | .move ..=>i2
 | .wrap ..=>i3
theorem Sf {n:Nat} {e:Ed} {a:Addr} {m:Str} {i0 i1 i2 i3:FI} {vs:List V} {Q:VK} {E:EK} (hE:EdAt t H e a) (hm:(edF e).lookup m=none)
  (h:(n+1<=(Qv i0 i1 i2 i3 e).ps.length/\(Qv i0 i1 i2 i3 e).ps.length<=n+1+(Qv i0 i1 i2 i3 e).dfs.length)/\spE (Qv i0 i1 i2 i3 e).sp ((Qv i0 i1 i2 i3 e).dfs.drop (n+1+(Qv i0 i1 i2 i3 e).dfs.length - (Qv i0 i1 i2 i3 e).ps.length)) (.ref a::vs) H Q E) :
  ∃ a' dx fs mi,V.ref a=.ref a'/\mi∈[(⟨t.c_zct,i0⟩:MI),⟨t.c_zcs,i1⟩,⟨t.c_zco,i2⟩,⟨t.c_zcr,i3⟩]/\H a'=some (.ins mi.C dx fs)/\fs.lookup m=none/\(n+1<=mi.i.ps.length/\mi.i.ps.length<=n+1+mi.i.dfs.length)/\spE mi.i.sp (mi.i.dfs.drop (n+1+mi.i.dfs.length - mi.i.ps.length)) (.ref a'::vs) H Q E:=by
 obtain⟨dx,ea⟩:=hE
 cases e with
 | put=>exact⟨a,dx,_,⟨t.c_zct,i0⟩,rfl,.head _,ea,hm,h⟩
 | cut=>exact⟨a,dx,_,⟨t.c_zcs,i1⟩,rfl,.tail _ (.head _),ea,hm,h⟩
 | move=>exact⟨a,dx,_,⟨t.c_zco,i2⟩,rfl,.tail _ (.tail _ (.head _)),ea,hm,h⟩
 | wrap=>exact⟨a,dx,_,⟨t.c_zcr,i3⟩,rfl,.tail _ (.tail _ (.tail _ (.head _))),ea,hm,h⟩
theorem Ut {e:Ed} {a:Addr} {Q:VK} {E:EK} (hE:EdAt t H e a) (k:Q (.str (abo e)) H) :
  ∃ a' dx fs mi,V.ref a=.ref a'/\mi∈Cp K t/\H a'=some (.ins mi.C dx fs)/\fs.lookup ("about" : Str)=none/\(0+1<=mi.i.ps.length/\mi.i.ps.length<=0+1+mi.i.dfs.length)/\spE mi.i.sp (mi.i.dfs.drop (0+1+mi.i.dfs.length - mi.i.ps.length)) [.ref a'] H Q E:=by
 refine Sf hE (by cases e <;> rfl) ?_
 cases e with
 | put=>exact⟨⟨ac _,ac _⟩,a,_,rfl,rfl,hE,k⟩
 | cut=>exact⟨⟨ac _,ac _⟩,a,_,rfl,(fun c=>by cases c),hE,k⟩
 | move=>exact⟨⟨ac _,ac _⟩,a,_,rfl,(fun c=>by cases c),hE,k⟩
 | wrap=>exact⟨⟨ac _,ac _⟩,a,_,rfl,(fun c=>by cases c),hE,k⟩
theorem Ia {S:Rs} {n q:Str} {r:Int} (h:q = "" \/ has S q=true):rest S (.move n q r)=if n∈wy S q then some (3,n) else Iv S q:=by
 unfold rest
 refine if_neg fun c=>?_
 rcases h with h|h
 ·exact c.1 h
 ·rw [h] at c;cases c.2
theorem b91 {f:Addr} {fd:ai} (Z:Facts K t) (F:FunD K "need_rest" "Move.need_rest" Sx f fd .none) (T:Tab P w K mg base 5 (Fw K t) bl):FnOk P w K mg base (CXE P w) 6 f fd Zj (a35 K t):=by
 refine F.okWX cg6 cp4 T (ce0 K t) (fun vs H Q E h=>?_) (fun vs H Q E h=>?_)
 ·obtain⟨a,p,d,S,e,ch,rfl,_⟩:=h;rfl
 ·obtain⟨a,p,d,S,e,ch,rfl,hk,hE,ho,hP,T,ha,k⟩:=h
  cases e <;> first|cases hk;done|skip
  rename_i n q r
  obtain⟨dx,ea⟩:=hE
  have Z1:=Z.cl (.move n q r)
  have Z2:=fun f h=>Z.fld (.move n q r) (f:=f) h
  obtain⟨dp,ep⟩:=hP.1
  refine bR ⟨_,_,_,_,ea,Z1,(Z2 _ (by decide)),rfl,(Bo (c:=(!decide (q = ""))=true) (fun g=>⟨p,dp,_,⟨t.c_zcl,Qh K t⟩,rfl,.head _,ep,rfl,⟨ac _,ac _⟩,bR ⟨_,_,_,_,ea,Z1,(Z2 _ (by decide)),rfl,⟨p,d,S,q,rfl,hP,Bo (c:=(!has S q)=true) (fun g2=>?_) (fun g2=>?_)⟩⟩⟩) (fun g=>?_))⟩
  ·have g:q ≠ "" := by simpa using g
   have g2:has S q=false:=by simpa using g2
   rw [show rest S (.move n q r)=some (2,q) from if_pos ⟨g,g2⟩] at k
   exact bR ⟨_,_,_,_,ea,Z1,(Z2 _ (by decide)),rfl,⟨(show 2<=1000 by decide),Gg Z k.2 rfl rfl⟩⟩
  all_goals
   have h:q = "" \/ has S q=true:=by first|exact .inl (by simpa using g)|exact .inr (by simpa using g2)
   rw [Ia h] at k
   refine bR ⟨_,_,_,_,ea,Z1,(Z2 _ (by decide)),rfl,(bR ⟨_,_,_,_,ea,Z1,(Z2 _ (by decide)),rfl,⟨p,d,S,q,rfl,hP,T,h,fun H1 l S1 el=>Ry el (Bo (c:=decide (n∈wy S q)=true) (fun g3=>?_) (fun g3=>?_))⟩⟩)⟩
   ·have g3:=of_decide_eq_true g3
    rw [if_pos g3] at k
    exact bR ⟨_,_,_,_,(S1 _ _ ea),Z1,(Z2 _ (by decide)),rfl,⟨(show 2<=1000 by decide),Gg Z (k.2.up S1) rfl rfl⟩⟩
   ·rw [if_neg (fun c=>g3 (decide_eq_true c))] at k
    exact bR ⟨_,_,_,_,(S1 _ _ ea),Z1,(Z2 _ (by decide)),rfl,⟨p,d,S,q,ch,rfl,hP.up S1,T,h,(k.up S1).call⟩⟩
theorem Nl {f:Addr} {fd:ai} (Z:Facts K t) (F:FunD K "need" "Edit.need" Dr f fd t.dv_zam) (T:Tab P w K mg base 6 (ap7 K t) bl):FnOk P w K mg base (CXE P w) 7 f fd Oy (Tw K t):=by
 refine F.okWX bu2 b07 T (bo9 K t) (fun vs H Q E h=>?_) (fun vs H Q E h=>?_)
 ·obtain⟨a,p,d,S,e,ch,rfl,_⟩:=h;rfl
 ·obtain⟨a,p,d,S,e,ch,rfl,hE,ho,hP,T,k⟩:=h
  obtain⟨dp,ep⟩:=hP.1
  have go:(abo e = "" \/ has S (abo e)=true) -> ∃ a' dx fs mi,V.ref a=.ref a'/\mi∈Ce K t/\H a'=some (.ins mi.C dx fs)/\fs.lookup ("need_rest" : Str)=none/\(2+1<=mi.i.ps.length/\mi.i.ps.length<=2+1+mi.i.dfs.length)/\spE mi.i.sp (mi.i.dfs.drop (2+1+mi.i.dfs.length - mi.i.ps.length)) [.ref a',.ref p,ch] H (fun _ H'=>Q .non H') fun a H'=>E (.ref a) none H':=fun h=>by
   have er:due S e=rest S e:=if_neg fun c=>by
    rcases h with h|h
    ·exact c.1 h
    ·rw [h] at c;cases c.2
   rw [er] at k
   refine Sf hE (by cases e <;> rfl) ?_
   cases e with
   | put=>exact⟨⟨ac _,ac _⟩,a,p,d,S,_,ch,rfl,rfl,hE,ho,hP,T,h,k.call⟩
   | cut=>exact⟨⟨ac _,ac _⟩,a,p,d,S,_,ch,rfl,rfl,hE,ho,hP,T,h,k.call⟩
   | move=>exact⟨⟨ac _,ac _⟩,a,p,d,S,_,ch,rfl,rfl,hE,ho,hP,T,h,k.call⟩
   | wrap=>exact⟨⟨ac _,ac _⟩,a,p,d,S,_,ch,rfl,rfl,hE,ho,hP,T,h,k.call⟩
  refine Ut hE (Bo (c:=(!decide (abo e = ""))=true) (fun g=>?_) (fun g=>?_))
  ·have g:abo e ≠ "" := by simpa using g
   refine⟨p,dp,_,⟨t.c_zcl,Qh K t⟩,rfl,.head _,ep,rfl,⟨ac _,ac _⟩,Ut hE ⟨p,d,S,_,rfl,hP,?_⟩⟩
   refine Bo (c:=(!has S (abo e))=true) (fun g2=>?_) (fun g2=>?_)
   ·have g2:has S (abo e)=false:=by simpa using g2
    rw [show due S e=some (0,abo e) from if_pos ⟨g,g2⟩] at k
    exact Ut hE ⟨(show 2<=1000 by decide),Gg Z k.2 rfl rfl⟩
   ·exact go (.inr (by simpa using g2))
  ·exact go (.inl (by simpa using g))
theorem Ev {S:Rs} {e:Ed} (h:due S e=none):abo e = "" \/ has S (abo e)=true:=by
 by_cases c:abo e = ""
 ·exact .inl c
 ·right
  by_cases g:has S (abo e)=true
  ·exact g
  ·rw [show due S e=some (0,abo e) from if_pos ⟨c,by simpa using g⟩] at h
   cases h
theorem EdAt.but {H':Hp} {a d:Addr} {S:Rs} {e:Ed} (h:EdAt t H e a) (R:RsAt K H d S) (B:But d H H'):EdAt t H' e a:=by
 obtain⟨dx,e⟩:=h
 obtain⟨kvs,ed,_⟩:=R
 exact⟨dx,B _ _ (fun c=>by rw [c,ed] at e;cases e) e⟩
theorem Tr.lt {S:Rs} (T:Tr S):S.length<100:=b_ T.few (by decide)
theorem bd5 {f:Addr} {fd:ai} (Z:Facts K t) (F:FunD K "change" "Put.change" Jx f fd .none) (T:Tab P w K mg base 1 (D5 K t) bl):FnOk P w K mg base CX0 2 f fd Os (ak7 K t):=by
 refine F.okW0 bt6 b01 T (bo3 K t) (fun vs H Q E h=>?_) (fun vs H Q E h=>?_)
 ·obtain⟨a,p,d,S,e,rfl,_⟩:=h;rfl
 ·obtain⟨a,p,d,S,e,rfl,hk,⟨dx,ea⟩,ho,hP,T,hd,k⟩:=h
  cases e <;> first|cases hk;done|skip
  rename_i n kd q r c
  have Z1:=Z.cl (.put n kd q r c)
  have Z2:=fun f h=>Z.fld (.put n kd q r c) (f:=f) h
  obtain⟨dp,ep⟩:=id hP.1
  exact⟨p,dp,_,⟨t.c_zcl,Qi K t⟩,rfl,.head _,ep,rfl,⟨ac _,ac _⟩,bR ⟨_,_,_,_,ea,Z1,(Z2 _ (by decide)),rfl,(bR ⟨_,_,_,_,ea,Z1,(Z2 _ (by decide)),rfl,(bR ⟨_,_,_,_,ea,Z1,(Z2 _ (by decide)),rfl,(bR ⟨_,_,_,_,ea,Z1,(Z2 _ (by decide)),rfl,(bR ⟨_,_,_,_,ea,Z1,(Z2 _ (by decide)),rfl,⟨p,d,S,n,⟨kd,q,r,c⟩,rfl,hP,T.lt,fun H' B R=>k H' B R⟩⟩)⟩)⟩)⟩)⟩⟩
theorem bd1 {f:Addr} {fd:ai} (Z:Facts K t) (F:FunD K "change" "Cut.change" Js f fd .none) (T:Tab P w K mg base 11 (U8 K t) bl):FnOk P w K mg base CX0 12 f fd Om (ak2 K t):=by
 refine F.okW0 bt1 bz6 T (bn8 K t) (fun vs H Q E h=>?_) (fun vs H Q E h=>?_)
 ·obtain⟨a,p,d,S,e,rfl,_⟩:=h;rfl
 ·obtain⟨a,p,d,S,e,rfl,hk,⟨dx,ea⟩,ho,hP,T,hd,k⟩:=h
  cases e <;> first|cases hk;done|skip
  rename_i n
  have Z1:=Z.cl (.cut n)
  have Z2:=fun f h=>Z.fld (.cut n) (f:=f) h
  obtain⟨dp,ep⟩:=id hP.1
  have hn:=(Ev hd).resolve_left (Gd ho)
  exact⟨p,dp,_,⟨t.c_zcl,ad7 K t⟩,rfl,.head _,ep,rfl,⟨ac _,ac _⟩,bR ⟨_,_,_,_,ea,Z1,(Z2 _ (by decide)),rfl,⟨p,d,S,n,rfl,hP,T,hn,fun H' B R=>k H' B R⟩⟩⟩
theorem ca3 {f:Addr} {fd:ai} (Z:Facts K t) (F:FunD K "change" "Move.change" Tk f fd .none) (T:Tab P w K mg base 5 (Fw K t) bl):FnOk P w K mg base CX0 6 f fd Zx (a45 K t):=by
 refine F.okW0 ci1 cq8 T (cf4 K t) (fun vs H Q E h=>?_) (fun vs H Q E h=>?_)
 ·obtain⟨a,p,d,S,e,rfl,_⟩:=h;rfl
 ·obtain⟨a,p,d,S,e,rfl,hk,⟨dx,ea⟩,ho,hP,T,hd,k⟩:=h
  cases e <;> first|cases hk;done|skip
  rename_i n q r
  have Z1:=Z.cl (.move n q r)
  have Z2:=fun f h=>Z.fld (.move n q r) (f:=f) h
  have hn:=(Ev hd).resolve_left (Gd ho.1)
  exact bR ⟨_,_,_,_,ea,Z1,(Z2 _ (by decide)),rfl,(bR ⟨_,_,_,_,ea,Z1,(Z2 _ (by decide)),rfl,(bR ⟨_,_,_,_,ea,Z1,(Z2 _ (by decide)),rfl,⟨p,d,S,n,q,r,rfl,hP,T.lt,hn,fun H' B R=>k H' B R⟩⟩)⟩)⟩
theorem at2 {S:Rs} {z y:Str} {r:Rc} (h:has S z=true):has (Ci S y r) z=true:=by
 unfold has
 rw [Bz]
 split
 ·rfl
 ·exact h
theorem Vr {S:Rs} {z y:Str} {r:Rc} (h:z≠y):An (Ci S y r) z=An S z:=by
 unfold An
 rw [Bz,if_neg h]
theorem Vq {S:Rs} {y:Str} {r:Rc}:(Ci S y r).length<=S.length+1:=by
 unfold Ci
 split
 ·rw [aj];omega
 ·rw [ay];exact ac _
theorem ca6 {f:Addr} {fd:ai} (Z:Facts K t) (F:FunD K "change" "Wrap.change" Tn f fd .none) (T:Tab P w K mg base 5 (Fw K t) bl):FnOk P w K mg base CX0 6 f fd Z0 (a48 K t):=by
 refine F.okW0 ci4 cr1 T (cf7 K t) (fun vs H Q E h=>?_) (fun vs H Q E h=>?_)
 ·obtain⟨a,p,d,S,e,rfl,_⟩:=h;rfl
 ·obtain⟨a,p,d,S,e,rfl,hk,hE,ho,hP,T,hd,k⟩:=h
  cases e <;> first|cases hk;done|skip
  rename_i n m x
  have Z1:=Z.cl (.wrap n m x)
  have Z2:=fun f h=>Z.fld (.wrap n m x) (f:=f) h
  obtain⟨dp,ep⟩:=id hP.1
  obtain⟨dx,ea⟩:=id hE
  have hn:=(Ev hd).resolve_left (Gd ho.1)
  have hm:¬ has S m=true:=fun c=>by
   rw [show due S (.wrap n m x)=some (1,m) from (if_neg (fun z=>by rw [show has S (abo (.wrap n m x))=true from hn] at z;cases z.2)).trans (if_pos c)] at hd
   cases hd
  have nm:n≠m:=fun c=>hm (c▸hn)
  refine⟨p,dp,_,⟨t.c_zcl,Qi K t⟩,rfl,.head _,ep,rfl,⟨ac _,ac _⟩,bR ⟨_,_,_,_,ea,Z1,(Z2 _ (by decide)),rfl,⟨p,dp,_,⟨t.c_zcl,Rw K t⟩,rfl,.head _,ep,rfl,⟨ac _,ac _⟩,bR ⟨_,_,_,_,ea,Z1,(Z2 _ (by decide)),rfl,⟨p,d,S,n,An S n,rfl,hP,Ao hn,⟨p,dp,_,⟨t.c_zcl,aq4 K t⟩,rfl,.head _,ep,rfl,⟨ac _,ac _⟩,bR ⟨_,_,_,_,ea,Z1,(Z2 _ (by decide)),rfl,⟨p,d,S,n,An S n,rfl,hP,Ao hn,bR ⟨_,_,_,_,ea,Z1,(Z2 _ (by decide)),rfl,⟨p,d,S,m,⟨"chapter", (An S n).pr,(An S n).rk,x⟩,rfl,hP,T.lt,fun H1 B1 R1=>?_⟩⟩⟩⟩⟩⟩⟩⟩⟩⟩
  have hE1:=hE.but hP.2 B1
  have hP1:=hP.but B1 R1
  obtain⟨dx1,ea1⟩:=id hE1
  have l1:=Vq (S:=S) (y:=m) (r:=⟨"chapter", (An S n).pr,(An S n).rk,x⟩)
  have:=T.few
  refine bR ⟨_,_,_,_,ea1,Z1,(Z2 _ (by decide)),rfl,(bR ⟨_,_,_,_,ea1,Z1,(Z2 _ (by decide)),rfl,⟨p,d,_,n,m,0,rfl,hP1,by omega,at2 hn,fun H2 B2 R2=>k H2 (B1.trans B2) ?_⟩⟩)⟩
  rw [Vr nm] at R2
  exact R2
theorem Nm {f:Addr} {fd:ai} (Z:Facts K t) (F:FunD K "on" "Edit.on" Ds f fd t.dv_zbp) (T:Tab P w K mg base 12 (U9 K t) bl):FnOk P w K mg base (CXE P w) 13 f fd Ps (am5 K t):=by
 refine F.okWX bx1 b36 T (br8 K t) (fun vs H Q E h=>?_) (fun vs H Q E h=>?_)
 ·obtain⟨a,p,d,S,e,ch,rfl,_⟩:=h;rfl
 ·obtain⟨a,p,d,S,e,ch,rfl,hE,ho,hP,T,k,kb⟩:=h
  refine Sf hE (by cases e <;> rfl) ?_
  have g:Tw K t [.ref a,.ref p,ch] H (fun _ H1=>∃ a' dx fs mi,V.ref a=.ref a'/\mi∈Do K t/\H1 a'=some (.ins mi.C dx fs)/\fs.lookup ("change" : Str)=none/\(1+1<=mi.i.ps.length/\mi.i.ps.length<=1+1+mi.i.dfs.length)/\spE mi.i.sp (mi.i.dfs.drop (1+1+mi.i.dfs.length - mi.i.ps.length)) [.ref a',.ref p] H1 (fun _ H'=>Q .non H') fun a H'=>E (.ref a) none H') fun v _ H'=>∃ a,v=.ref a/\E (.ref a) none H':=by
   refine⟨a,p,d,S,e,ch,rfl,hE,ho,hP,T,fun h H1 S1=>?_,kb.call⟩
   have hE1:EdAt t H1 e a:=by obtain⟨dx,ea⟩:=hE;exact⟨dx,S1 _ _ ea⟩
   refine Sf hE1 (by cases e <;> rfl) ?_
   have k2:∀ H2,But d H1 H2->RsAt K H2 d (upS S e)->Q .non H2:=fun H2 B R=>k h H2 ((But.of S1).trans B) R
   cases e with
   | put=>exact⟨⟨ac _,ac _⟩,a,p,d,S,_,rfl,rfl,hE1,ho,hP.up S1,T,h,k2⟩
   | cut=>exact⟨⟨ac _,ac _⟩,a,p,d,S,_,rfl,rfl,hE1,ho,hP.up S1,T,h,k2⟩
   | move=>exact⟨⟨ac _,ac _⟩,a,p,d,S,_,rfl,rfl,hE1,ho,hP.up S1,T,h,k2⟩
   | wrap=>exact⟨⟨ac _,ac _⟩,a,p,d,S,_,rfl,rfl,hE1,ho,hP.up S1,T,h,k2⟩
  cases e <;> exact⟨⟨ac _,(show 3<=4 by decide)⟩,g⟩
theorem RsAt.isIn {d:Addr} {S:Rs} (h:RsAt K H d S) (z:Str):∃ o,D9 H d (.str z) o/\o.isSome=has S z:=by
 obtain⟨kvs,e,a⟩:=h
 exact⟨_,.inl ⟨kvs,.inr z,.inl e,rfl,rfl⟩,a.isSome z⟩
theorem RdAt.up {H':Hp} {d:Addr} {S:Rs} (h:RdAt K H d S) (T:Same H H'):RdAt K H' d S:=by
 obtain⟨kvs,e,g⟩:=h
 exact⟨kvs,e.imp (T _ _) fun⟨o,e⟩=>⟨o,T _ _ e⟩,g.keep (TKeep.of T)⟩
theorem RdAt.get {d:Addr} {S:Rs} {z:Str} {r:Rc} (h:RdAt K H d S) (g:K25.get S z=some r):∃ q,D9 H d (.str z) (some (.ref q))/\SqT K H q (rcV r):=by
 obtain⟨kvs,e,a⟩:=h
 obtain⟨q,h1,h2⟩:=a.some g
 exact⟨q,.inl ⟨kvs,.inr z,e,rfl,h1.symm⟩,h2⟩
theorem RsAt.rd {d:Addr} {S:Rs} (h:RsAt K H d S):RdAt K H d S:=by
 obtain⟨kvs,e,a⟩:=h
 exact⟨kvs,.inl e,a⟩
theorem bg2 {f:Addr} {fd:ai} (Z:Facts K t) (F:FunD K "_law_line" "_law_line" Kq f fd .none) (T:Tab P w K mg base 0 (Ax K t) bl):FnOk P w K mg base CX0 1 f fd Pm (N5 K t):=by
 refine F.okW0 bw6 b31 T (br3 K t) (fun vs H Q E h=>?_) (fun vs H Q E h=>?_)
 ·obtain⟨d,S,n,rfl,_⟩:=h;rfl
 ·obtain⟨d,S,n,rfl,hR,T,hn,k⟩:=h
  refine⟨(show 1<=sizeLine by decide),fun l hl=>?_⟩
  refine⟨fun m σ H'=>∃ w z,m=(wy S z).length/\σ=[some (.ref d),some (.str n),some (.ref l)]/\Same H H'/\H' l=some (.lst (w.map V.str++[.str z]))/\wy S n=w++wy S z/\has S z=true,⟨_,[],n,rfl,rfl,Same.upd hl,Ad,rfl,hn⟩,?_⟩
  rintro m σ H1 ⟨w,z,rfl,rfl,S1,el,ew,hz⟩
  obtain⟨st,sp⟩:=T.step hz
  obtain⟨q,dg,hq⟩:=(hR.up S1).get (Ao hz)
  refine⟨_,_,.inl (SqL.of el),P4 _ _,_,dg,_,_,.inr hq,rfl,Bo (c:=(!decide ((An S z).pr = ""))=true) (fun g=>?_) (fun g=>?_)⟩
  ·have g:(An S z).pr ≠ "" := by simpa using g
   have hl9:=ao1 S n
   rw [ew,st,ay,aE] at hl9
   refine⟨fun σ H'=>∃ w2 z2,(wy S z2).length<(wy S z).length/\σ=[some (.ref d),some (.str n),some (.ref l)]/\Same H H'/\H' l=some (.lst (w2.map V.str++[.str z2]))/\wy S n=w2++wy S z2/\has S z2=true,?_,?_⟩
   ·rintro σ' H' ⟨w2,z2,h1,h2⟩
    exact⟨_,h1,w2,z2,rfl,h2⟩
   ·refine⟨.inl ⟨rfl,_,SqL.of el⟩,_,_,.inl (SqL.of el),P4 _ _,_,dg,_,_,.inr hq,rfl,l,_,_,rfl,rfl,el,?_,?_⟩
    ·rw [ay,aj]
     exact b_ (show w.length+1<=10 by omega) (by decide)
    ·exact⟨w++[z],(An S z).pr,by rw [st];exact cG _,rfl,S1.set hl,by rw [Ad,bw];rfl,by rw [ew,st,cK];rfl,sp.resolve_left g⟩
  ·have g:(An S z).pr = "" := by simpa using g
   rw [st,g,Oe] at ew
   exact k H1 l S1 (by rw [ew,bw];exact el)
theorem Cv {o:Option (Nat×Str)} {i:Nat} {z:Str} {q:Addr} (h:o=some (i,z)) (e:SqT K H q [.str (words.getD i ""),.str z]):dueV o K H (.ref q):=by subst h;exact⟨q,rfl,e⟩
theorem Dd {o:Option (Nat×Str)} (h:o=none):dueV o K H .non:=by subst h;rfl
theorem ca8 {f:Addr} {fd:ai} (Z:Facts K t) (F:FunD K "_law_refusal" "_law_refusal" Tp f fd .none) (T:Tab P w K mg base 1 (D5 K t) bl):FnOk P w K mg base CX0 2 f fd Z4 (am8 K t):=by
 refine F.okW0 ci6 cr3 T (cf9 K t) (fun vs H Q E h=>?_) (fun vs H Q E h=>?_)
 ·obtain⟨d,p,S,e,rfl,_⟩:=h;rfl
 ·obtain⟨d,p,S,e,rfl,hR,T,td,ho,k⟩:=h
  obtain⟨o,dg,hs⟩:=hR.isIn (abo e)
  obtain⟨kvs,ed,_⟩:=id hR
  refine⟨p,e,rfl,td,Bo (c:=(!decide (abo e = ""))=true) (fun g=>.inr ⟨o,dg,Bo (c:=(!o.isSome)=true) (fun g2=>?_) (fun g2=>?_)⟩) (fun g=>?_)⟩
  ·rw [hs] at g2
   exact⟨(show 2<=sizeLine by decide),fun q hq=>k _ _ (Same.upd hq) (Cv (if_pos ⟨by simpa using g,by simpa using g2⟩) (SqT.of Ad))⟩
  all_goals
   have hh:abo e = "" \/ has S (abo e)=true:=by first|exact .inl (by simpa using g)|exact .inr (by rw [hs] at g2;simpa using g2)
   have er:due S e=rest S e:=if_neg fun c=>by
    rcases hh with h|h
    ·exact c.1 h
    ·rw [h] at c;cases c.2
   rw [er] at k
   clear g
   cases e with
   | cut n=>
    have td2:SqT K H p [.str "cut", .str n]:=td
    exact⟨p,_,rfl,td,.inr ⟨kvs,.inl ed,Hk ⟨_,_,.inr td2,rfl,⟨_,_,.inr td2,rfl,(k H .non (Same.refl _) (Dd rfl))⟩⟩⟩⟩
   | wrap n m x=>
    have td2:SqT K H p [.str "wrap", .str n,.str m,.str x]:=td
    obtain⟨o2,dg2,hs2⟩:=hR.isIn m
    refine⟨p,_,rfl,td,.inr ⟨o2,dg2,Bo (c:=o2.isSome=true) (fun g3=>?_) (fun g3=>?_)⟩⟩
    ·rw [hs2] at g3
     exact⟨p,_,rfl,td,(show 2<=sizeLine by decide),fun q hq=>k _ _ (Same.upd hq) (Cv (if_pos g3) (SqT.of Ad))⟩
    ·rw [hs2] at g3
     exact⟨_,_,.inr td2,rfl,⟨_,_,.inr td2,rfl,(k H .non (Same.refl _) (Dd (if_neg g3)))⟩⟩
   | put n kd q r c=>
    have td2:SqT K H p [.str "put", .str n,.str kd,.str q,.int r,.str c]:=td
    obtain⟨o2,dg2,hs2⟩:=hR.isIn n
    refine⟨p,_,rfl,td,.inr ⟨o2,dg2,Bo (c:=o2.isSome=true) (fun g3=>?_) (fun g3=>?_)⟩⟩
    ·rw [hs2] at g3
     exact⟨p,_,rfl,td,(show 2<=sizeLine by decide),fun q hq=>k _ _ (Same.upd hq) (Cv (if_pos g3) (SqT.of Ad))⟩
    ·rw [hs2] at g3
     rw [show rest S (.put n kd q r c)=Iv S q from if_neg g3] at k
     refine⟨_,_,.inr td2,rfl,⟨_,_,.inr td2,rfl,Bo (c:=(!decide (q = ""))=true) (fun g4=>?_) (fun g4=>?_)⟩⟩
     ·have g4:q ≠ "" := by simpa using g4
      have hq:=hh.resolve_left g4
      obtain⟨a,dg3,ha⟩:=hR.rd.get (Ao hq)
      rw [Ew g4 hq] at k
      refine⟨_,dg3,_,_,.inr ha,rfl,Bo (c:=(!decide ((An S q).kd = "chapter"))=true) (fun g5=>?_) (fun g5=>?_)⟩
      ·exact⟨(show 2<=sizeLine by decide),fun q hq=>k _ _ (Same.upd hq) (Cv (if_neg (by simpa using g5)) (SqT.of Ad))⟩
      ·exact k H .non (Same.refl _) (Dd (if_pos (by simpa using g5)))
     ·have g4:q = "" := by simpa using g4
      subst g4
      exact Hk (k H .non (Same.refl _) (Dd Iw))
   | move n q r=>
    have td2:SqT K H p [.str "move", .str n,.str q,.int r]:=td
    refine⟨p,_,rfl,td,.inr ⟨kvs,.inl ed,Hk ⟨_,_,.inr td2,rfl,⟨_,_,.inr td2,rfl,⟨_,_,.inr td2,rfl,Bo (c:=(!decide (q = ""))=true) (fun g4=>?_) (fun g4=>?_)⟩⟩⟩⟩⟩
    ·have g4:q ≠ "" := by simpa using g4
     obtain⟨o2,dg2,hs2⟩:=hR.isIn q
     refine⟨_,_,.inr td2,rfl,.inr ⟨o2,dg2,Bo (c:=(!o2.isSome)=true) (fun g3=>?_) (fun g3=>?_)⟩⟩
     ·rw [hs2] at g3
      exact⟨(show 2<=sizeLine by decide),fun q hq=>k _ _ (Same.upd hq) (Cv (if_pos ⟨g4,by simpa using g3⟩) (SqT.of Ad))⟩
     ·rw [hs2] at g3
      have hq:has S q=true:=by simpa using g3
      rw [Ia (.inr hq)] at k
      refine⟨d,S,q,rfl,hR.rd,T,hq,fun H1 l S1 el=>Ry el (Bo (c:=decide (n∈wy S q)=true) (fun g5=>?_) (fun g5=>?_))⟩
      ·exact⟨(show 2<=sizeLine by decide),fun q hq=>k _ _ (S1.trans (Same.upd hq)) (Cv (if_pos (of_decide_eq_true g5)) (SqT.of Ad))⟩
      ·rw [if_neg (fun c=>g5 (decide_eq_true c)),Ew g4 hq] at k
       obtain⟨a,dg3,ha⟩:=(hR.up S1).rd.get (Ao hq)
       refine Qm (show (!decide (q = ""))=true by simpa using g4) ⟨_,dg3,_,_,.inr ha,rfl,Bo (c:=(!decide ((An S q).kd = "chapter"))=true) (fun g5=>?_) (fun g5=>?_)⟩
       ·exact⟨(show 2<=sizeLine by decide),fun q hq=>k _ _ (S1.trans (Same.upd hq)) (Cv (if_neg (by simpa using g5)) (SqT.of Ad))⟩
       ·exact k H1 .non S1 (Dd (if_pos (by simpa using g5)))
    ·have g4:q = "" := by simpa using g4
     subst g4
     refine k H .non (Same.refl _) (Dd ?_)
     rw [Ia (.inl rfl),Oe,if_neg (fun c=>by cases c)]
     exact Iw
theorem sto {d q:Addr} {S:Rs} {z:Str} {r:Rc} {N:Hp->Prop} (hR:RsAt K H d S) (hl:S.length<100) (hq:SqT K H q (rcV r)) (k:∀ H',But d H H'->RsAt K H' d (Ci S z r)->N H'):aj6 (.ref d) (.str z) (.ref q) H N:=by
 obtain⟨kvs,ed,g⟩:=hR
 have B:But d H (upd H d (.dK (C9 kvs (.inr z) (.ref q)))):=But.upd
 exact⟨_,.inl ⟨kvs,.inr z,ed,rfl,by rw [g.len];exact ij hl (by decide),rfl⟩,k _ B ⟨_,Ad,(g.put hq).keep (B.tk ed)⟩⟩
theorem Wo {S:Rs} {l:List Str} {i:Nat} {z:Str} {kvs:List (Key×V)} (g:KvAt K H (S.filter fun r=>decide (r.1∉l.take i)) kvs) (nd:l.Nodup) (hz:l[i]? = some z) (hs:has S z=true) :
  (∃ q,A9 kvs (.inr z)=some (.ref q))/\KvAt K H (S.filter fun r=>decide (r.1∉l.take (i+1))) (Ha kvs (.inr z)):=by
 have zt:=Nh nd hz
 have gz:get (S.filter fun r=>decide (r.1∉l.take i)) z=some (An S z):=by
  rw [C6 (f:=fun y=>decide (y∉l.take i)),if_pos (by simpa using zt)]
  exact Ao hs
 obtain⟨q,ev,_⟩:=g.some gz
 refine⟨⟨q,ev⟩,?_⟩
 have:=g.filter (f:=fun y=>decide (y≠z)) (g:=fun y=>decide (y≠.inr z)) fun y=>decide_eq_decide.mpr (not_congr ⟨fun h=>eO h,fun h=>by rw [h]⟩)
 rw [jc] at this
 rw [d9,hz]
 refine Eq.mp (congrArg (fun S=>KvAt K _ S _) (ft fun p _=>?_)) this
 simp [and_comm,not_or]
theorem a56 {p:Addr} {o:Obj} (kvs:List (Key×V)):Dx (Itd p o kvs) (kvs.map fun kv=>kV kv.1) (fun H=>H p=some (.frz o (.dK kvs))):=by
 refine⟨fun i H q h=>⟨q,by rw [aj] at h;exact h⟩,fun H q=>⟨q,by rw [aj];exact ac _⟩,fun i H x H' q _ h=>?_⟩
 obtain⟨h1,k,v,h2,h3⟩:=h
 refine⟨h1,?_⟩
 rw [aP,h2,h3]
 rfl
theorem KvAt.names {S:Rs} {kvs:List (Key×V)} (g:KvAt K H S kvs):(kvs.map fun kv=>kV kv.1)=(K25.keys S).map V.str:=by
 have:=congrArg (gQ kV) g.keys
 rw [cq,cq] at this
 exact this
theorem ap1 {S:Rs} {n:Str}:(S.filter fun p=>decide (p.1∉(keys S).filter fun z=>decide (n∈wy S z)))=Hh S n:=by
 unfold Hh
 refine ft fun p hp=>decide_eq_decide.mpr (not_congr ?_)
 rw [c_,decide_eq_true_iff]
 exact⟨fun h=>h.2,fun h=>⟨fW hp,h⟩⟩
theorem an1 {d:Addr} {o:HO} {u:HO} {Hf H1:Hp} (ed:H d=some u) (b:But d H Hf) (S:Same Hf H1):Same H (upd H1 d u):=fun c v h=>by
 by_cases e:c=d
 ·subst e;rw [Ad,<- ed];exact h
 ·rw [Ak e];exact S _ _ (b _ _ e h)
theorem bg1 {f:Addr} {fd:ai} (Z:Facts K t) (F:FunD K "_law_done" "_law_done" Kp f fd .none) (T:Tab P w K mg base 1 (D5 K t) bl):FnOk P w K mg base CX0 2 f fd Pl (Uc K t):=by
 refine F.okW0 bw5 b30 T (br2 K t) (fun vs H Q E h=>?_) (fun vs H Q E h=>?_)
 ·obtain⟨d,p,S,e,rfl,_⟩:=h;rfl
 ·obtain⟨d,p,S,e,rfl,hR,T,td,ho,hd,k⟩:=h
  have hl:=T.lt
  cases e with
  | put n kd q r c=>
   have td2:SqT K H p [.str "put", .str n,.str kd,.str q,.int r,.str c]:=td
   refine⟨_,_,.inr td2,rfl,⟨_,_,.inr td2,rfl,⟨_,_,.inr td2,rfl,⟨_,_,.inr td2,rfl,⟨_,_,.inr td2,rfl,⟨(show 4<=sizeLine by decide),fun a ha=>?_⟩⟩⟩⟩⟩⟩
   have S1:=Same.upd (o:=.tup [.str kd,.str q,.int r,.str c]) ha
   exact⟨_,_,.inr (S1.seqT td2),rfl,sto (r:=⟨kd,q,r,c⟩) (hR.up S1) hl (SqT.of Ad) fun H' B R=>k H' ((But.of S1).trans B) R⟩
  | cut n=>
   have td2:SqT K H p [.str "cut", .str n]:=td
   obtain⟨kvs,ed,g⟩:=id hR
   refine⟨_,_,.inr td2,rfl,⟨_,_,.inr td2,rfl,.inr (.inr (.inl ⟨kvs,ed,fun o D hD=>?_⟩))⟩⟩
   have bF:But d H (upd H d (.frz o (.dK kvs))):=But.upd
   have ef:upd H d (.frz o (.dK kvs)) d=some (.frz o (.dK kvs)):=Ad
   generalize upd H d (.frz o (.dK kvs))=Hf at bF ef hD ⊢
   have tdF:=(bF.tk ed) _ _ td2
   have gF:=g.keep (bF.tk ed)
   have dD:D≠d:=fun c=>by rw [c,ef] at hD;cases hD
   have kn:=g.names
   have l8:(keys S).length<=8:=by unfold keys;rw [aj];exact T.few
   refine Ih (a56 kvs) (fun i σ' H'=>(∃ v,σ'=[v,some (.ref d),some (.ref p)])/\Same Hf H'/\H' D=some (.lst ((((keys S).take i).filter fun z=>decide (n∈wy S z)).map V.str))) ⟨⟨_,rfl⟩,Same.upd hD,Ad⟩ (fun i σ' H' _ h=>h.2.1 _ _ ef) ?_ ?_
   ·rintro i x σ' H1 hx ⟨⟨v,rfl⟩,S1,eD⟩
    rw [kn,aP] at hx
    obtain⟨z,hz,rfl⟩:=Option.map_eq_some_iff.mp hx
    have tk:(keys S).take (i+1)=(keys S).take i++[z]:=by rw [d9,hz];rfl
    refine⟨_,_,.inr (S1.seqT tdF),rfl,⟨d,S,z,rfl,⟨kvs,.inr ⟨o,S1 _ _ ef⟩,gF.keep (TKeep.of S1)⟩,T,mem_keys.mp (a9 hz),fun H2 l S2 el=>Ry el (Bo (c:=decide (n∈wy S z)=true) (fun g=>?_) (fun g=>?_))⟩⟩
    ·refine⟨_,S2 _ _ eD,?_,⟨_,rfl⟩,(S1.trans S2).set hD,?_⟩
     ·rw [aj]
      have h1:(((keys S).take i).filter fun z=>decide (n∈wy S z)).length<=((keys S).take i).length:=dZ _ _
      rw [bI] at h1
      exact b_ (show _<=8 by omega) (by decide)
     ·rw [Ad,tk,gj,dz (p:=fun z=>decide (n∈wy S z)) g,bw]
      rfl
    ·refine⟨⟨_,rfl⟩,S1.trans S2,?_⟩
     rw [S2 _ _ eD,tk,gj,dy (p:=fun z=>decide (n∈wy S z)) g,List.filter_nil,cb]
   ·rintro σ' H1 ⟨_,S1,eD⟩
    rw [kn,aj,eI] at eD
    have S2:=an1 (o:=.dK kvs) ed bF S1
    have e2:upd H1 d (.dK kvs) D=some (.lst ((((keys S)).filter fun z=>decide (n∈wy S z)).map V.str)):=by rw [Ak dD];exact eD
    refine .inr ⟨d,o,kvs,ed,S1 _ _ ef,.inl ⟨⟨_,SqL.of e2⟩,?_⟩⟩
    generalize upd H1 d (.dK kvs)=H2 at S2 e2 ⊢
    have nd:((keys S).filter fun z=>decide (n∈wy S z)).Nodup:=T.nd.sublist fU
    have al:∀ z∈(keys S).filter (fun z=>decide (n∈wy S z)),has S z=true:=fun z hz=>mem_keys.mp (List.mem_filter.mp hz).1
    have ce:=ap1 (S:=S) (n:=n)
    generalize (keys S).filter (fun z=>decide (n∈wy S z))=ws at e2 nd al ce ⊢
    refine Fb (E4 (ws.map V.str)) (fun i σ H'=>(∃ v,σ=[some (.ref d),some (.ref p),v,none,none,none,none])/\But d H H'/\H' D=some (.lst (ws.map V.str))/\RsAt K H' d (S.filter fun r=>decide (r.1∉ws.take i)))
     ⟨⟨_,rfl⟩,But.of S2,e2,?_⟩ (fun i σ' H' _ h=>SqL.of h.2.2.1) ?_ ?_
    ·rw [List.take_zero,List.filter_eq_self.mpr (fun a _=>by simp)]
     exact⟨kvs,S2 _ _ ed,g.keep (TKeep.of S2)⟩
    ·rintro i x σ H4 hx ⟨⟨v,rfl⟩,B4,eD4,kvs4,ed4,g4⟩
     rw [aP] at hx
     obtain⟨z,hz,rfl⟩:=Option.map_eq_some_iff.mp hx
     have B5:But d H4 (upd H4 d (.dK (Ha kvs4 (.inr z)))):=But.upd
     obtain⟨⟨q4,ev⟩,g5⟩:=Wo g4 nd hz (al z (a9 hz))
     exact .inr ⟨.inr (.inr (.inl ⟨rfl,.inl ⟨kvs4,ed4⟩⟩)),d,.inr z,.ref q4,kvs4,rfl,rfl,ed4,ev,⟨⟨_,rfl⟩,B4.trans B5,by rw [Ak dD];exact eD4,_,Ad,g5.keep (B5.tk ed4)⟩⟩
    ·rintro σ H4 ⟨⟨v,rfl⟩,B4,_,R⟩
     rw [aj,eI,ce] at R
     exact .inl (k H4 B4 R)
  | move n q r=>
   have td2:SqT K H p [.str "move", .str n,.str q,.int r]:=td
   have hn:=(Ev hd).resolve_left (Gd ho.1)
   obtain⟨a,dg,ha⟩:=hR.rd.get (Ao hn)
   refine⟨_,_,.inr td2,rfl,⟨_,_,.inr td2,rfl,⟨_,_,.inr td2,rfl,⟨_,dg,⟨_,ha,rfl,⟨_,_,.inr td2,rfl,⟨_,_,.inr td2,rfl,⟨_,_,.inr td2,rfl,⟨(show 4<=sizeLine by decide),fun b hb=>?_⟩⟩⟩⟩⟩⟩⟩⟩⟩
   have S1:=Same.upd (o:=.tup [.str (An S n).kd,.str q,.int r,.str (An S n).ct]) hb
   exact⟨_,_,.inr (S1.seqT td2),rfl,sto (r:=⟨(An S n).kd,q,r,(An S n).ct⟩) (hR.up S1) hl (SqT.of Ad) fun H' B R=>k H' ((But.of S1).trans B) R⟩
  | wrap n m x=>
   have td2:SqT K H p [.str "wrap", .str n,.str m,.str x]:=td
   have hn:=(Ev hd).resolve_left (Gd ho.1)
   obtain⟨a,dg,ha⟩:=hR.rd.get (Ao hn)
   refine⟨_,_,.inr td2,rfl,⟨_,_,.inr td2,rfl,⟨_,_,.inr td2,rfl,⟨_,dg,⟨_,ha,rfl,⟨_,_,.inr td2,rfl,⟨_,_,.inr td2,rfl,⟨(show 4<=sizeLine by decide),fun b hb=>?_⟩⟩⟩⟩⟩⟩⟩⟩
   have S1:=Same.upd (o:=.tup [.str "chapter", .str (An S n).pr,.int (An S n).rk,.str x]) hb
   obtain⟨kvs,ed,_⟩:=id (hR.up S1)
   refine⟨_,_,.inr (S1.seqT td2),rfl,sto (r:=⟨"chapter", (An S n).pr,(An S n).rk,x⟩) (hR.up S1) hl (SqT.of Ad) fun H2 B2 R2=>?_⟩
   have td3:=(B2.tk ed) _ _ (S1.seqT td2)
   refine⟨_,_,.inr td3,rfl,⟨(show 4<=sizeLine by decide),fun c hc=>?_⟩⟩
   have S3:=Same.upd (o:=.tup [.str (An S n).kd,.str m,.int 0,.str (An S n).ct]) hc
   have l1:=Vq (S:=S) (y:=m) (r:=⟨"chapter", (An S n).pr,(An S n).rk,x⟩)
   have:=T.few
   exact⟨_,_,.inr (S3.seqT td3),rfl,sto (r:=⟨(An S n).kd,m,0,(An S n).ct⟩) (R2.up S3) (by omega) (SqT.of Ad) fun H' B R=>k H' (((But.of S1).trans B2).trans ((But.of S3).trans B)) R⟩
end
end K25
set_option maxHeartbeats 2000000
namespace K25
open PySem L2
section
variable {P:aH} {w:bh} {K:aa} {mg:Str->Option Value} {base:Heap} {t:Adr}
theorem aw9 {H:Hp} {b:Bool}:At K H (.at_ (.bl b)) (.bl b):=by unfold At;exact⟨rfl,rfl⟩
noncomputable def b5 (m:Nat):List Bool:=[decide (0=m),decide (1=m),decide (2=m),decide (3=m),decide (4=m)]
theorem Z7 {H:Hp}:∀ bs:List Bool,AtL K H (bs.map fun b=>.at_ (.bl b)) (bs.map V.bl)
 | []=>Cm
 | b::bs=>Aw aw9 (Z7 bs)
theorem U4:∀ bs:List Bool,B6 (bs.map fun b=>Dt.at_ (.bl b))<=40
 | []=>by simp [B6]
 | b::bs=>by
  rw [aM]
  unfold B6
  exact Nat.max_le.mpr ⟨by simp [dep],U4 bs⟩
theorem cr9:∀ m,m<5->decide ((((((b5 m).map fun b=>Dt.at_ (.bl b)).countP fun c=>deq c (.at_ (.bl true))):Nat):Int)=1)=true:=by decide +kernel
theorem ix5:∀ m,m<5->eqV (((b5 m).map V.bl).getD m .non) (.bl true)=true:=by decide +kernel
theorem cs4:∀ m,m<5 -> ∀ j,j<m->eqV (((b5 m).map V.bl).getD j .non) (.bl true)=false:=by decide +kernel
theorem wd5:∀ m:Nat,m<5->atI [V.str "no part", .str "doubled", .str "lost", .str "ring", .str "no holder"] (m:Int)=some (.str (words.getD m "")):=by
 intro m h
 match m,h with
 | 0,_=>rfl
 | 1,_=>rfl
 | 2,_=>rfl
 | 3,_=>rfl
 | 4,_=>rfl
noncomputable def ba7 (K:aa) (t:Adr):DS:=(Af (A6 5 (Dj (Ab (dFn (fun vs H Q _=>(Dq K) vs H Q) (Ab (Ac 4) (Ab (dC (.ref t.c_zck)) Ai))) (Ab (dFn (fun vs H Q _=>(Dq K) vs H Q) (Ab (Ac 4) (Ab (dC (.ref t.c_zcj)) Ai))) (Ab (dFn (fun vs H Q _=>(Dq K) vs H Q) (Ab (Ac 4) (Ab (dC (.ref t.c_zcn)) Ai))) (Ab (dFn (fun vs H Q _=>(Dq K) vs H Q) (Ab (Ac 4) (Ab (dC (.ref t.c_zcq)) Ai))) Ai)))))) (Af (A3 (dMt (rMt K [⟨"list", "list.append", Cg⟩]) (Ac 5) (Ab (dFn (fun vs H Q _=>(Dq K) vs H Q) (Ab (Ac 4) (Ab (dC (.ref t.c_zcg)) Ai))) Ai))) (Af (A6 3 (Cl (Ab (dC (.str "other")) (Ab (dUn (Aq K "part") (Ac 4)) Ai)))) (Af (dIf (E8 (A0 (Ah (A5 K false) (dMt (rMt K [⟨"list", "list.count", Jo K⟩]) (Ac 5) (Ab (dC (.bl true)) Ai)) (dC (.int 1)))) (A0 (Ah (Xi false) (dUn (Aq K "choice") (Ac 4)) (dC .non)))) (Af (A6 3 (Cl (Ab (Ah (Ap K) (Dj (Ab (dC (.str "no part")) (Ab (dC (.str "doubled")) (Ab (dC (.str "lost")) (Ab (dC (.str "ring")) (Ab (dC (.str "no holder")) Ai)))))) (dMt (rMt K [⟨"list", "list.index", Jp⟩]) (Ac 5) (Ab (dC (.bl true)) Ai))) (Ab (dUn (Aq K "part") (Ac 4)) Ai)))) Ae) Ae) Ae))))
theorem Lu (Z:Facts K t) {m:Nat} {z:Str} {C x:Addr} {D:Oj} {H:Hp} {a p b v3 v4 v5:Option V} (hC:(Z9 t)[m]? = some C) (f:b53 H x C z .non)
  (k:∀ H' v q,Same H H'->SqT K H' q [.str (words.getD m ""),.str z]->D.nx [a,p,b,some (.ref q),none,v] H'):asD x (ba7 K t) (.as 4) D [a,p,b,v3,v4,v5] H:=by
 obtain⟨dx,ne,e1,e2⟩:=f
 obtain⟨ec,n1,n2,mr,kit⟩:=Z.bx m C hC
 have exU:∀ {H'},Same H H'->ExcAt H' x C [("part", .str z),("choice", .non)]:=fun S=>.inr ⟨dx,ne,.inr (.inl (S _ _ e1)),S _ _ e2⟩
 have ex:=exU (Same.refl H)
 have k0:=kit 0 _ rfl
 have k1:=kit 1 _ rfl
 have k2:=kit 2 _ rfl
 have k3:=kit 3 _ rfl
 have k4:=kit 4 _ rfl
 have h5:m<5:=(List.getElem?_eq_some_iff.mp hC).1
 refine .inl ⟨.ref C,_,.exc rfl ex ec rfl,k0,.inl ⟨.ref C,_,.exc rfl ex ec rfl,k1,.inl ⟨.ref C,_,.exc rfl ex ec rfl,k2,.inl ⟨.ref C,_,.exc rfl ex ec rfl,k3,(show 4<=sizeLine by decide),fun l hl=>?_⟩⟩⟩⟩
 have S1:=Same.upd (o:=.lst [.bl (decide (0=m)),.bl (decide (1=m)),.bl (decide (2=m)),.bl (decide (3=m))]) hl
 have el:upd H l (.lst [.bl (decide (0=m)),.bl (decide (1=m)),.bl (decide (2=m)),.bl (decide (3=m))]) l=some (.lst [.bl (decide (0=m)),.bl (decide (1=m)),.bl (decide (2=m)),.bl (decide (3=m))]):=Ad
 generalize upd H l (.lst [.bl (decide (0=m)),.bl (decide (1=m)),.bl (decide (2=m)),.bl (decide (3=m))])=H1 at S1 el ⊢
 refine⟨.inl ⟨rfl,_,SqL.of el⟩,.inl ⟨.ref C,_,.exc rfl (exU S1) ec rfl,k4,l,_,_,rfl,rfl,el,(show 4<sizeLine by decide),?_⟩⟩
 have S2:Same H (upd H1 l (.lst ((b5 m).map V.bl))):=S1.set hl
 have el2:upd H1 l (.lst ((b5 m).map V.bl)) l=some (.lst ((b5 m).map V.bl)):=Ad
 refine (show ∀ H2,Same H H2->H2 l=some (.lst ((b5 m).map V.bl))->_ from ?_) (upd H1 l (.lst ((b5 m).map V.bl))) S2 el2
 intro H2 S2 el2
 refine Or.inr ⟨C,_,.str z,exU S2,ec,n1,rfl,⟨(show 2<=sizeLine by decide),fun q hq=>?_⟩⟩
 have S3:=S2.trans (Same.upd (o:=.tup [.str "other", .str z]) hq)
 have el3:=Same.upd (o:=.tup [.str "other", .str z]) hq _ _ el2
 generalize upd H2 q (.tup [.str "other", .str z])=H3 at S3 el3 ⊢
 refine⟨.inl ⟨rfl,_,SqL.of el3⟩,l,.bl true,_,.at_ (.bl true),_,rfl,rfl,SqL.of el3,Z7 _,aw9,U4 _,Qm (cr9 m h5) (Or.inr ⟨C,_,.non,exU S3,ec,n2,rfl,?_⟩)⟩
 refine⟨(show 5<=sizeLine by decide),fun w hw=>?_⟩
 have S4:=S3.trans (Same.upd (o:=.lst [V.str "no part", .str "doubled", .str "lost", .str "ring", .str "no holder"]) hw)
 exact⟨.inl ⟨rfl,_,SqL.of (Same.upd hw _ _ el3)⟩,l,_,.bl true,rfl,rfl,Same.upd hw _ _ el3,rfl,rfl,m,h5,ix5 m h5,cs4 m h5,_,_,.inl (SqL.of Ad),wd5 m h5,Or.inr ⟨C,_,.str z,exU S4,ec,n1,rfl,⟨(show 2<=sizeLine by decide),fun q2 hq2=>k _ _ q2 (S4.trans (Same.upd hq2)) (SqT.of Ad)⟩⟩⟩
theorem cb4 {H:Hp} {n:Nat} {e:Ed} {a:Addr} {m:Str} {i0:FI} {vs:List V} {Q:VK} {E:EK} (hE:EdAt t H e a) (hm:(edF e).lookup m=none)
  (hb:n+1<=i0.ps.length/\i0.ps.length<=n+1+i0.dfs.length) (h:spE i0.sp (i0.dfs.drop (n+1+i0.dfs.length - i0.ps.length)) (.ref a::vs) H Q E) :
  ∃ a' dx fs mi,V.ref a=.ref a'/\mi∈[(⟨t.c_zct,i0⟩:MI),⟨t.c_zcs,i0⟩,⟨t.c_zco,i0⟩,⟨t.c_zcr,i0⟩]/\H a'=some (.ins mi.C dx fs)/\fs.lookup m=none/\(n+1<=mi.i.ps.length/\mi.i.ps.length<=n+1+mi.i.dfs.length)/\spE mi.i.sp (mi.i.dfs.drop (n+1+mi.i.dfs.length - mi.i.ps.length)) (.ref a'::vs) H Q E:=
 Sf hE hm (by rw [show Qv i0 i0 i0 i0 e=i0 by cases e <;> rfl];exact⟨hb,h⟩)
theorem bg5 {f:Addr} {fd:ai} (Z:Facts K t) (F:FunD K "_law_told" "_law_told" Kt f fd .none) (T:Tab P w K mg base 13 (Va K t) bl):FnOk P w K mg base CX0 14 f fd Pp (N6 K t):=by
 refine F.okW0 bw9 b34 T (br6 K t) (fun vs H Q E h=>?_) (fun vs H Q E h=>?_)
 ·obtain⟨a,p,d,S,e,b,rfl,_⟩:=h;rfl
 ·obtain⟨a,p,d,S,e,b,rfl,hE,ho,hP,T,k⟩:=h
  cases b with
  | true=>
   refine cb4 (i0:=Qg K t) hE (by cases e <;> rfl) ⟨(show 2<=3 by decide),ac _⟩ ⟨a,p,d,S,e,.non,rfl,hE,ho,hP,T,fun h H1 S1=>k H1 .non S1 (Dd h),fun m z C h1 h2 H' x S' f=>⟨x,rfl,C,?_⟩⟩
   obtain⟨dx,ne,e1,e2⟩:=id f
   obtain⟨ec,n1,n2,mr,kit⟩:=Z.bx m C h2
   exact⟨some dx,.inl e1,ec,true,mr,Lu Z h2 f fun H2 v q S2 hq=>k H2 (.ref q) (S'.trans S2) (Cv h1 hq)⟩
  | false=>
   refine cb4 (i0:=Qj K t) hE (by cases e <;> rfl) ⟨(show 2<=3 by decide),ac _⟩ ⟨a,p,d,S,e,.non,rfl,hE,ho,hP,T,fun h H1 B1 R1=>k H1 .non ⟨B1,by rw [if_pos h];exact R1⟩ (Dd h),fun m z C h1 h2 H' x S' f=>⟨x,rfl,C,?_⟩⟩
   obtain⟨dx,ne,e1,e2⟩:=id f
   obtain⟨ec,n1,n2,mr,kit⟩:=Z.bx m C h2
   have nd:¬ due S e=none:=fun c=>by rw [c] at h1;cases h1
   exact⟨some dx,.inl e1,ec,true,mr,Lu Z h2 f fun H2 v q S2 hq=>k H2 (.ref q) ⟨But.of (S'.trans S2),by rw [if_neg nd];exact hP.2.up (S'.trans S2)⟩ (Cv h1 hq)⟩
end
section
variable {P:aH} {w:bh} {K:aa} {mg:Str->Option Value} {base:Heap} {t:Adr} {H:Hp}
noncomputable def rcD (r:Rc):Dt:=.tup [Cc r.kd,Cc r.pr,.at_ (.int r.rk),Cc r.ct]
theorem a27 {q:Addr} {r:Rc} (h:SqT K H q (rcV r)):At K H (rcD r) (.ref q):=Ri h (Aw Bg (Aw Bg (Aw (Hm rfl) (Aw Bg Cm))))
theorem a99 (r:Rc):dep (rcD r)<=40:=by unfold rcD Cc;simp [dep,B6]
theorem Ik:∀ zs:List Str,B6 (zs.map Cc)<=1
 | []=>by simp [B6]
 | z::zs=>by
  rw [aM]
  unfold B6
  exact Nat.max_le.mpr ⟨by unfold Cc;simp [dep],Ik zs⟩
theorem Hu {d:Dt} {x y:V} {Q:VK} (h:At K H d x) (g:At K H d y) (hd:dep d<=40) (k:Q (.bl false) H):Xh K true x y H Q:=⟨d,d,h,g,hd,by rw [Fq h];exact k⟩
theorem PlAt.off {H':Hp} {p d d0:Addr} {S:Rs} {kvs0:List (Key×V)} (h:PlAt K t H p d S) (B:But d0 H H') (e:H d0=some (.dK kvs0)) (ne:d≠d0):PlAt K t H' p d S:=by
 obtain⟨⟨dx,ep⟩,kvs,ed,g⟩:=h
 exact⟨⟨dx,B _ _ (fun c=>by rw [c,e] at ep;cases ep) ep⟩,kvs,B _ _ ne ed,g.keep (B.tk e)⟩
theorem bh2 {f:Addr} {fd:ai} (Z:Facts K t) (F:FunD K "_law_so" "_law_so" K0 f fd .none) (T:Tab P w K mg base 4 (Fv K t) bl):FnOk P w K mg base CX0 5 f fd Pz (N9 K t):=by
 refine F.okW0 bx7 b42 T (bs4 K t) (fun vs H Q E h=>?_) (fun vs H Q E h=>?_)
 ·obtain⟨p,d,d0,S,rfl,_⟩:=h;rfl
 ·obtain⟨p,d,d0,S,rfl,dd,hP,hR,T,k⟩:=h
  obtain⟨dp,ep⟩:=id hP.1
  have l8:(keys S).length<=8:=by unfold keys;rw [aj];exact T.few
  refine⟨p,dp,_,⟨t.c_zcl,bb5 K t⟩,rfl,.head _,ep,rfl,⟨ac _,ac _⟩,p,d,S,rfl,hP,T,fun l hl=>?_⟩
  have S1:=Same.upd (o:=.lst ((Cy ltS (keys S)).map V.str)) hl
  have e1:upd H l (.lst ((Cy ltS (keys S)).map V.str)) l=some (.lst ((Cy ltS (keys S)).map V.str)):=Ad
  generalize upd H l (.lst ((Cy ltS (keys S)).map V.str))=H1 at S1 e1 ⊢
  obtain⟨kvs0,e0,g0⟩:=hR.up S1
  refine .inr ⟨rfl,d0,keys S,rfl,.inr ⟨kvs0,.inl e0,g0.keys⟩,T.nd,by omega,fun l2 hl2=>?_⟩
  have S2:=Same.upd (o:=.lst ((Cy ltS (keys S)).map V.str)) hl2
  refine .inr (.inl (Hu (Uu (SqL.of (S2 _ _ e1))) (Uu (SqL.of Ad)) (by have:=Ik (Cy ltS (keys S));unfold dep;omega) ?_))
  have S2:=S1.trans S2
  generalize upd H1 l2 (.lst ((Cy ltS (keys S)).map V.str))=H2 at S2 ⊢
  obtain⟨kvs,ed,g⟩:=hR.up S2
  refine .inr (.inr (.inl ⟨kvs,ed,fun o=>?_⟩))
  have bF:But d0 H2 (upd H2 d0 (.frz o (.dK kvs))):=But.upd
  have ef:upd H2 d0 (.frz o (.dK kvs)) d0=some (.frz o (.dK kvs)):=Ad
  have hPF:=(hP.up S2).off bF ed dd
  generalize upd H2 d0 (.frz o (.dK kvs))=Hf at bF ef hPF ⊢
  have gF:=g.keep (bF.tk ed)
  refine Fb (a56 kvs) (fun i σ H'=>(∃ v2 v3 v4,σ=[some (.ref p),some (.ref d0),v2,v3,v4])/\Same Hf H') ⟨⟨_,_,_,rfl⟩,Same.refl _⟩ (fun i σ' H' _ h=>h.2 _ _ ef) ?_ ?_
  ·rintro i x σ H3 hx ⟨⟨v2,v3,v4,rfl⟩,S3⟩
   rw [g.names,aP] at hx
   obtain⟨z,hz,rfl⟩:=Option.map_eq_some_iff.mp hx
   have hz:=mem_keys.mp (a9 hz)
   have hP3:=hPF.up S3
   obtain⟨dp3,ep3⟩:=id hP3.1
   have hR3:RdAt K H3 d0 S:=⟨kvs,.inr ⟨o,S3 _ _ ef⟩,gF.keep (TKeep.of S3)⟩
   obtain⟨q2,dg,hq2⟩:=hR3.get (Ao hz)
   refine⟨p,dp3,_,⟨t.c_zcl,Qk K t⟩,rfl,.head _,ep3,rfl,⟨ac _,ac _⟩,p,d,S,z,An S z,rfl,hP3,Ao hz,fun q hq=>⟨_,dg,.inr (.inl (Hu (a27 hq) (a27 hq2) (a99 _) ?_))⟩⟩
   refine⟨p,dp3,_,⟨t.c_zcl,Rw K t⟩,rfl,.head _,ep3,rfl,⟨ac _,ac _⟩,p,d,S,z,An S z,rfl,hP3,Ao hz,?_⟩
   have up:∀ {y:Str},has S y=true->(An S y).pr = "" \/ (has S (An S y).pr=true/\(An S (An S y).pr).kd = "chapter"):=fun {y} hy=>by
    by_cases c:(An S y).pr = ""
    ·exact .inl c
    ·obtain⟨r,g1,g2⟩:=T.ch _ _ (Ao hy) c
     exact .inr ⟨Bx g1,by rw [G4 g1];exact g2⟩
   have ln:1+(wy S (An S z).pr).length<=8:=by
    have h1:=(T.way hz).len
    have:=T.few
    rw [(T.step hz).1,aE] at h1
    omega
   refine⟨fun m σ H'=>∃ (y:Str) (s:Nat),m=(wy S y).length/\σ=[some (.ref p),some (.ref d0),some (.str z),some (.str y),some (.int s)]/\H'=H3/\(y = "" \/ (has S y=true/\(An S y).kd = "chapter"))/\s+(wy S y).length<=8,⟨_,_,0,rfl,rfl,rfl,up hz,by omega⟩,?_⟩
   rintro m σ H' ⟨y,s,rfl,rfl,rfl,hy,hs⟩
   refine Bo (c:=(!decide (y = ""))=true) (fun g=>?_) (fun g=>?_)
   ·have g:y ≠ "" := by simpa using g
    obtain⟨hy,hc⟩:=hy.resolve_left g
    have st:=(T.step hy).1
    rw [st,aE] at hs
    refine Qm (show decide ((s:Int)<9)=true from decide_eq_true (by omega)) ⟨p,dp3,_,⟨t.c_zcl,ae0 K t⟩,rfl,.head _,ep3,rfl,⟨ac _,ac _⟩,p,d,S,y,An S y,rfl,hP3,Ao hy,Qm (show decide ((An S y).kd = "chapter")=true from decide_eq_true hc) ⟨fun σ H2=>∃ (y2:Str) (s2:Nat),(wy S y2).length<(wy S y).length/\σ=[some (.ref p),some (.ref d0),some (.str z),some (.str y2),some (.int s2)]/\H2=H'/\(y2 = "" \/ (has S y2=true/\(An S y2).kd = "chapter"))/\s2+(wy S y2).length<=8,?_,?_⟩⟩
    ·rintro σ' H2 ⟨y2,s2,h1,h2⟩
     exact⟨_,h1,y2,s2,rfl,h2⟩
    ·refine⟨p,dp3,_,⟨t.c_zcl,Rw K t⟩,rfl,.head _,ep3,rfl,⟨ac _,ac _⟩,p,d,S,y,An S y,rfl,hP3,Ao hy,?_⟩
     exact⟨(An S y).pr,s+1,by rw [st];exact cG _,rfl,rfl,up hy,by omega⟩
   ·have g:y = "" := by simpa using g
    subst g
    exact⟨⟨_,_,_,rfl⟩,S3⟩
  ·rintro σ H3 ⟨_,S3⟩
   exact .inr ⟨d0,o,kvs,ed,S3 _ _ ef,k _ (S2.trans (an1 (o:=.dK kvs) ed bF S3))⟩
end
section
variable {S:Rs} {ps:List Str}
theorem bc7 {n:Str} {r:Rc} (nd:(keys S).Nodup):(keys (Ci S n r)).Nodup:=by
 rw [Ja]
 split
 ·exact nd
 ·rename_i h
  refine List.nodup_append.mpr ⟨nd,by simp,fun a ha b hb e=>?_⟩
  have eb:b=n:=by simpa using hb
  rw [e,eb] at ha
  exact h (mem_keys.mp ha)
theorem Jn {n:Str} {r:Rc} (h:∀ z∈keys S,z∈ps) (hn:n∈ps):∀ z∈keys (Ci S n r),z∈ps:=by
 rw [Ja]
 split
 ·exact h
 ·intro z hz
  rcases List.mem_append.mp hz with g|g
  ·exact h z g
  ·have:z=n:=by simpa using g
   rw [this];exact hn
theorem Hx {n:Str} {r:Rc} (nd:(keys S).Nodup) (h:∀ z∈keys S,z∈ps) (l8:ps.length=8) (hn:n∈ps):(Ci S n r).length<=8:=by
 have:=Eo (bc7 (n:=n) (r:=r) nd) (Jn h hn)
 unfold keys at this
 rw [aj] at this
 omega
theorem ac0 {e:Ed} (h:due S e=none):rest S e=none:=by
 unfold due at h
 split at h
 ·cases h
 ·exact h
theorem Vc {n:Str} (h:Iv S n=none) (g:n = "" \/ has S n=true):n = "" \/ ∃ q,get S n=some q/\q.kd = "chapter" := by
 by_cases c:n = ""
 ·exact .inl c
 ·have g:=g.resolve_left c
  rw [Ew c g] at h
  refine .inr ⟨_,Ao g,?_⟩
  by_cases k:(An S n).kd = "chapter"
  ·exact k
  ·rw [if_neg k] at h;cases h
theorem Nj (T:Tr S) {n z:Str} (h:¬ has S n=true) (g:z = "" \/ has S z=true):n∉wy S z:=fun c=>h ((T.wayO g).has c).1
theorem co5 (T:Tr S) (hp:∀ z∈keys S,z∈ps) (l8:ps.length=8) {e:Ed} (ho:e.ok) (hm:∀ z,mks e=some z->z∈ps) (hd:due S e=none):Tr (upS S e) /\ ∀ z∈keys (upS S e),z∈ps:=by
 have ha:=Ev hd
 have hr:=ac0 hd
 cases e with
 | put n k q r c=>
  have hr:(if has S n=true then some (1,n) else Iv S q)=none:=hr
  have hn:¬ has S n=true:=fun c=>by rw [if_pos c] at hr;cases hr
  rw [if_neg hn] at hr
  have np:=hm n rfl
  exact⟨Oc T (Hx T.nd hp l8 np) ho.1 ho.2.1 (Vc hr ha) (Nj T hn ha) fun c=>(hn c).elim,Jn hp np⟩
 | cut n=>
  refine⟨by8 T,fun z hz=>hp z ?_⟩
  obtain⟨p,hp,rfl⟩:=List.mem_map.mp hz
  exact fW (List.mem_filter.mp hp).1
 | move n q r=>
  have hn:has S n=true:=ha.resolve_left (Gd ho.1)
  have kn:kdS (An S n).kd:=T.kd _ _ (Ao hn)
  have hq:q = "" \/ has S q=true:=by
   by_cases c:q = ""
   ·exact .inl c
   ·right
    by_cases g:has S q=true
    ·exact g
    ·rw [show rest S (.move n q r)=some (2,q) from if_pos ⟨c,by simpa using g⟩] at hr;cases hr
  rw [Ia hq] at hr
  have nw:n∉wy S q:=fun c=>by rw [if_pos c] at hr;cases hr
  rw [if_neg nw] at hr
  have np:=hp n (mem_keys.mpr hn)
  exact⟨Oc T (Hx T.nd hp l8 np) ho.1 kn (Vc hr hq) nw fun _=>rfl,Jn hp np⟩
 | wrap n m x=>
  have hn:has S n=true:=ha.resolve_left (Gd ho.1)
  have kn:kdS (An S n).kd:=T.kd _ _ (Ao hn)
  have hm2:¬ has S m=true:=fun c=>by rw [show rest S (.wrap n m x)=some (1,m) from if_pos c] at hr;cases hr
  have nm:n≠m:=fun c=>hm2 (c▸hn)
  have np:=hp n (mem_keys.mpr hn)
  have mp:=hm m rfl
  obtain⟨st,pa⟩:=T.step hn
  have hpp:(An S n).pr = "" \/ ∃ q,get S (An S n).pr=some q/\q.kd = "chapter" := by
   by_cases c:(An S n).pr = ""
   ·exact .inl c
   ·exact .inr (T.ch _ _ (Ao hn) c)
  have T1:Tr (Ci S m ⟨"chapter", (An S n).pr,(An S n).rk,x⟩):=Oc T (Hx T.nd hp l8 mp) ho.2.1 (.inl rfl) hpp (Nj T hm2 pa) fun c=>(hm2 c).elim
  have h1:=Jn (r:=⟨"chapter", (An S n).pr,(An S n).rk,x⟩) hp mp
  have gm:get (Ci S m ⟨"chapter", (An S n).pr,(An S n).rk,x⟩) m=some ⟨"chapter", (An S n).pr,(An S n).rk,x⟩:=by rw [Bz,if_pos rfl]
  refine⟨Oc T1 (Hx T1.nd h1 l8 np) ho.1 kn (.inr ⟨_,gm,rfl⟩) ?_ fun _=>by rw [Vr nm],Jn h1 np⟩
  show n∉wy _ m
  rw [(T1.step (Bx gm)).1,G4 gm]
  have w:=(T.wayO pa).put (rc:=⟨"chapter", (An S n).pr,(An S n).rk,x⟩) (Nj T hm2 pa)
  dsimp only
  rw [w.wy T1.few]
  have nd:=(T.way hn).nodup
  rw [st] at nd
  intro c
  rcases List.mem_cons.mp c with c|c
  ·exact nm c
  ·exact (List.nodup_cons.mp nd).1 c
theorem bz0:Tr []:=⟨iJ,bC _,(fun z r h=>by cases h),(fun z r h=>by cases h),(fun z r h=>by cases h),fun z r h=>by cases h⟩
end
section
variable {K:aa} {t:Adr} {H H':Hp}
theorem dueV.tk {o:Option (Nat×Str)} {x:V} (h:dueV o K H x) (T:TKeep K H H'):dueV o K H' x:=by
 match o,h with
 | none,h=>exact h
 | some (i,z),⟨q,e,s⟩=>exact⟨q,e,T _ _ s⟩
theorem ac4 {o:Option (Nat×Str)} {x y:V} {Q:VK} (h:dueV o K H x) (g:dueV o K H y) (k:Q (.bl false) H):A5 K true x y H Q:=by
 match o,h,g with
 | none,h,g=>
  have h:x=.non:=h
  have g:y=.non:=g
  subst h
  subst g
  exact⟨rfl,k⟩
 | some (i,z),⟨q,e,s⟩,⟨q2,e2,s2⟩=>
  subst e
  subst e2
  exact .inr (.inl (Hu (Uv (r:=[_,_]) s) (Uv (r:=[_,_]) s2) (by have:=Ik [words.getD i "", z];unfold dep;omega) k))
theorem ba6 {o:Option Str} {Q:VK} (k:Q (.bl false) H):A5 K true (Xd o) (Xd o) H Q:=by
 cases o with
 | none=>exact⟨rfl,k⟩
 | some z=>
  show Q (.bl (!decide (z=z))) H
  rw [decide_eq_true rfl]
  exact k
noncomputable def edD:Ed->List Dt
 | .put n k p r c=>[Cc n,Cc k,Cc p,.at_ (.int r),Cc c]
 | .cut n=>[Cc n]
 | .move n p r=>[Cc n,Cc p,.at_ (.int r)]
 | .wrap n m x=>[Cc n,Cc m,Cc x]
theorem a53 {e:Ed} {p:Addr} (h:TdAt K H e p):At K H (.tup (Cc (edW e)::edD e)) (.ref p):=by
 refine Ri h (Aw Bg ?_)
 cases e with
 | put=>exact Aw Bg (Aw Bg (Aw Bg (Aw (Hm rfl) (Aw Bg Cm))))
 | cut=>exact Aw Bg Cm
 | move=>exact Aw Bg (Aw Bg (Aw (Hm rfl) Cm))
 | wrap=>exact Aw Bg (Aw Bg (Aw Bg Cm))
theorem ba0 (e:Ed):dep (.tup (Cc (edW e)::edD e))<=40:=by
 unfold Cc
 cases e <;> simp [dep,B6,edD,Cc]
theorem ae3 (Z:Facts K t) (e:Ed):cj K (.ref (edC t e)) (.ref t.c_Edit)=some true:=by
 have hm:=(Z.ed _ (Dy e)).2.1.2.2
 unfold cj
 by_cases q:(az (edC t e)==az t.c_Edit)=true
 ·rw [if_pos q]
 ·rw [if_neg q]
  unfold PySem.W.kitCls
  dsimp only
  have hs:(PySem.W.clsIn K t.c_Edit).isSome=true:=by
   have:=Z.mr
   unfold bb at this
   cases q:PySem.W.clsIn K t.c_Edit with
   | none=>rw [q] at this;cases this
   | some c=>rfl
  rw [hs,Z.ty,if_pos (by rfl)]
  exact hm
theorem aw5 (Z:Facts K t) {e:Ed} {a:Addr} (hE:EdAt t H e a):TyX K H (.ref a) (.ref (edC t e)):=by
 obtain⟨dx,ea⟩:=hE
 obtain⟨c,⟨c1,c2,_⟩,_⟩:=Z.ed _ (Dy (t:=t) e)
 exact .of (.ins ea c c1 Z.hn Z.htk c2)
theorem an2 {e:Ed} {a:Addr} {Q:VK} {E:EK} (hE:EdAt t H e a) (k:∀ H' p,Same H H'->TdAt K H' e p->Q (.ref p) H') :
  ∃ a' dx fs mi,V.ref a=.ref a'/\mi∈Gc K t/\H a'=some (.ins mi.C dx fs)/\fs.lookup ("told" : Str)=none/\(0+1<=mi.i.ps.length/\mi.i.ps.length<=0+1+mi.i.dfs.length)/\spE mi.i.sp (mi.i.dfs.drop (0+1+mi.i.dfs.length - mi.i.ps.length)) [.ref a'] H Q E:=by
 refine Sf hE (by cases e <;> rfl) ?_
 cases e <;> exact⟨⟨ac _,ac _⟩,a,_,rfl,rfl,hE,k⟩
theorem ae5 {e:Ed} {a:Addr} {Q:VK} {E:EK} (hE:EdAt t H e a) (k:Q (Xd (mks e)) H) :
  ∃ a' dx fs mi,V.ref a=.ref a'/\mi∈Ga K t/\H a'=some (.ins mi.C dx fs)/\fs.lookup ("made" : Str)=none/\(0+1<=mi.i.ps.length/\mi.i.ps.length<=0+1+mi.i.dfs.length)/\spE mi.i.sp (mi.i.dfs.drop (0+1+mi.i.dfs.length - mi.i.ps.length)) [.ref a'] H Q E:=by
 refine Sf hE (by cases e <;> rfl) ?_
 cases e with
 | put=>exact⟨⟨ac _,ac _⟩,a,_,rfl,rfl,hE,k⟩
 | cut=>exact⟨⟨ac _,ac _⟩,_,rfl,k⟩
 | move=>exact⟨⟨ac _,ac _⟩,_,rfl,k⟩
 | wrap=>exact⟨⟨ac _,ac _⟩,a,_,rfl,rfl,hE,k⟩
end
section
variable {P:aH} {w:bh} {K:aa} {mg:Str->Option Value} {base:Heap} {t:Adr}
theorem av0 {n i:Nat} {x:V} (h:(Nv 0 n)[i]? = some x):i<n/\x=.int (i:Int):=by
 have hi:i<n:=by
  have:=(List.getElem?_eq_some_iff.mp h).1
  rwa [Ch] at this
 rw [Gh hi] at h
 cases h
 exact⟨hi,by rw [Int.zero_add]⟩
theorem ap3 {ns:List Int} {lo hi:Option Int} {x:V} (h:x∈Gn (ns.map V.int) lo hi):∃ c,x=.int c:=by
 unfold Gn at h
 obtain⟨c,_,e⟩:=List.mem_map.mp (iF (eA h))
 exact⟨c,e.symm⟩
noncomputable def cr6 (K:aa) (t:Adr) (H:Hp) (pl d d0 l6 l:Addr) (xs:List V) (ps:List Str):Prop:=H l6=some (.lst xs)/\H l=some (.lst (ps.map V.str)) /\ ∃ S,Tr S/\(∀ z∈keys S,z∈ps)/\PlAt K t H pl d S/\RsAt K H d0 S
theorem EdAt.up {H H':Hp} {e:Ed} {a:Addr} (h:EdAt t H e a) (S:Same H H'):EdAt t H' e a:=by obtain⟨dx,ea⟩:=h;exact⟨dx,S _ _ ea⟩
theorem TdAt.up {H H':Hp} {e:Ed} {a:Addr} (h:TdAt K H e a) (S:Same H H'):TdAt K H' e a:=S.seqT h
theorem dueV.up {H H':Hp} {o:Option (Nat×Str)} {x:V} (h:dueV o K H x) (S:Same H H'):dueV o K H' x:=h.tk (TKeep.of S)
theorem Hs {H H':Hp} {d l:Addr} {S:Rs} {xs:List V} (e:H l=some (.lst xs)) (R:RsAt K H d S) (B:But d H H'):H' l=some (.lst xs):=by
 obtain⟨kvs,ed,_⟩:=R
 exact B _ _ (fun z=>by rw [z,ed] at e;cases e) e
theorem bh5 {f:Addr} {fd:ai} (Z:Facts K t) (F:FunD K "law" "law" Du f fd .none) (T:Tab P w K mg base 14 (ad1 K t) bl):FnOk P w K mg base CX0 15 f fd P2 (Ob K t):=by
 refine F.okW0 by0 b45 T (bs7 K t) (fun vs H Q E h=>?_) (fun vs H Q E h=>?_)
 ·obtain⟨a,ns,rfl,_⟩:=h;rfl
 ·obtain⟨a,ns,rfl,hS,hl63,k⟩:=h
  refine⟨⟨by decide,by decide⟩,fun l hl=>?_⟩
  refine Ih (K9 0 8) (fun j σ' H'=>(∃ v,σ'=[v,some (.ref a)])/\Same H H' /\ ∃ ps:List Str,ps.length=j/\(∀ x∈ps,nmB x=true)/\H' l=some (.lst (ps.map V.str))) ⟨⟨_,rfl⟩,Same.upd hl,[],rfl,(fun x hx=>by cases hx),Ad⟩ (fun _ _ _ _ _=>bv) ?_ ?_
  ·rintro j x σ' H1 hx ⟨⟨v,rfl⟩,S1,ps,e1,e2,e3⟩
   obtain⟨hj,rfl⟩:=av0 hx
   refine⟨a,ns,0,rfl,S1.seqL hS,fun r=>⟨r,j,rfl,by omega,fun z H2 S2 hz=>⟨_,S2 _ _ e3,?_,⟨_,rfl⟩,(S1.trans S2).set hl,ps++[z],by rw [ay,e1];rfl,fun y hy=>?_,by rw [Ad,bw];rfl⟩⟩⟩
   ·rw [aj,e1];exact aI (show j<8 by omega) (by decide)
   ·rcases List.mem_append.mp hy with q|q
    ·exact e2 y q
    ·have:y=z:=by simpa using q
     subst this;exact hz
  rintro σ' HC ⟨_,SC,ps,l8,pn,el⟩
  rw [Ch] at l8
  refine fun pl dp hpl hdp nep=>⟨pl,dp,rfl,Ad,fun d hd=>⟨rfl,?_⟩⟩
  have SD:Same HC (upd (upd (upd (upd HC dp (.own pl)) pl (.ins t.c_zcl dp [])) d (.dK [])) pl (.ins t.c_zcl dp [("records", .ref d)])):=(((Same.upd hdp).set hpl).trans (Same.upd hd)).set hpl
  have nd:d≠pl:=fun z=>by rw [z,Ad] at hd;cases hd
  have hPD:PlAt K t (upd (upd (upd (upd HC dp (.own pl)) pl (.ins t.c_zcl dp [])) d (.dK [])) pl (.ins t.c_zcl dp [("records", .ref d)])) pl d []:=⟨⟨dp,Ad⟩,[],by rw [Ak nd,Ad],rfl⟩
  generalize upd (upd (upd (upd HC dp (.own pl)) pl (.ins t.c_zcl dp [])) d (.dK [])) pl (.ins t.c_zcl dp [("records", .ref d)])=HD at SD hPD ⊢
  intro d0 hd0
  have SE:=Same.upd (o:=.dK []) hd0
  have hRE:RsAt K (upd HD d0 (.dK [])) d0 []:=⟨[],Ad,rfl⟩
  have n0:d≠d0:=fun z=>by
   obtain⟨_,kvs,e,_⟩:=hPD
   rw [z,hd0] at e;cases e
  generalize upd HD d0 (.dK [])=HE at SE hRE ⊢
  have hPE:=hPD.up SE
  have SHE:=(SC.trans SD).trans SE
  have elE:=SE _ _ (SD _ _ el)
  clear SD SE hPD hd hdp hpl nep
  refine .inl (.inl ⟨_,SHE.seqL hS,fun l6 hl6=>.inl ⟨⟨_,SqL.of Ad⟩,?_⟩⟩)
  have S6:=Same.upd (o:=.lst (Gn (ns.map V.int) (some 2) (some 52))) hl6
  refine Fb (E4 (Gn (ns.map V.int) (some 2) (some 52))) (fun _ σ H'=>(∃ v4 v5 v6 v7,σ=[some (.ref a),some (.ref l),some (.ref pl),some (.ref d0),v4,v5,v6,v7])/\cr6 K t H' pl d d0 l6 l (Gn (ns.map V.int) (some 2) (some 52)) ps)
   ⟨⟨_,_,_,_,rfl⟩,Ad,S6 _ _ elE,[],bz0,(fun z hz=>by cases hz),hPE.up S6,hRE.up S6⟩ (fun _ σ H' _ h=>SqL.of h.2.1) ?_ ?_
  ·rintro j x σ H1 hx ⟨⟨v4,v5,v6,v7,rfl⟩,el6,el,S,T,kp,hP,hR⟩
   obtain⟨c,rfl⟩:=ap3 (a9 hx)
   refine⟨l,c,ps,rfl,el,l8,pn,fun H2 e p S2 ho hm hT=>⟨p,e,rfl,hT,ho,fun H3 a' S3 hE=>?_⟩⟩
   refine .inl ⟨_,true,aw5 Z hE,ae3 Z e,?_⟩
   refine an2 hE fun H4 p2 S4 hT2=>.inr (.inl (Hu (a53 hT2) (a53 (hT.up (S3.trans S4))) (ba0 e) ?_))
   have hT4:=hT.up (S3.trans S4)
   have S14:=(S2.trans S3).trans S4
   refine Ut (hE.up S4) ⟨p,e,rfl,hT4,b81 (show (!decide (abo e=abo e))=false by simp) ?_⟩
   refine ae5 (hE.up S4) ⟨p,e,rfl,hT4,ba6 ?_⟩
   refine⟨d0,p,S,e,rfl,hR.up S14,T,hT4,ho,fun H5 x S5 hx=>?_⟩
   have S15:=S14.trans S5
   refine⟨a',pl,d,S,e,true,rfl,(hE.up S4).up S5,ho,hP.up S15,T,fun H6 y S6 hy=>?_⟩
   have S6:Same H5 H6:=S6
   refine ac4 hy (hx.up S6) ?_
   have S16:=S15.trans S6
   refine⟨pl,d,d0,S,rfl,n0,hP.up S16,hR.up S16,T,fun H7 S7=>?_⟩
   have S17:=S16.trans S7
   refine⟨a',pl,d,S,e,false,rfl,(hE.up S4).up ((S5.trans S6).trans S7),ho,hP.up S17,T,fun H8 y hBR hy=>?_⟩
   have hBR:But d H7 H8/\RsAt K H8 d (if due S e=none then upS S e else S):=hBR
   obtain⟨B,R8⟩:=hBR
   have hP7:=hP.up S17
   have hR7:=hR.up S17
   obtain⟨kvs7,ed7,_⟩:=id hP7.2
   have tk:TKeep K H7 H8:=B.tk ed7
   have hx8:=(hx.up (S6.trans S7)).tk tk
   refine ac4 hy hx8 ?_
   have hP8:=hP7.but B R8
   have hR8:=hR7.other hP7.2 (cz n0) B
   have el8:=Hs (S17 _ _ el) hP7.2 B
   have el68:=Hs (S17 _ _ el6) hP7.2 B
   cases hd:due S e with
   | none=>
    rw [hd] at hx8
    have hx8:x=.non:=hx8
    subst hx8
    rw [if_pos hd] at hP8
    obtain⟨T',kp'⟩:=co5 T kp l8 ho hm hd
    have hT8:TdAt K H8 e p:=tk _ _ (hT4.up ((S5.trans S6).trans S7))
    refine⟨d0,p,S,e,rfl,hR8,T,hT8,ho,hd,fun H9 B9 R9=>?_⟩
    obtain⟨kvs8,ed8,_⟩:=id hR8
    have hP9:=hP8.off B9 ed8 n0
    have el9:=Hs el8 hR8 B9
    have el69:=Hs el68 hR8 B9
    exact⟨pl,d,d0,upS S e,rfl,n0,hP9,R9,T',fun H10 S10=>⟨⟨_,_,_,_,rfl⟩,S10 _ _ el69,S10 _ _ el9,_,T',kp',hP9.up S10,R9.up S10⟩⟩
   | some o=>
    rw [hd] at hx8
    obtain⟨i,z⟩:=o
    obtain⟨q,rfl,_⟩:=hx8
    rw [if_neg (fun c=>by rw [hd] at c;cases c)] at hP8
    exact⟨pl,d,d0,S,rfl,n0,hP8,hR8,T,fun H10 S10=>⟨⟨_,_,_,_,rfl⟩,S10 _ _ el68,S10 _ _ el8,_,T,kp,hP8.up S10,hR8.up S10⟩⟩
  ·rintro σ H1 ⟨⟨v4,v5,v6,v7,rfl⟩,_⟩
   exact .inl (k _)
end
theorem bxs {K:aa} {L E:Addr} {cs:List Addr} (nd:(L::E::cs).Nodup) (x:∀ C∈cs,XC K C (.ref E::.ref L::valTail)) (i:Nat) (C:Addr) (hC:cs[i]? = some C) (j:Nat) (D:Addr) (hD:cs[j]? = some D) :
  cj K (.ref C) (.ref D)=some (decide (j=i)):=by
 have h:∀ a:Addr,D≠a->(az D==az a)=false:=fun a n=>by
  rw [Bool.eq_false_iff]
  intro z
  exact n (Value.ref.inj (bS z))
 have n1:=List.nodup_cons.mp nd
 have n2:=List.nodup_cons.mp n1.2
 have mD:=a9 hD
 refine (x C (a9 hC)).kit (x D mD) ?_
 rw [bn,bn,bn,h E (fun z=>n2.1 (z▸mD)),h L (fun z=>n1.1 (.tail _ (z▸mD)))]
 by_cases ji:j=i
 ·subst ji
  rw [hC] at hD
  cases hD
  simp
 ·have ne:D≠C:=fun z=>by
   subst z
   exact ji ((List.getElem?_inj (List.getElem?_eq_some_iff.mp hD).1 n2.2).mp (hD.trans hC.symm))
  rw [h C ne,decide_eq_false ji]
  rfl
end K25
set_option maxHeartbeats 4000000
namespace K25
open PySem L2
structure aw7 (K:aa) (mg:Str->Option Value) (t:Adr):Prop where
 g_zae:MOk K "__init__" "Plain.__init__" Jv t.f_zae t.d_zae Op
 g_zal:MOk K "made" "Edit.made" J2 t.f_zal t.d_zal Ox
 g_zat:MOk K "about" "Put.about" J9 t.f_zat t.d_zat O5
 g_zbe:MOk K "made" "Put.made" Kk t.f_zbe t.d_zbe Pg
 g_zbf:MOk K "told" "Put.told" Kl t.f_zbf t.d_zbf Ph
 g_zh:MOk K "about" "PartEdit.about" Sy t.f_zh t.d_zh Zk
 g_zbc:MOk K "told" "Cut.told" Ki t.f_zbc t.d_zbc Pe
 g_zap:MOk K "told" "Move.told" J5 t.f_zap t.d_zap O1
 g_zav:MOk K "made" "Wrap.made" Kb t.f_zav t.d_zav O7
 g_zaw:MOk K "told" "Wrap.told" Kc t.f_zaw t.d_zaw O8
 g_zbh:DOk K mg "_law_cell" Kn t.f_zbh t.d_zbh Pj
 g_zbm:DOk K mg "_law_name" Ks t.f_zbm t.d_zbm Po
 g_zak:DOk K mg "_law_stream" J1 t.f_zak t.d_zak Ow
 g_zbi:DOk K mg "_law_deed" Ko t.f_zbi t.d_zbi Pk
 g_zaj:DOk K mg "has_length" J0 t.f_zaj t.d_zaj Ov
 g_zay:DOk K mg "is_letter" Ke t.f_zay t.d_zay Pa
 g_zax:DOk K mg "is_figure" Kd t.f_zax t.d_zax O9
 g_zr:DOk K mg "is_name_sign" Th t.f_zr t.d_zr Zu
 g_zbq:DOk K mg "is_name" Kv t.f_zbq t.d_zbq Pt
 g_zbg:DOk K mg "is_whole" Km t.f_zbg t.d_zbg Pi
 g_zbr:DOk K mg "is_rank" Kw t.f_zbr t.d_zbr Pu
 g_zs:DOk K mg "is_text_sign" Ti t.f_zs t.d_zs Zv
 g_zbs:DOk K mg "is_text" Kx t.f_zbs t.d_zbs Pw
 g_zan:MOk K "fits" "Kind.fits" J3 t.f_zan t.d_zan Oz
 g_zy:DOk K mg "is_tuple_of" To t.f_zy t.d_zy Z3
 g_zbu:DOk K mg "is_row" Kz t.f_zbu t.d_zbu Py
 g_zah:MOk K "fits" "Table.fits" Jy t.f_zah t.d_zah Ot
 g_zq:MOk K "word" "Chapter.word" Tg t.f_zq t.d_zq Zt
 g_zaq:MOk K "word" "Para.word" J6 t.f_zaq t.d_zaq O2
 g_zai:MOk K "word" "Table.word" Jz t.f_zai t.d_zai Ou
 g_zt:DOk K mg "kind_of_word" Tj t.f_zt t.d_zt Zw
 g_zbt:DOk K mg "insist" Ky t.f_zbt t.d_zbt Px
 g_zaz:DOk K mg "is_parent" Kf t.f_zaz t.d_zaz Pb
 g_zbd:MOk K "__init__" "Put.__init__" Kj t.f_zbd t.d_zbd Pf
 g_zl:MOk K "__init__" "PartEdit.__init__" Ta t.f_zl t.d_zl Zo
 g_zao:MOk K "__init__" "Move.__init__" J4 t.f_zao t.d_zao O0
 g_zau:MOk K "__init__" "Wrap.__init__" Ka t.f_zau t.d_zau O6
 g_zbl:DOk K mg "_law_made" Kr t.f_zbl t.d_zbl Pn
 g_zba:DOk K mg "_law_about" Kg t.f_zba t.d_zba Pc
 g_zbb:DOk K mg "_law_makes" Kh t.f_zbb t.d_zbb Pd
 g_zbk:DOk K mg "_law_line" Kq t.f_zbk t.d_zbk Pm
 g_zz:DOk K mg "_law_refusal" Tp t.f_zz t.d_zz Z4
 g_zbj:DOk K mg "_law_done" Kp t.f_zbj t.d_zbj Pl
 F_zf:FunD K "__init__" "EditError.__init__" G5 t.f_zf t.d_zf t.dv_zf
 b_zf:∀ j,j<=1->Binds K t.d_zf Zi (t.du_zf.drop j)
 w_zf:Vals [.non] t.du_zf
 if_zf:bV K (.ref t.f_zf)=true
 g_zar:MOk K "has" "Plain.has" J7 t.f_zar t.d_zar O3
 g_zbo:DOk K mg "need_new" Ku t.f_zbo t.d_zbo Pq
 g_zac:MOk K "holds" "Kind.holds" Jt t.f_zac t.d_zac On
 g_zj:MOk K "holds" "Chapter.holds" S0 t.f_zj t.d_zj Zm
 g_zw:MOk K "state" "Plain.state" Tm t.f_zw t.d_zw Zz
 g_zn:MOk K "kind_of" "Plain.kind_of" Td t.f_zn t.d_zn Zq
 g_zaa:DOk K mg "need_holder" Jr t.f_zaa t.d_zaa Ol
 g_zp:MOk K "need_rest" "Put.need_rest" Tf t.f_zp t.d_zp Zs
 g_zk:MOk K "need_rest" "Cut.need_rest" S8 t.f_zk t.d_zk Zn
 g_zd:MOk K "parent_of" "Plain.parent_of" Sv t.f_zd t.d_zd Zg
 g_zbw:DOk K mg "way_up" K1 t.f_zbw t.d_zbw P0
 g_zg:MOk K "need_rest" "Move.need_rest" Sx t.f_zg t.d_zg Zj
 g_zi:MOk K "need_rest" "Wrap.need_rest" Sz t.f_zi t.d_zi Zl
 F_zam:FunD K "need" "Edit.need" Dr t.f_zam t.d_zam t.dv_zam
 b_zam:∀ j,j<=1->Binds K t.d_zam Oy (t.du_zam.drop j)
 w_zam:Vals [.non] t.du_zam
 if_zam:bV K (.ref t.f_zam)=true
 g_zas:MOk K "lay" "Plain.lay" J8 t.f_zas t.d_zas O4
 g_zag:MOk K "change" "Put.change" Jx t.f_zag t.d_zag Os
 g_zc:MOk K "need_place" "Plain.need_place" Su t.f_zc t.d_zc Zf
 g_zo:MOk K "rank_of" "Plain.rank_of" Te t.f_zo t.d_zo Zr
 g_ze:MOk K "place_key" "Plain.place_key" Sw t.f_ze t.d_ze Zh
 g_za:MOk K "all_unders" "Plain.all_unders" Sr t.f_za t.d_za Zd
 g_zaf:MOk K "walk" "Plain.walk" Jw t.f_zaf t.d_zaf Oq
 g_zm:MOk K "beneath" "Plain.beneath" Tc t.f_zm t.d_zm Zp
 g_zad:MOk K "drop" "Plain.drop" Ju t.f_zad t.d_zad Oo
 g_zab:MOk K "change" "Cut.change" Js t.f_zab t.d_zab Om
 g_zb:MOk K "content_of" "Plain.content_of" Ss t.f_zb t.d_zb Ze
 g_zbx:DOk K mg "place" K2 t.f_zbx t.d_zbx P1
 g_zu:MOk K "change" "Move.change" Tk t.f_zu t.d_zu Zx
 g_zx:MOk K "change" "Wrap.change" Tn t.f_zx t.d_zx Z0
 F_zbp:FunD K "on" "Edit.on" Ds t.f_zbp t.d_zbp t.dv_zbp
 b_zbp:∀ j,j<=1->Binds K t.d_zbp Ps (t.du_zbp.drop j)
 w_zbp:Vals [.non] t.du_zbp
 if_zbp:bV K (.ref t.f_zbp)=true
 g_zbn:DOk K mg "_law_told" Kt t.f_zbn t.d_zbn Pp
 g_zv:MOk K "names" "Plain.names" Tl t.f_zv t.d_zv Zy
 g_zbv:DOk K mg "_law_so" K0 t.f_zbv t.d_zbv Pz
 F_zby:FunD K "law" "law" Du t.f_zby t.d_zby .none
 b_zby:∀ j,j<=0->Binds K t.d_zby P2 (([]:List Value).drop j)
 w_zby:Vals [] ([]:List Value)
 m_zby:mg "law" = some (.ref t.f_zby)
 at_zce:mg "LeafError" = some (.ref t.c_zce)
 kp_zce:aq K (.ref t.c_zce)=true
 ec_zce:ECls K t.c_zce
 in_zce:ae K (.ref t.c_zce) "__init__" = some (some (.builtin "ValueError.__init__"))
 at_zch:mg "BadEdit" = some (.ref t.c_zch)
 kp_zch:aq K (.ref t.c_zch)=true
 ec_zch:ECls K t.c_zch
 in_zch:ae K (.ref t.c_zch) "__init__" = some (some (.builtin "ValueError.__init__"))
 at_zcd:mg "EditError" = some (.ref t.c_zcd)
 kp_zcd:aq K (.ref t.c_zcd)=true
 ec_zcd:ECls K t.c_zcd
 in_zcd:ae K (.ref t.c_zcd) "__init__" = some (some (.ref t.f_zf))
 at_zck:mg "NoPart" = some (.ref t.c_zck)
 kp_zck:aq K (.ref t.c_zck)=true
 ec_zck:ECls K t.c_zck
 in_zck:ae K (.ref t.c_zck) "__init__" = some (some (.ref t.f_zf))
 at_zcj:mg "Doubled" = some (.ref t.c_zcj)
 kp_zcj:aq K (.ref t.c_zcj)=true
 ec_zcj:ECls K t.c_zcj
 in_zcj:ae K (.ref t.c_zcj) "__init__" = some (some (.ref t.f_zf))
 at_zcn:mg "Lost" = some (.ref t.c_zcn)
 kp_zcn:aq K (.ref t.c_zcn)=true
 ec_zcn:ECls K t.c_zcn
 in_zcn:ae K (.ref t.c_zcn) "__init__" = some (some (.ref t.f_zf))
 at_zcq:mg "Ring" = some (.ref t.c_zcq)
 kp_zcq:aq K (.ref t.c_zcq)=true
 ec_zcq:ECls K t.c_zcq
 in_zcq:ae K (.ref t.c_zcq) "__init__" = some (some (.ref t.f_zf))
 at_zcg:mg "NoHolder" = some (.ref t.c_zcg)
 kp_zcg:aq K (.ref t.c_zcg)=true
 ec_zcg:ECls K t.c_zcg
 in_zcg:ae K (.ref t.c_zcg) "__init__" = some (some (.ref t.f_zf))
 at_zci:mg "Chapter" = some (.ref t.c_zci)
 kp_zci:aq K (.ref t.c_zci)=true
 mk_zci:aS K t.c_zci=true
 in_zci:ae K (.ref t.c_zci) "__init__" = some (some (.builtin "object.__init__"))
 cl_zci:Cls K t.c_zci
 at_zcp:mg "Para" = some (.ref t.c_zcp)
 kp_zcp:aq K (.ref t.c_zcp)=true
 mk_zcp:aS K t.c_zcp=true
 in_zcp:ae K (.ref t.c_zcp) "__init__" = some (some (.builtin "object.__init__"))
 cl_zcp:Cls K t.c_zcp
 at_zcm:mg "Table" = some (.ref t.c_zcm)
 kp_zcm:aq K (.ref t.c_zcm)=true
 mk_zcm:aS K t.c_zcm=true
 in_zcm:ae K (.ref t.c_zcm) "__init__" = some (some (.builtin "object.__init__"))
 cl_zcm:Cls K t.c_zcm
 at_zcl:mg "Plain" = some (.ref t.c_zcl)
 kp_zcl:aq K (.ref t.c_zcl)=true
 mk_zcl:aS K t.c_zcl=true
 in_zcl:ae K (.ref t.c_zcl) "__init__" = some (some (.ref t.f_zae))
 cl_zcl:Cls K t.c_zcl
 at_zct:mg "Put" = some (.ref t.c_zct)
 kp_zct:aq K (.ref t.c_zct)=true
 mk_zct:aS K t.c_zct=true
 in_zct:ae K (.ref t.c_zct) "__init__" = some (some (.ref t.f_zbd))
 cl_zct:Cls K t.c_zct
 at_zcs:mg "Cut" = some (.ref t.c_zcs)
 kp_zcs:aq K (.ref t.c_zcs)=true
 mk_zcs:aS K t.c_zcs=true
 in_zcs:ae K (.ref t.c_zcs) "__init__" = some (some (.ref t.f_zl))
 cl_zcs:Cls K t.c_zcs
 at_zco:mg "Move" = some (.ref t.c_zco)
 kp_zco:aq K (.ref t.c_zco)=true
 mk_zco:aS K t.c_zco=true
 in_zco:ae K (.ref t.c_zco) "__init__" = some (some (.ref t.f_zao))
 cl_zco:Cls K t.c_zco
 at_zcr:mg "Wrap" = some (.ref t.c_zcr)
 kp_zcr:aq K (.ref t.c_zcr)=true
 mk_zcr:aS K t.c_zcr=true
 in_zcr:ae K (.ref t.c_zcr) "__init__" = some (some (.ref t.f_zau))
 cl_zcr:Cls K t.c_zcr
 at_Edit:mg "Edit" = some (.ref t.c_Edit)
 at_PartEdit:mg "PartEdit" = some (.ref t.c_PartEdit)
 su_PartEdit:Ur K t.c_PartEdit t.f_zl
 mt_zat:A2 K t.c_zct "about" t.f_zat
 mt_Cut_about:A2 K t.c_zcs "about" t.f_zh
 mt_Move_about:A2 K t.c_zco "about" t.f_zh
 mt_Wrap_about:A2 K t.c_zcr "about" t.f_zh
 mt_za:A2 K t.c_zcl "all_unders" t.f_za
 mt_zm:A2 K t.c_zcl "beneath" t.f_zm
 mt_zag:A2 K t.c_zct "change" t.f_zag
 mt_zab:A2 K t.c_zcs "change" t.f_zab
 mt_zu:A2 K t.c_zco "change" t.f_zu
 mt_zx:A2 K t.c_zcr "change" t.f_zx
 mt_zb:A2 K t.c_zcl "content_of" t.f_zb
 mt_zad:A2 K t.c_zcl "drop" t.f_zad
 mt_Chapter_fits:A2 K t.c_zci "fits" t.f_zan
 mt_Para_fits:A2 K t.c_zcp "fits" t.f_zan
 mt_zah:A2 K t.c_zcm "fits" t.f_zah
 mt_zar:A2 K t.c_zcl "has" t.f_zar
 mt_zj:A2 K t.c_zci "holds" t.f_zj
 mt_Para_holds:A2 K t.c_zcp "holds" t.f_zac
 mt_Table_holds:A2 K t.c_zcm "holds" t.f_zac
 mt_zn:A2 K t.c_zcl "kind_of" t.f_zn
 mt_zas:A2 K t.c_zcl "lay" t.f_zas
 mt_zbe:A2 K t.c_zct "made" t.f_zbe
 mt_Cut_made:A2 K t.c_zcs "made" t.f_zal
 mt_Move_made:A2 K t.c_zco "made" t.f_zal
 mt_zav:A2 K t.c_zcr "made" t.f_zav
 mt_zv:A2 K t.c_zcl "names" t.f_zv
 mt_Put_need:A2 K t.c_zct "need" t.f_zam
 mt_Cut_need:A2 K t.c_zcs "need" t.f_zam
 mt_Move_need:A2 K t.c_zco "need" t.f_zam
 mt_Wrap_need:A2 K t.c_zcr "need" t.f_zam
 mt_zc:A2 K t.c_zcl "need_place" t.f_zc
 mt_zp:A2 K t.c_zct "need_rest" t.f_zp
 mt_zk:A2 K t.c_zcs "need_rest" t.f_zk
 mt_zg:A2 K t.c_zco "need_rest" t.f_zg
 mt_zi:A2 K t.c_zcr "need_rest" t.f_zi
 mt_Put_on:A2 K t.c_zct "on" t.f_zbp
 mt_Cut_on:A2 K t.c_zcs "on" t.f_zbp
 mt_Move_on:A2 K t.c_zco "on" t.f_zbp
 mt_Wrap_on:A2 K t.c_zcr "on" t.f_zbp
 mt_zd:A2 K t.c_zcl "parent_of" t.f_zd
 mt_zo:A2 K t.c_zcl "rank_of" t.f_zo
 mt_zw:A2 K t.c_zcl "state" t.f_zw
 mt_zbf:A2 K t.c_zct "told" t.f_zbf
 mt_zbc:A2 K t.c_zcs "told" t.f_zbc
 mt_zap:A2 K t.c_zco "told" t.f_zap
 mt_zaw:A2 K t.c_zcr "told" t.f_zaw
 mt_zaf:A2 K t.c_zcl "walk" t.f_zaf
 mt_zq:A2 K t.c_zci "word" t.f_zq
 mt_zaq:A2 K t.c_zcp "word" t.f_zaq
 mt_zai:A2 K t.c_zcm "word" t.f_zai
 mt_ze:A2 K t.c_zcl "place_key" t.f_ze
 ky_ze:b6 K (.ref t.f_ze) "__get__" = some (some (.builtin "function.__get__"))/\cO K (.ref t.f_ze)=some false
 v_zbz:mg "GREATEST_RANK" = some t.u_zbz
 r_zbz:RelV (.int 1000000000) t.u_zbz
 v_zca:mg "LONGEST_TEXT" = some t.u_zca
 r_zca:RelV (.int 60) t.u_zca
 v_zcb:mg "PERCENT_SIGN" = some t.u_zcb
 r_zcb:RelV (.int 37) t.u_zcb
 v_zcf:mg "MOST_ROWS" = some t.u_zcf
 r_zcf:RelV (.int 6) t.u_zcf
 v_zcc:mg "MOST_CELLS" = some t.u_zcc
 r_zcc:RelV (.int 6) t.u_zcc
 v_zcu:mg "TOP" = some t.u_zcu
 r_zcu:RelV (.str "") t.u_zcu
 z:∀ x∈bl,mg x=none
 Z:Facts K t
theorem bc4 {P:aH} {w:bh} {K:aa} {mg:Str->Option Value} {base:Heap} {t:Adr} (A:aw7 K mg t):FnOk P w K mg base CX0 15 t.f_zby t.d_zby P2 (Ob K t):=by
 have T0:Tab P w K mg base 0 (Ax K t) bl:=(((((((((((((((((((((((Tab.nil A.z).consV A.v_zcu A.r_zcu).consV A.v_zcc A.r_zcc).consV A.v_zcf A.r_zcf).consV A.v_zcb A.r_zcb).consV A.v_zca A.r_zca).consV A.v_zbz A.r_zbz).consV (v:=.ref t.c_Edit) A.at_Edit rfl).consV (v:=.ref t.c_zcr) A.at_zcr rfl).consV (v:=.ref t.c_zco) A.at_zco rfl).consV (v:=.ref t.c_zcs) A.at_zcs rfl).consV (v:=.ref t.c_zct) A.at_zct rfl).consV (v:=.ref t.c_zcl) A.at_zcl rfl).consC (oi:=none) ⟨A.at_zcm,A.kp_zcm,A.mk_zcm,A.in_zcm⟩).consC (oi:=none) ⟨A.at_zcp,A.kp_zcp,A.mk_zcp,A.in_zcp⟩).consC (oi:=none) ⟨A.at_zci,A.kp_zci,A.mk_zci,A.in_zci⟩).consV (v:=.ref t.c_zcg) A.at_zcg rfl).consV (v:=.ref t.c_zcq) A.at_zcq rfl).consV (v:=.ref t.c_zcn) A.at_zcn rfl).consV (v:=.ref t.c_zcj) A.at_zcj rfl).consV (v:=.ref t.c_zck) A.at_zck rfl).consV (v:=.ref t.c_zcd) A.at_zcd rfl).consX (oi:=none) ⟨A.at_zch,A.kp_zch,A.ec_zch,A.in_zch⟩).consX (oi:=none) ⟨A.at_zce,A.kp_zce,A.ec_zce,A.in_zce⟩
 have T1:Tab P w K mg base 1 (D5 K t) bl:=(((((((((((((((((((((T0.mono (show 0<=1 by decide)).con (a00 K t) A.g_zbk (bg2 (t:=t) A.Z A.g_zbk.F T0)).con (az2 K t) A.g_zbb (bf3 (t:=t) A.Z A.g_zbb.F T0)).con (az1 K t) A.g_zba (bf2 (t:=t) A.Z A.g_zba.F T0)).con (a08 K t) A.g_zbt (bh0 (t:=t) A.Z A.g_zbt.F T0)).con (b77 K t) A.g_zy (ca7 (t:=t) A.Z A.g_zy.F T0)).con (b73 K t) A.g_zs (ca1 (t:=t) A.Z A.g_zs.F T0)).con (az6 K t) A.g_zbg (bf8 (t:=t) A.Z A.g_zbg.F T0)).con (ay8 K t) A.g_zax (be9 (t:=t) A.Z A.g_zax.F T0)).con (ay9 K t) A.g_zay (bf0 (t:=t) A.Z A.g_zay.F T0)).con (ay2 K t) A.g_zaj (bd8 (t:=t) A.Z A.g_zaj.F T0)).con (ay3 K t) A.g_zak (bd9 (t:=t) A.Z A.g_zak.F T0)).con (a02 K t) A.g_zbm (bg4 (t:=t) A.Z A.g_zbm.F T0)).con (az7 K t) A.g_zbh (bf9 (t:=t) A.Z A.g_zbh.F T0)).consM (m := "word") (l:=Ht K t) (fun mi hm=>by
  simp only [Ht,av,aO,or_false] at hm
  rcases hm with rfl|rfl|rfl
  ·exact⟨A.cl_zci,A.mt_zq,A.g_zq.fi (bb4 K t) (b99 (t:=t) A.Z A.g_zq.F T0)⟩
  ·exact⟨A.cl_zcp,A.mt_zaq,A.g_zaq.fi (ad9 K t) (be2 (t:=t) A.Z A.g_zaq.F T0)⟩
  ·exact⟨A.cl_zcm,A.mt_zai,A.g_zai.fi (ay1 K t) (bd7 (t:=t) A.Z A.g_zai.F T0)⟩)).consM (m := "told") (l:=Gc K t) (fun mi hm=>by
  simp only [Gc,av,aO,or_false] at hm
  rcases hm with rfl|rfl|rfl|rfl
  ·exact⟨A.cl_zct,A.mt_zbf,A.g_zbf.fi (az5 K t) (bf7 (t:=t) A.Z A.g_zbf.F T0)⟩
  ·exact⟨A.cl_zcs,A.mt_zbc,A.g_zbc.fi (az3 K t) (bf4 (t:=t) A.Z A.g_zbc.F T0)⟩
  ·exact⟨A.cl_zco,A.mt_zap,A.g_zap.fi (ay4 K t) (be1 (t:=t) A.Z A.g_zap.F T0)⟩
  ·exact⟨A.cl_zcr,A.mt_zaw,A.g_zaw.fi (ay7 K t) (be8 (t:=t) A.Z A.g_zaw.F T0)⟩)).consM (m := "names") (l:=Jh K t) (one ⟨A.cl_zcl,A.mt_zv,A.g_zv.fi (bb5 K t) (ca4 (t:=t) A.Z A.g_zv.F T0)⟩)).consM (m := "made") (l:=Ga K t) (fun mi hm=>by
  simp only [Ga,av,aO,or_false] at hm
  rcases hm with rfl|rfl|rfl|rfl
  ·exact⟨A.cl_zct,A.mt_zbe,A.g_zbe.fi (az4 K t) (bf6 (t:=t) A.Z A.g_zbe.F T0)⟩
  ·exact⟨A.cl_zcs,A.mt_Cut_made,A.g_zal.fi (Ve K t) (ag1 (t:=t) A.Z A.g_zal.F T0)⟩
  ·exact⟨A.cl_zco,A.mt_Move_made,A.g_zal.fi (Ve K t) (ag1 (t:=t) A.Z A.g_zal.F T0)⟩
  ·exact⟨A.cl_zcr,A.mt_zav,A.g_zav.fi (ay6 K t) (be7 (t:=t) A.Z A.g_zav.F T0)⟩)).consM (m := "lay") (l:=Jg K t) (one ⟨A.cl_zcl,A.mt_zas,A.g_zas.fi (Qi K t) (be4 (t:=t) A.Z A.g_zas.F T0)⟩)).consM (m := "holds") (l:=Em K t) (fun mi hm=>by
  simp only [Em,av,aO,or_false] at hm
  rcases hm with rfl|rfl|rfl
  ·exact⟨A.cl_zci,A.mt_zj,A.g_zj.fi (bb2 K t) (b93 (t:=t) A.Z A.g_zj.F T0)⟩
  ·exact⟨A.cl_zcp,A.mt_Para_holds,A.g_zac.fi (Qe K t) (ag0 (t:=t) A.Z A.g_zac.F T0)⟩
  ·exact⟨A.cl_zcm,A.mt_Table_holds,A.g_zac.fi (Qe K t) (ag0 (t:=t) A.Z A.g_zac.F T0)⟩)).consM (m := "has") (l:=Jf K t) (one ⟨A.cl_zcl,A.mt_zar,A.g_zar.fi (Qh K t) (be3 (t:=t) A.Z A.g_zar.F T0)⟩)).consM (m := "about") (l:=Cp K t) (fun mi hm=>by
  simp only [Cp,av,aO,or_false] at hm
  rcases hm with rfl|rfl|rfl|rfl
  ·exact⟨A.cl_zct,A.mt_zat,A.g_zat.fi (ay5 K t) (be5 (t:=t) A.Z A.g_zat.F T0)⟩
  ·exact⟨A.cl_zcs,A.mt_Cut_about,A.g_zh.fi (Wz K t) (ag3 (t:=t) A.Z A.g_zh.F T0)⟩
  ·exact⟨A.cl_zco,A.mt_Move_about,A.g_zh.fi (Wz K t) (ag3 (t:=t) A.Z A.g_zh.F T0)⟩
  ·exact⟨A.cl_zcr,A.mt_Wrap_about,A.g_zh.fi (Wz K t) (ag3 (t:=t) A.Z A.g_zh.F T0)⟩)
 have T2:Tab P w K mg base 2 (Fu K t) bl:=((((((((((((((T1.mono (show 1<=2 by decide)).consC (oi:=some (Vd K t)) ⟨A.at_zcl,A.kp_zcl,A.mk_zcl,A.in_zcl,A.g_zae.i,A.g_zae.fi (Vd K t) (bd3 (t:=t) A.Z A.g_zae.F T0),ac 2⟩).consX (oi:=some (Dk K t)) ⟨A.at_zcg,A.kp_zcg,A.ec_zcg,A.in_zcg,A.if_zf,A.F_zf.kp,⟨CX0,fun X' _ _=>Cr X',Mb (t:=t) A.Z A.F_zf T0⟩,ac 2,A.b_zf,A.w_zf⟩).consX (oi:=some (Dk K t)) ⟨A.at_zcq,A.kp_zcq,A.ec_zcq,A.in_zcq,A.if_zf,A.F_zf.kp,⟨CX0,fun X' _ _=>Cr X',Mb (t:=t) A.Z A.F_zf T0⟩,ac 2,A.b_zf,A.w_zf⟩).consX (oi:=some (Dk K t)) ⟨A.at_zcn,A.kp_zcn,A.ec_zcn,A.in_zcn,A.if_zf,A.F_zf.kp,⟨CX0,fun X' _ _=>Cr X',Mb (t:=t) A.Z A.F_zf T0⟩,ac 2,A.b_zf,A.w_zf⟩).consX (oi:=some (Dk K t)) ⟨A.at_zcj,A.kp_zcj,A.ec_zcj,A.in_zcj,A.if_zf,A.F_zf.kp,⟨CX0,fun X' _ _=>Cr X',Mb (t:=t) A.Z A.F_zf T0⟩,ac 2,A.b_zf,A.w_zf⟩).consX (oi:=some (Dk K t)) ⟨A.at_zck,A.kp_zck,A.ec_zck,A.in_zck,A.if_zf,A.F_zf.kp,⟨CX0,fun X' _ _=>Cr X',Mb (t:=t) A.Z A.F_zf T0⟩,ac 2,A.b_zf,A.w_zf⟩).consX (oi:=some (Dk K t)) ⟨A.at_zcd,A.kp_zcd,A.ec_zcd,A.in_zcd,A.if_zf,A.F_zf.kp,⟨CX0,fun X' _ _=>Cr X',Mb (t:=t) A.Z A.F_zf T0⟩,ac 2,A.b_zf,A.w_zf⟩).con (az9 K t) A.g_zbj (bg1 (t:=t) A.Z A.g_zbj.F T1)).con (b78 K t) A.g_zz (ca8 (t:=t) A.Z A.g_zz.F T1)).con (b74 K t) A.g_zt (ca2 (t:=t) A.Z A.g_zt.F T1)).con (a07 K t) A.g_zbs (bg9 (t:=t) A.Z A.g_zbs.F T1)).con (a06 K t) A.g_zbr (bg8 (t:=t) A.Z A.g_zbr.F T1)).con (b72 K t) A.g_zr (ca0 (t:=t) A.Z A.g_zr.F T1)).con (az8 K t) A.g_zbi (bg0 (t:=t) A.Z A.g_zbi.F T1)
 have T3:Tab P w K mg base 3 (D6 K t) bl:=(((((T2.mono (show 2<=3 by decide)).conE (a04 K t) A.g_zbo (bg6 (t:=t) A.Z A.g_zbo.F T2)).con (a09 K t) A.g_zbu (bh1 (t:=t) A.Z A.g_zbu.F T2)).con (a05 K t) A.g_zbq (bg7 (t:=t) A.Z A.g_zbq.F T2)).consM (m := "state") (l:=Cq K t) (one ⟨A.cl_zcl,A.mt_zw,A.g_zw.fi (Qk K t) (ca5 (t:=t) A.Z A.g_zw.F T2)⟩)).consM (m := "need_place") (l:=Di K t) (one ⟨A.cl_zcl,A.mt_zc,A.g_zc.fi (bb1 K t) (b89 (t:=t) A.Z A.g_zc.F T2)⟩)
 have T4:Tab P w K mg base 4 (Fv K t) bl:=(((((((T3.mono (show 3<=4 by decide)).consI (i:=Rx K t) ⟨A.at_PartEdit,A.su_PartEdit,A.g_zl.fi (Rx K t) (a18 (t:=t) A.Z A.g_zl.F T3)⟩).con (az0 K t) A.g_zaz (bf1 (t:=t) A.Z A.g_zaz.F T3)).consM (m := "rank_of") (l:=D0 K t) (one ⟨A.cl_zcl,A.mt_zo,A.g_zo.fi (aq4 K t) (b97 (t:=t) A.Z A.g_zo.F T3)⟩)).consM (m := "parent_of") (l:=Bk K t) (one ⟨A.cl_zcl,A.mt_zd,A.g_zd.fi (Rw K t) (b90 (t:=t) A.Z A.g_zd.F T3)⟩)).consM (m := "kind_of") (l:=C7 K t) (one ⟨A.cl_zcl,A.mt_zn,A.g_zn.fi (ae0 K t) (b96 (t:=t) A.Z A.g_zn.F T3)⟩)).consM (m := "fits") (l:=F9 K t) (fun mi hm=>by
  simp only [F9,av,aO,or_false] at hm
  rcases hm with rfl|rfl|rfl
  ·exact⟨A.cl_zci,A.mt_Chapter_fits,A.g_zan.fi (Lw K t) (ag2 (t:=t) A.Z A.g_zan.F T2)⟩
  ·exact⟨A.cl_zcp,A.mt_Para_fits,A.g_zan.fi (Lw K t) (ag2 (t:=t) A.Z A.g_zan.F T2)⟩
  ·exact⟨A.cl_zcm,A.mt_zah,A.g_zah.fi (ay0 K t) (bd6 (t:=t) A.Z A.g_zah.F T3)⟩)).consM (m := "content_of") (l:=Dh K t) (one ⟨A.cl_zcl,A.mt_zb,A.g_zb.fi (bb0 K t) (b88 (t:=t) A.Z A.g_zb.F T3)⟩)
 have T5:Tab P w K mg base 5 (Fw K t) bl:=((((((T4.mono (show 4<=5 by decide)).consC (oi:=some (Rx K t)) ⟨A.at_zcs,A.kp_zcs,A.mk_zcs,A.in_zcs,A.g_zl.i,A.g_zl.fi (Rx K t) (a18 (t:=t) A.Z A.g_zl.F T3),ac 5⟩).con (a10 K t) A.g_zbv (bh2 (t:=t) A.Z A.g_zbv.F T4)).con (a12 K t) A.g_zbx (bh4 (t:=t) A.Z A.g_zbx.F T4)).con (a11 K t) A.g_zbw (bh3 (t:=t) A.Z A.g_zbw.F T4)).conE (ax7 K t) A.g_zaa (bd0 (t:=t) A.Z A.g_zaa.F T4)).consM (m := "place_key") (l:=Br K t) (one ⟨A.cl_zcl,A.mt_ze,A.g_ze.fi (aq3 K t) (a17 (t:=t) A.Z A.g_ze.F T4)⟩)
 have T6:Tab P w K mg base 6 (ap7 K t) bl:=((T5.mono (show 5<=6 by decide)).consC (oi:=some (Vh K t)) ⟨A.at_zct,A.kp_zct,A.mk_zct,A.in_zct,A.g_zbd.i,A.g_zbd.fi (Vh K t) (bf5 (t:=t) A.Z A.g_zbd.F T4),ac 6⟩).consM (m := "need_rest") (l:=Ce K t) (fun mi hm=>by
  simp only [Ce,av,aO,or_false] at hm
  rcases hm with rfl|rfl|rfl|rfl
  ·exact⟨A.cl_zct,A.mt_zp,A.g_zp.fiE (b71 K t) (b98 (t:=t) A.Z A.g_zp.F T5)⟩
  ·exact⟨A.cl_zcs,A.mt_zk,A.g_zk.fi (b70 K t) (b94 (t:=t) A.Z A.g_zk.F T0)⟩
  ·exact⟨A.cl_zco,A.mt_zg,A.g_zg.fiE (b68 K t) (b91 (t:=t) A.Z A.g_zg.F T5)⟩
  ·exact⟨A.cl_zcr,A.mt_zi,A.g_zi.fiE (b69 K t) (b92 (t:=t) A.Z A.g_zi.F T3)⟩)
 have T7:Tab P w K mg base 7 (Ws K t) bl:=((((T6.mono (show 6<=7 by decide)).consC (oi:=some (Vg K t)) ⟨A.at_zcr,A.kp_zcr,A.mk_zcr,A.in_zcr,A.g_zau.i,A.g_zau.fi (Vg K t) (be6 (t:=t) A.Z A.g_zau.F T5),ac 7⟩).consC (oi:=some (Vf K t)) ⟨A.at_zco,A.kp_zco,A.mk_zco,A.in_zco,A.g_zao.i,A.g_zao.fi (Vf K t) (be0 (t:=t) A.Z A.g_zao.F T5),ac 7⟩).consM (m := "need") (l:=Gb K t) (fun mi hm=>by
  simp only [Gb,av,aO,or_false] at hm
  rcases hm with rfl|rfl|rfl|rfl
  ·exact⟨A.cl_zct,A.mt_Put_need,⟨A.F_zam.kp,⟨CXE P w,fun X' e1 e2=>e1▸e2▸Bv X',Nl (t:=t) A.Z A.F_zam T6⟩,(show 7<=7 by decide),A.b_zam,A.w_zam⟩⟩
  ·exact⟨A.cl_zcs,A.mt_Cut_need,⟨A.F_zam.kp,⟨CXE P w,fun X' e1 e2=>e1▸e2▸Bv X',Nl (t:=t) A.Z A.F_zam T6⟩,(show 7<=7 by decide),A.b_zam,A.w_zam⟩⟩
  ·exact⟨A.cl_zco,A.mt_Move_need,⟨A.F_zam.kp,⟨CXE P w,fun X' e1 e2=>e1▸e2▸Bv X',Nl (t:=t) A.Z A.F_zam T6⟩,(show 7<=7 by decide),A.b_zam,A.w_zam⟩⟩
  ·exact⟨A.cl_zcr,A.mt_Wrap_need,⟨A.F_zam.kp,⟨CXE P w,fun X' e1 e2=>e1▸e2▸Bv X',Nl (t:=t) A.Z A.F_zam T6⟩,(show 7<=7 by decide),A.b_zam,A.w_zam⟩⟩)).consK (m := "place_key") (l:=Br K t) (fun mi hm=>by
  simp only [Br,av,aO,or_false] at hm
  rcases hm with rfl
  ·exact⟨⟨A.cl_zcl,A.mt_ze,A.g_ze.fi (aq3 K t) (a17 (t:=t) A.Z A.g_ze.F T4)⟩,A.ky_ze.1,A.ky_ze.2,by decide +kernel,(show 7<=7 by decide)⟩)
 have T8:Tab P w K mg base 8 (ap8 K t) bl:=((T7.mono (show 7<=8 by decide)).con (a01 K t) A.g_zbl (bg3 (t:=t) A.Z A.g_zbl.F T7)).consM (m := "all_unders") (l:=Dg K t) (one ⟨A.cl_zcl,A.mt_za,A.g_za.fi (ba9 K t) (b87 (t:=t) A.Z A.g_za.F T7)⟩)
 have T9:Tab P w K mg base 9 (ap9 K t) bl:=(T8.mono (show 8<=9 by decide)).consM (m := "walk") (l:=Ng K t) (one ⟨A.cl_zcl,A.mt_zaf,A.g_zaf.fi (ad8 K t) (bd4 (t:=t) A.Z A.g_zaf.F T8)⟩)
 have T10:Tab P w K mg base 10 (U7 K t) bl:=(T9.mono (show 9<=10 by decide)).consM (m := "beneath") (l:=Fd K t) (one ⟨A.cl_zcl,A.mt_zm,A.g_zm.fi (bb3 K t) (b95 (t:=t) A.Z A.g_zm.F T9)⟩)
 have T11:Tab P w K mg base 11 (U8 K t) bl:=(T10.mono (show 10<=11 by decide)).consM (m := "drop") (l:=Nf K t) (one ⟨A.cl_zcl,A.mt_zad,A.g_zad.fi (ad7 K t) (bd2 (t:=t) A.Z A.g_zad.F T10)⟩)
 have T12:Tab P w K mg base 12 (U9 K t) bl:=(T11.mono (show 11<=12 by decide)).consM (m := "change") (l:=Do K t) (fun mi hm=>by
  simp only [Do,av,aO,or_false] at hm
  rcases hm with rfl|rfl|rfl|rfl
  ·exact⟨A.cl_zct,A.mt_zag,A.g_zag.fi (ax9 K t) (bd5 (t:=t) A.Z A.g_zag.F T1)⟩
  ·exact⟨A.cl_zcs,A.mt_zab,A.g_zab.fi (ax8 K t) (bd1 (t:=t) A.Z A.g_zab.F T11)⟩
  ·exact⟨A.cl_zco,A.mt_zu,A.g_zu.fi (b75 K t) (ca3 (t:=t) A.Z A.g_zu.F T5)⟩
  ·exact⟨A.cl_zcr,A.mt_zx,A.g_zx.fi (b76 K t) (ca6 (t:=t) A.Z A.g_zx.F T5)⟩)
 have T13:Tab P w K mg base 13 (Va K t) bl:=(T12.mono (show 12<=13 by decide)).consM (m := "on") (l:=Vl K t) (fun mi hm=>by
  simp only [Vl,av,aO,or_false] at hm
  rcases hm with rfl|rfl|rfl|rfl
  ·exact⟨A.cl_zct,A.mt_Put_on,⟨A.F_zbp.kp,⟨CXE P w,fun X' e1 e2=>e1▸e2▸Bv X',Nm (t:=t) A.Z A.F_zbp T12⟩,(show 13<=13 by decide),A.b_zbp,A.w_zbp⟩⟩
  ·exact⟨A.cl_zcs,A.mt_Cut_on,⟨A.F_zbp.kp,⟨CXE P w,fun X' e1 e2=>e1▸e2▸Bv X',Nm (t:=t) A.Z A.F_zbp T12⟩,(show 13<=13 by decide),A.b_zbp,A.w_zbp⟩⟩
  ·exact⟨A.cl_zco,A.mt_Move_on,⟨A.F_zbp.kp,⟨CXE P w,fun X' e1 e2=>e1▸e2▸Bv X',Nm (t:=t) A.Z A.F_zbp T12⟩,(show 13<=13 by decide),A.b_zbp,A.w_zbp⟩⟩
  ·exact⟨A.cl_zcr,A.mt_Wrap_on,⟨A.F_zbp.kp,⟨CXE P w,fun X' e1 e2=>e1▸e2▸Bv X',Nm (t:=t) A.Z A.F_zbp T12⟩,(show 13<=13 by decide),A.b_zbp,A.w_zbp⟩⟩)
 have T14:Tab P w K mg base 14 (ad1 K t) bl:=(T13.mono (show 13<=14 by decide)).con (a03 K t) A.g_zbn (bg5 (t:=t) A.Z A.g_zbn.F T13)
 exact bh5 (t:=t) A.Z A.F_zby T14
@[elab_as_elim] theorem Bu {P:List Value->Prop} (h:∀ a,P [a]):∀ us:List Value,us.length=1->P us
 | [a],_=>h a
@[elab_as_elim] theorem B7 {P:List Value->Prop} (h:∀ a b,P [a,b]):∀ us:List Value,us.length=2->P us
 | [a,b],_=>h a b
@[elab_as_elim] theorem Jb {P:List Value->Prop} (h:∀ a b c,P [a,b,c]):∀ us:List Value,us.length=3->P us
 | [a,b,c],_=>h a b c
@[elab_as_elim] theorem bc5 {P:List Value->Prop} (h:∀ a b c d,P [a,b,c,d]):∀ us:List Value,us.length=4->P us
 | [a,b,c,d],_=>h a b c d
@[elab_as_elim] theorem b83 {P:List Value->Prop} (h:∀ a b c d e f,P [a,b,c,d,e,f]):∀ us:List Value,us.length=6->P us
 | [a,b,c,d,e,f],_=>h a b c d e f
theorem all_mk {l:im} {w:bh} {K:aa} {h:Heap} {mg:Str->Option Value} {fa f_zae f_zal f_zat f_zbe f_zbf f_zh f_zbc f_zap f_zav f_zaw f_zbh f_zbm f_zak f_zbi f_zaj f_zay f_zax f_zr f_zbq f_zbg f_zbr f_zs f_zbs f_zan f_zy f_zbu f_zah f_zq f_zaq f_zai f_zt f_zbt f_zaz f_zbd f_zl f_zao f_zau f_zbl f_zba f_zbb f_zbk f_zz f_zbj f_zf f_zar f_zbo f_zac f_zj f_zw f_zn f_zaa f_zp f_zk f_zd f_zbw f_zg f_zi f_zam f_zas f_zag f_zc f_zo f_ze f_za f_zaf f_zm f_zad f_zab f_zb f_zbx f_zu f_zx f_zbp f_zbn f_zv f_zbv f_zby c_zce c_zch c_zcd c_zck c_zcj c_zcn c_zcq c_zcg c_zci c_zcp c_zcm c_zcl c_zct c_zcs c_zco c_zcr c_Edit c_PartEdit Td_zf Td_zam Td_zbp:Addr} (X:K.In h) (G:h.Ns aG mg) (hfa:mg "law" = some (.ref fa))
  {od_zf an_zf od_zam an_zam od_zbp an_zbp od_zby an_zby td_zf td_zam td_zbp:Option Addr} {sl_zf sl_zam sl_zbp sl_zby ts_zf ts_zam ts_zbp:Array (Option Value)}
  {oc_zf kV_zf dc_zf pm_zf cd_zf ct_zf oc_zam kV_zam dc_zam pm_zam cd_zam ct_zam oc_zbp kV_zbp dc_zbp pm_zbp cd_zbp ct_zbp oc_zby kV_zby dc_zby pm_zby cd_zby ct_zby tc_zf tc_zam tc_zbp:Value}
  {tn_zf tn_zam tn_zbp:Nat}
  {u_zbz u_zca u_zcb u_zcf u_zcc u_zcu:Value}
  (a_zce:aK K aG "LeafError" = some (some (.ref c_zce)))
  (a_zch:aK K aG "BadEdit" = some (some (.ref c_zch)))
  (a_zcd:aK K aG "EditError" = some (some (.ref c_zcd)))
  (a_zck:aK K aG "NoPart" = some (some (.ref c_zck)))
  (a_zcj:aK K aG "Doubled" = some (some (.ref c_zcj)))
  (a_zcn:aK K aG "Lost" = some (some (.ref c_zcn)))
  (a_zcq:aK K aG "Ring" = some (some (.ref c_zcq)))
  (a_zcg:aK K aG "NoHolder" = some (some (.ref c_zcg)))
  (in_zce:ae K (.ref c_zce) "__init__" = some (some (.builtin "ValueError.__init__")))
  (kp_zce:aq K (.ref c_zce)=true)
  (in_zch:ae K (.ref c_zch) "__init__" = some (some (.builtin "ValueError.__init__")))
  (kp_zch:aq K (.ref c_zch)=true)
  (in_zcd:ae K (.ref c_zcd) "__init__" = some (some (.ref f_zf)))
  (kp_zcd:aq K (.ref c_zcd)=true)
  (in_zck:ae K (.ref c_zck) "__init__" = some (some (.ref f_zf)))
  (kp_zck:aq K (.ref c_zck)=true)
  (in_zcj:ae K (.ref c_zcj) "__init__" = some (some (.ref f_zf)))
  (kp_zcj:aq K (.ref c_zcj)=true)
  (in_zcn:ae K (.ref c_zcn) "__init__" = some (some (.ref f_zf)))
  (kp_zcn:aq K (.ref c_zcn)=true)
  (in_zcq:ae K (.ref c_zcq) "__init__" = some (some (.ref f_zf)))
  (kp_zcq:aq K (.ref c_zcq)=true)
  (in_zcg:ae K (.ref c_zcg) "__init__" = some (some (.ref f_zf)))
  (kp_zcg:aq K (.ref c_zcg)=true)
  (a_zci:aK K aG "Chapter" = some (some (.ref c_zci)))
  (a_zcp:aK K aG "Para" = some (some (.ref c_zcp)))
  (a_zcm:aK K aG "Table" = some (some (.ref c_zcm)))
  (a_zcl:aK K aG "Plain" = some (some (.ref c_zcl)))
  (a_zct:aK K aG "Put" = some (some (.ref c_zct)))
  (a_zcs:aK K aG "Cut" = some (some (.ref c_zcs)))
  (a_zco:aK K aG "Move" = some (some (.ref c_zco)))
  (a_zcr:aK K aG "Wrap" = some (some (.ref c_zcr)))
  (in_zci:ae K (.ref c_zci) "__init__" = some (some (.builtin "object.__init__")))
  (kp_zci:aq K (.ref c_zci)=true)
  (mk_zci:aS K c_zci=true)
  (pg_zci:bP K c_zci ck=true)
  (hd_zci:bQ K c_zci=true)
  (po_zci:b0 K c_zci=true)
  (sa_zci:ae K (.ref c_zci) "__setattr__" = some (some (.builtin "object.__setattr__")))
  (in_zcp:ae K (.ref c_zcp) "__init__" = some (some (.builtin "object.__init__")))
  (kp_zcp:aq K (.ref c_zcp)=true)
  (mk_zcp:aS K c_zcp=true)
  (pg_zcp:bP K c_zcp ck=true)
  (hd_zcp:bQ K c_zcp=true)
  (po_zcp:b0 K c_zcp=true)
  (sa_zcp:ae K (.ref c_zcp) "__setattr__" = some (some (.builtin "object.__setattr__")))
  (in_zcm:ae K (.ref c_zcm) "__init__" = some (some (.builtin "object.__init__")))
  (kp_zcm:aq K (.ref c_zcm)=true)
  (mk_zcm:aS K c_zcm=true)
  (pg_zcm:bP K c_zcm ck=true)
  (hd_zcm:bQ K c_zcm=true)
  (po_zcm:b0 K c_zcm=true)
  (sa_zcm:ae K (.ref c_zcm) "__setattr__" = some (some (.builtin "object.__setattr__")))
  (in_zcl:ae K (.ref c_zcl) "__init__" = some (some (.ref f_zae)))
  (kp_zcl:aq K (.ref c_zcl)=true)
  (mk_zcl:aS K c_zcl=true)
  (pg_zcl:bP K c_zcl ck=true)
  (hd_zcl:bQ K c_zcl=true)
  (po_zcl:b0 K c_zcl=true)
  (sa_zcl:ae K (.ref c_zcl) "__setattr__" = some (some (.builtin "object.__setattr__")))
  (in_zct:ae K (.ref c_zct) "__init__" = some (some (.ref f_zbd)))
  (kp_zct:aq K (.ref c_zct)=true)
  (mk_zct:aS K c_zct=true)
  (pg_zct:bP K c_zct ck=true)
  (hd_zct:bQ K c_zct=true)
  (po_zct:b0 K c_zct=true)
  (sa_zct:ae K (.ref c_zct) "__setattr__" = some (some (.builtin "object.__setattr__")))
  (in_zcs:ae K (.ref c_zcs) "__init__" = some (some (.ref f_zl)))
  (kp_zcs:aq K (.ref c_zcs)=true)
  (mk_zcs:aS K c_zcs=true)
  (pg_zcs:bP K c_zcs ck=true)
  (hd_zcs:bQ K c_zcs=true)
  (po_zcs:b0 K c_zcs=true)
  (sa_zcs:ae K (.ref c_zcs) "__setattr__" = some (some (.builtin "object.__setattr__")))
  (in_zco:ae K (.ref c_zco) "__init__" = some (some (.ref f_zao)))
  (kp_zco:aq K (.ref c_zco)=true)
  (mk_zco:aS K c_zco=true)
  (pg_zco:bP K c_zco ck=true)
  (hd_zco:bQ K c_zco=true)
  (po_zco:b0 K c_zco=true)
  (sa_zco:ae K (.ref c_zco) "__setattr__" = some (some (.builtin "object.__setattr__")))
  (in_zcr:ae K (.ref c_zcr) "__init__" = some (some (.ref f_zau)))
  (kp_zcr:aq K (.ref c_zcr)=true)
  (mk_zcr:aS K c_zcr=true)
  (pg_zcr:bP K c_zcr ck=true)
  (hd_zcr:bQ K c_zcr=true)
  (po_zcr:b0 K c_zcr=true)
  (sa_zcr:ae K (.ref c_zcr) "__setattr__" = some (some (.builtin "object.__setattr__")))
  (a_Edit:aK K aG "Edit" = some (some (.ref c_Edit)))
  (a_PartEdit:aK K aG "PartEdit" = some (some (.ref c_PartEdit)))
  (sg_PartEdit:b6 K (.ref c_PartEdit) "__getattribute__" = some (some (.builtin "type.__getattribute__")))
  (sr_PartEdit:PySem.W.readsIn K c_PartEdit (.type "type")=true)
  (sf_PartEdit:PySem.W.findCls K (.ref c_PartEdit) (.type "type") "__init__" = some (.val (.ref f_zl)))
  (mt_zat:ae K (.ref c_zct) "about" = some (some (.ref f_zat)))
  (mt_Cut_about:ae K (.ref c_zcs) "about" = some (some (.ref f_zh)))
  (mt_Move_about:ae K (.ref c_zco) "about" = some (some (.ref f_zh)))
  (mt_Wrap_about:ae K (.ref c_zcr) "about" = some (some (.ref f_zh)))
  (mt_za:ae K (.ref c_zcl) "all_unders" = some (some (.ref f_za)))
  (mt_zm:ae K (.ref c_zcl) "beneath" = some (some (.ref f_zm)))
  (mt_zag:ae K (.ref c_zct) "change" = some (some (.ref f_zag)))
  (mt_zab:ae K (.ref c_zcs) "change" = some (some (.ref f_zab)))
  (mt_zu:ae K (.ref c_zco) "change" = some (some (.ref f_zu)))
  (mt_zx:ae K (.ref c_zcr) "change" = some (some (.ref f_zx)))
  (mt_zb:ae K (.ref c_zcl) "content_of" = some (some (.ref f_zb)))
  (mt_zad:ae K (.ref c_zcl) "drop" = some (some (.ref f_zad)))
  (mt_Chapter_fits:ae K (.ref c_zci) "fits" = some (some (.ref f_zan)))
  (mt_Para_fits:ae K (.ref c_zcp) "fits" = some (some (.ref f_zan)))
  (mt_zah:ae K (.ref c_zcm) "fits" = some (some (.ref f_zah)))
  (mt_zar:ae K (.ref c_zcl) "has" = some (some (.ref f_zar)))
  (mt_zj:ae K (.ref c_zci) "holds" = some (some (.ref f_zj)))
  (mt_Para_holds:ae K (.ref c_zcp) "holds" = some (some (.ref f_zac)))
  (mt_Table_holds:ae K (.ref c_zcm) "holds" = some (some (.ref f_zac)))
  (mt_zn:ae K (.ref c_zcl) "kind_of" = some (some (.ref f_zn)))
  (mt_zas:ae K (.ref c_zcl) "lay" = some (some (.ref f_zas)))
  (mt_zbe:ae K (.ref c_zct) "made" = some (some (.ref f_zbe)))
  (mt_Cut_made:ae K (.ref c_zcs) "made" = some (some (.ref f_zal)))
  (mt_Move_made:ae K (.ref c_zco) "made" = some (some (.ref f_zal)))
  (mt_zav:ae K (.ref c_zcr) "made" = some (some (.ref f_zav)))
  (mt_zv:ae K (.ref c_zcl) "names" = some (some (.ref f_zv)))
  (mt_Put_need:ae K (.ref c_zct) "need" = some (some (.ref f_zam)))
  (mt_Cut_need:ae K (.ref c_zcs) "need" = some (some (.ref f_zam)))
  (mt_Move_need:ae K (.ref c_zco) "need" = some (some (.ref f_zam)))
  (mt_Wrap_need:ae K (.ref c_zcr) "need" = some (some (.ref f_zam)))
  (mt_zc:ae K (.ref c_zcl) "need_place" = some (some (.ref f_zc)))
  (mt_zp:ae K (.ref c_zct) "need_rest" = some (some (.ref f_zp)))
  (mt_zk:ae K (.ref c_zcs) "need_rest" = some (some (.ref f_zk)))
  (mt_zg:ae K (.ref c_zco) "need_rest" = some (some (.ref f_zg)))
  (mt_zi:ae K (.ref c_zcr) "need_rest" = some (some (.ref f_zi)))
  (mt_Put_on:ae K (.ref c_zct) "on" = some (some (.ref f_zbp)))
  (mt_Cut_on:ae K (.ref c_zcs) "on" = some (some (.ref f_zbp)))
  (mt_Move_on:ae K (.ref c_zco) "on" = some (some (.ref f_zbp)))
  (mt_Wrap_on:ae K (.ref c_zcr) "on" = some (some (.ref f_zbp)))
  (mt_zd:ae K (.ref c_zcl) "parent_of" = some (some (.ref f_zd)))
  (mt_zo:ae K (.ref c_zcl) "rank_of" = some (some (.ref f_zo)))
  (mt_zw:ae K (.ref c_zcl) "state" = some (some (.ref f_zw)))
  (mt_zbf:ae K (.ref c_zct) "told" = some (some (.ref f_zbf)))
  (mt_zbc:ae K (.ref c_zcs) "told" = some (some (.ref f_zbc)))
  (mt_zap:ae K (.ref c_zco) "told" = some (some (.ref f_zap)))
  (mt_zaw:ae K (.ref c_zcr) "told" = some (some (.ref f_zaw)))
  (mt_zaf:ae K (.ref c_zcl) "walk" = some (some (.ref f_zaf)))
  (mt_zq:ae K (.ref c_zci) "word" = some (some (.ref f_zq)))
  (mt_zaq:ae K (.ref c_zcp) "word" = some (some (.ref f_zaq)))
  (mt_zai:ae K (.ref c_zcm) "word" = some (some (.ref f_zai)))
  (mt_ze:ae K (.ref c_zcl) "place_key" = some (some (.ref f_ze)))
  (ks_ze:b6 K (.ref f_ze) "__get__" = some (some (.builtin "function.__get__")))
  (kt_ze:cO K (.ref f_ze)=some false)
  (q_zae:MetD K "__init__" "Plain.__init__" Jv f_zae)
  (q_zal:MetD K "made" "Edit.made" J2 f_zal)
  (q_zat:MetD K "about" "Put.about" J9 f_zat)
  (q_zbe:MetD K "made" "Put.made" Kk f_zbe)
  (q_zbf:MetD K "told" "Put.told" Kl f_zbf)
  (q_zh:MetD K "about" "PartEdit.about" Sy f_zh)
  (q_zbc:MetD K "told" "Cut.told" Ki f_zbc)
  (q_zap:MetD K "told" "Move.told" J5 f_zap)
  (q_zav:MetD K "made" "Wrap.made" Kb f_zav)
  (q_zaw:MetD K "told" "Wrap.told" Kc f_zaw)
  (q_zbh:TopD K "_law_cell" Kn f_zbh)
  (q_zbm:TopD K "_law_name" Ks f_zbm)
  (q_zak:TopD K "_law_stream" J1 f_zak)
  (q_zbi:TopD K "_law_deed" Ko f_zbi)
  (q_zaj:TopD K "has_length" J0 f_zaj)
  (q_zay:TopD K "is_letter" Ke f_zay)
  (q_zax:TopD K "is_figure" Kd f_zax)
  (q_zr:TopD K "is_name_sign" Th f_zr)
  (q_zbq:TopD K "is_name" Kv f_zbq)
  (q_zbg:TopD K "is_whole" Km f_zbg)
  (q_zbr:TopD K "is_rank" Kw f_zbr)
  (q_zs:TopD K "is_text_sign" Ti f_zs)
  (q_zbs:TopD K "is_text" Kx f_zbs)
  (q_zan:MetD K "fits" "Kind.fits" J3 f_zan)
  (q_zy:TopD K "is_tuple_of" To f_zy)
  (q_zbu:TopD K "is_row" Kz f_zbu)
  (q_zah:MetD K "fits" "Table.fits" Jy f_zah)
  (q_zq:MetD K "word" "Chapter.word" Tg f_zq)
  (q_zaq:MetD K "word" "Para.word" J6 f_zaq)
  (q_zai:MetD K "word" "Table.word" Jz f_zai)
  (q_zt:TopD K "kind_of_word" Tj f_zt)
  (q_zbt:TopD K "insist" Ky f_zbt)
  (q_zaz:TopD K "is_parent" Kf f_zaz)
  (q_zbd:MetD K "__init__" "Put.__init__" Kj f_zbd)
  (q_zl:MetD K "__init__" "PartEdit.__init__" Ta f_zl)
  (q_zao:MetD K "__init__" "Move.__init__" J4 f_zao)
  (q_zau:MetD K "__init__" "Wrap.__init__" Ka f_zau)
  (q_zbl:TopD K "_law_made" Kr f_zbl)
  (q_zba:TopD K "_law_about" Kg f_zba)
  (q_zbb:TopD K "_law_makes" Kh f_zbb)
  (q_zbk:TopD K "_law_line" Kq f_zbk)
  (q_zz:TopD K "_law_refusal" Tp f_zz)
  (q_zbj:TopD K "_law_done" Kp f_zbj)
  (l_zf:K.lookup f_zf=some ⟨oc_zf,od_zf,.func (bB "__init__" "EditError.__init__" (A7 G5) (Ag G5) (Aa G5) (.ref Td_zf) kV_zf dc_zf pm_zf an_zf cd_zf ct_zf),sl_zf⟩)
  (c_zf:ci K cd_zf "EditError.__init__" = true)
  (k_zf:aq K (.ref f_zf)=true)
  (if_zf:bV K (.ref f_zf)=true)
  (ld_zf:K.lookup Td_zf=some ⟨tc_zf,td_zf,.seq #[.none] tn_zf,ts_zf⟩)
  (q_zar:MetD K "has" "Plain.has" J7 f_zar)
  (q_zbo:TopD K "need_new" Ku f_zbo)
  (q_zac:MetD K "holds" "Kind.holds" Jt f_zac)
  (q_zj:MetD K "holds" "Chapter.holds" S0 f_zj)
  (q_zw:MetD K "state" "Plain.state" Tm f_zw)
  (q_zn:MetD K "kind_of" "Plain.kind_of" Td f_zn)
  (q_zaa:TopD K "need_holder" Jr f_zaa)
  (q_zp:MetD K "need_rest" "Put.need_rest" Tf f_zp)
  (q_zk:MetD K "need_rest" "Cut.need_rest" S8 f_zk)
  (q_zd:MetD K "parent_of" "Plain.parent_of" Sv f_zd)
  (q_zbw:TopD K "way_up" K1 f_zbw)
  (q_zg:MetD K "need_rest" "Move.need_rest" Sx f_zg)
  (q_zi:MetD K "need_rest" "Wrap.need_rest" Sz f_zi)
  (l_zam:K.lookup f_zam=some ⟨oc_zam,od_zam,.func (bB "need" "Edit.need" (A7 Dr) (Ag Dr) (Aa Dr) (.ref Td_zam) kV_zam dc_zam pm_zam an_zam cd_zam ct_zam),sl_zam⟩)
  (c_zam:ci K cd_zam "Edit.need" = true)
  (k_zam:aq K (.ref f_zam)=true)
  (if_zam:bV K (.ref f_zam)=true)
  (ld_zam:K.lookup Td_zam=some ⟨tc_zam,td_zam,.seq #[.none] tn_zam,ts_zam⟩)
  (q_zas:MetD K "lay" "Plain.lay" J8 f_zas)
  (q_zag:MetD K "change" "Put.change" Jx f_zag)
  (q_zc:MetD K "need_place" "Plain.need_place" Su f_zc)
  (q_zo:MetD K "rank_of" "Plain.rank_of" Te f_zo)
  (q_ze:MetD K "place_key" "Plain.place_key" Sw f_ze)
  (q_za:MetD K "all_unders" "Plain.all_unders" Sr f_za)
  (q_zaf:MetD K "walk" "Plain.walk" Jw f_zaf)
  (q_zm:MetD K "beneath" "Plain.beneath" Tc f_zm)
  (q_zad:MetD K "drop" "Plain.drop" Ju f_zad)
  (q_zab:MetD K "change" "Cut.change" Js f_zab)
  (q_zb:MetD K "content_of" "Plain.content_of" Ss f_zb)
  (q_zbx:TopD K "place" K2 f_zbx)
  (q_zu:MetD K "change" "Move.change" Tk f_zu)
  (q_zx:MetD K "change" "Wrap.change" Tn f_zx)
  (l_zbp:K.lookup f_zbp=some ⟨oc_zbp,od_zbp,.func (bB "on" "Edit.on" (A7 Ds) (Ag Ds) (Aa Ds) (.ref Td_zbp) kV_zbp dc_zbp pm_zbp an_zbp cd_zbp ct_zbp),sl_zbp⟩)
  (c_zbp:ci K cd_zbp "Edit.on" = true)
  (k_zbp:aq K (.ref f_zbp)=true)
  (if_zbp:bV K (.ref f_zbp)=true)
  (ld_zbp:K.lookup Td_zbp=some ⟨tc_zbp,td_zbp,.seq #[.none] tn_zbp,ts_zbp⟩)
  (q_zbn:TopD K "_law_told" Kt f_zbn)
  (q_zv:MetD K "names" "Plain.names" Tl f_zv)
  (q_zbv:TopD K "_law_so" K0 f_zbv)
  (a_zby:aK K aG "law" = some (some (.ref f_zby)))
  (l_zby:K.lookup f_zby=some ⟨oc_zby,od_zby,.func (bB "law" "law" (A7 Du) (Ag Du) (Aa Du) .none kV_zby dc_zby pm_zby an_zby cd_zby ct_zby),sl_zby⟩)
  (c_zby:ci K cd_zby "law" = true)
  (k_zby:aq K (.ref f_zby)=true)
  (x_zce:XC K c_zce (valTail))
  (x_zch:XC K c_zch (.ref c_zce::valTail))
  (x_zcd:XC K c_zcd (.ref c_zce::valTail))
  (x_zck:XC K c_zck (.ref c_zcd::.ref c_zce::valTail))
  (x_zcj:XC K c_zcj (.ref c_zcd::.ref c_zce::valTail))
  (x_zcn:XC K c_zcn (.ref c_zcd::.ref c_zce::valTail))
  (x_zcq:XC K c_zcq (.ref c_zcd::.ref c_zce::valTail))
  (x_zcg:XC K c_zcg (.ref c_zcd::.ref c_zce::valTail))
  (v_zbz:aK K aG "GREATEST_RANK" = some (some u_zbz))
  (r_zbz:RelV (.int 1000000000) u_zbz)
  (v_zca:aK K aG "LONGEST_TEXT" = some (some u_zca))
  (r_zca:RelV (.int 60) u_zca)
  (v_zcb:aK K aG "PERCENT_SIGN" = some (some u_zcb))
  (r_zcb:RelV (.int 37) u_zcb)
  (v_zcf:aK K aG "MOST_ROWS" = some (some u_zcf))
  (r_zcf:RelV (.int 6) u_zcf)
  (v_zcc:aK K aG "MOST_CELLS" = some (some u_zcc))
  (r_zcc:RelV (.int 6) u_zcc)
  (v_zcu:aK K aG "TOP" = some (some u_zcu))
  (r_zcu:RelV (.str "") u_zcu)
  (z_all:aK K aG "all" = some none)
  (z_bool:aK K aG "bool" = some none)
  (z_int:aK K aG "int" = some none)
  (z_isinstance:aK K aG "isinstance" = some none)
  (z_len:aK K aG "len" = some none)
  (z_ord:aK K aG "ord" = some none)
  (z_range:aK K aG "range" = some none)
  (z_reversed:aK K aG "reversed" = some none)
  (z_sorted:aK K aG "sorted" = some none)
  (z_str:aK K aG "str" = some none)
  (z_tuple:aK K aG "tuple" = some none)
  (na_zcl:ae K (.ref c_zcl) "records" = some none)
  (ca_zct:ae K (.ref c_zct) "__class__" = some (some (.builtin "object.__class__")))
  (mo_zct:bb K c_zct (.type "object")=some true)
  (me_zct:bb K c_zct (.ref c_Edit)=some true)
  (na_Put_part:ae K (.ref c_zct) "part" = some none)
  (na_Put_name:ae K (.ref c_zct) "name" = some none)
  (na_Put_kind:ae K (.ref c_zct) "kind" = some none)
  (na_Put_parent:ae K (.ref c_zct) "parent" = some none)
  (na_Put_rank:ae K (.ref c_zct) "rank" = some none)
  (na_Put_content:ae K (.ref c_zct) "content" = some none)
  (na_Put_text:ae K (.ref c_zct) "text" = some none)
  (ca_zcs:ae K (.ref c_zcs) "__class__" = some (some (.builtin "object.__class__")))
  (mo_zcs:bb K c_zcs (.type "object")=some true)
  (me_zcs:bb K c_zcs (.ref c_Edit)=some true)
  (na_Cut_part:ae K (.ref c_zcs) "part" = some none)
  (na_Cut_name:ae K (.ref c_zcs) "name" = some none)
  (na_Cut_kind:ae K (.ref c_zcs) "kind" = some none)
  (na_Cut_parent:ae K (.ref c_zcs) "parent" = some none)
  (na_Cut_rank:ae K (.ref c_zcs) "rank" = some none)
  (na_Cut_content:ae K (.ref c_zcs) "content" = some none)
  (na_Cut_text:ae K (.ref c_zcs) "text" = some none)
  (ca_zco:ae K (.ref c_zco) "__class__" = some (some (.builtin "object.__class__")))
  (mo_zco:bb K c_zco (.type "object")=some true)
  (me_zco:bb K c_zco (.ref c_Edit)=some true)
  (na_Move_part:ae K (.ref c_zco) "part" = some none)
  (na_Move_name:ae K (.ref c_zco) "name" = some none)
  (na_Move_kind:ae K (.ref c_zco) "kind" = some none)
  (na_Move_parent:ae K (.ref c_zco) "parent" = some none)
  (na_Move_rank:ae K (.ref c_zco) "rank" = some none)
  (na_Move_content:ae K (.ref c_zco) "content" = some none)
  (na_Move_text:ae K (.ref c_zco) "text" = some none)
  (ca_zcr:ae K (.ref c_zcr) "__class__" = some (some (.builtin "object.__class__")))
  (mo_zcr:bb K c_zcr (.type "object")=some true)
  (me_zcr:bb K c_zcr (.ref c_Edit)=some true)
  (na_Wrap_part:ae K (.ref c_zcr) "part" = some none)
  (na_Wrap_name:ae K (.ref c_zcr) "name" = some none)
  (na_Wrap_kind:ae K (.ref c_zcr) "kind" = some none)
  (na_Wrap_parent:ae K (.ref c_zcr) "parent" = some none)
  (na_Wrap_rank:ae K (.ref c_zcr) "rank" = some none)
  (na_Wrap_content:ae K (.ref c_zcr) "content" = some none)
  (na_Wrap_text:ae K (.ref c_zcr) "text" = some none)
  (hn:b6 K (.builtin "object.__class__") "__get__" = some (some (.builtin "getset_descriptor.__get__")))
  (htk:cO K (.builtin "object.__class__")=some true)
  (ty_Edit:iM K (.ref c_Edit)=some (.type "type"))
  (mr_Edit:bb K c_Edit (.ref c_Edit)=some true)
  (nb_NoPart_part:ae K (.ref c_zck) "part" = some none)
  (nb_NoPart_choice:ae K (.ref c_zck) "choice" = some none)
  (mb_zck:bb K c_zck (.ref c_zcd)=some true)
  (nb_Doubled_part:ae K (.ref c_zcj) "part" = some none)
  (nb_Doubled_choice:ae K (.ref c_zcj) "choice" = some none)
  (mb_zcj:bb K c_zcj (.ref c_zcd)=some true)
  (nb_Lost_part:ae K (.ref c_zcn) "part" = some none)
  (nb_Lost_choice:ae K (.ref c_zcn) "choice" = some none)
  (mb_zcn:bb K c_zcn (.ref c_zcd)=some true)
  (nb_Ring_part:ae K (.ref c_zcq) "part" = some none)
  (nb_Ring_choice:ae K (.ref c_zcq) "choice" = some none)
  (mb_zcq:bb K c_zcq (.ref c_zcd)=some true)
  (nb_NoHolder_part:ae K (.ref c_zcg) "part" = some none)
  (nb_NoHolder_choice:ae K (.ref c_zcg) "choice" = some none)
  (mb_zcg:bb K c_zcg (.ref c_zcd)=some true)
  (nd:[c_zce,c_zcd,c_zck,c_zcj,c_zcn,c_zcq,c_zcg].Nodup)
  : ∃ (t:Adr) (fd:ai),(∀ (s:ah) (v:Value),jK s fd ⟨[v],[]⟩ [("_law_script", v)]) /\ ∀ base:Heap,K.In base->base.Ns aG mg->FnOk l.prog w K mg base CX0 15 fa fd ["_law_script"] (Ob K t):=by
 obtain⟨d_zae,g_zae⟩:=q_zae.ok (ps:=Op) fun _ _ _ _ _ _ us hl=>Bu (fun _=>rfl) us hl
 obtain⟨d_zal,g_zal⟩:=q_zal.ok (ps:=Ox) fun _ _ _ _ _ _ us hl=>Bu (fun _=>rfl) us hl
 obtain⟨d_zat,g_zat⟩:=q_zat.ok (ps:=O5) fun _ _ _ _ _ _ us hl=>Bu (fun _=>rfl) us hl
 obtain⟨d_zbe,g_zbe⟩:=q_zbe.ok (ps:=Pg) fun _ _ _ _ _ _ us hl=>Bu (fun _=>rfl) us hl
 obtain⟨d_zbf,g_zbf⟩:=q_zbf.ok (ps:=Ph) fun _ _ _ _ _ _ us hl=>Bu (fun _=>rfl) us hl
 obtain⟨d_zh,g_zh⟩:=q_zh.ok (ps:=Zk) fun _ _ _ _ _ _ us hl=>Bu (fun _=>rfl) us hl
 obtain⟨d_zbc,g_zbc⟩:=q_zbc.ok (ps:=Pe) fun _ _ _ _ _ _ us hl=>Bu (fun _=>rfl) us hl
 obtain⟨d_zap,g_zap⟩:=q_zap.ok (ps:=O1) fun _ _ _ _ _ _ us hl=>Bu (fun _=>rfl) us hl
 obtain⟨d_zav,g_zav⟩:=q_zav.ok (ps:=O7) fun _ _ _ _ _ _ us hl=>Bu (fun _=>rfl) us hl
 obtain⟨d_zaw,g_zaw⟩:=q_zaw.ok (ps:=O8) fun _ _ _ _ _ _ us hl=>Bu (fun _=>rfl) us hl
 obtain⟨d_zbh,g_zbh⟩:=q_zbh.ok X G (ps:=Pj) fun _ _ _ _ _ _ us hl=>B7 (fun _ _=>rfl) us hl
 obtain⟨d_zbm,g_zbm⟩:=q_zbm.ok X G (ps:=Po) fun _ _ _ _ _ _ us hl=>B7 (fun _ _=>rfl) us hl
 obtain⟨d_zak,g_zak⟩:=q_zak.ok X G (ps:=Ow) fun _ _ _ _ _ _ us hl=>B7 (fun _ _=>rfl) us hl
 obtain⟨d_zbi,g_zbi⟩:=q_zbi.ok X G (ps:=Pk) fun _ _ _ _ _ _ us hl=>B7 (fun _ _=>rfl) us hl
 obtain⟨d_zaj,g_zaj⟩:=q_zaj.ok X G (ps:=Ov) fun _ _ _ _ _ _ us hl=>Jb (fun _ _ _=>rfl) us hl
 obtain⟨d_zay,g_zay⟩:=q_zay.ok X G (ps:=Pa) fun _ _ _ _ _ _ us hl=>Bu (fun _=>rfl) us hl
 obtain⟨d_zax,g_zax⟩:=q_zax.ok X G (ps:=O9) fun _ _ _ _ _ _ us hl=>Bu (fun _=>rfl) us hl
 obtain⟨d_zr,g_zr⟩:=q_zr.ok X G (ps:=Zu) fun _ _ _ _ _ _ us hl=>Bu (fun _=>rfl) us hl
 obtain⟨d_zbq,g_zbq⟩:=q_zbq.ok X G (ps:=Pt) fun _ _ _ _ _ _ us hl=>Bu (fun _=>rfl) us hl
 obtain⟨d_zbg,g_zbg⟩:=q_zbg.ok X G (ps:=Pi) fun _ _ _ _ _ _ us hl=>Bu (fun _=>rfl) us hl
 obtain⟨d_zbr,g_zbr⟩:=q_zbr.ok X G (ps:=Pu) fun _ _ _ _ _ _ us hl=>Bu (fun _=>rfl) us hl
 obtain⟨d_zs,g_zs⟩:=q_zs.ok X G (ps:=Zv) fun _ _ _ _ _ _ us hl=>Bu (fun _=>rfl) us hl
 obtain⟨d_zbs,g_zbs⟩:=q_zbs.ok X G (ps:=Pw) fun _ _ _ _ _ _ us hl=>Bu (fun _=>rfl) us hl
 obtain⟨d_zan,g_zan⟩:=q_zan.ok (ps:=Oz) fun _ _ _ _ _ _ us hl=>B7 (fun _ _=>rfl) us hl
 obtain⟨d_zy,g_zy⟩:=q_zy.ok X G (ps:=Z3) fun _ _ _ _ _ _ us hl=>B7 (fun _ _=>rfl) us hl
 obtain⟨d_zbu,g_zbu⟩:=q_zbu.ok X G (ps:=Py) fun _ _ _ _ _ _ us hl=>Bu (fun _=>rfl) us hl
 obtain⟨d_zah,g_zah⟩:=q_zah.ok (ps:=Ot) fun _ _ _ _ _ _ us hl=>B7 (fun _ _=>rfl) us hl
 obtain⟨d_zq,g_zq⟩:=q_zq.ok (ps:=Zt) fun _ _ _ _ _ _ us hl=>Bu (fun _=>rfl) us hl
 obtain⟨d_zaq,g_zaq⟩:=q_zaq.ok (ps:=O2) fun _ _ _ _ _ _ us hl=>Bu (fun _=>rfl) us hl
 obtain⟨d_zai,g_zai⟩:=q_zai.ok (ps:=Ou) fun _ _ _ _ _ _ us hl=>Bu (fun _=>rfl) us hl
 obtain⟨d_zt,g_zt⟩:=q_zt.ok X G (ps:=Zw) fun _ _ _ _ _ _ us hl=>Bu (fun _=>rfl) us hl
 obtain⟨d_zbt,g_zbt⟩:=q_zbt.ok X G (ps:=Px) fun _ _ _ _ _ _ us hl=>Bu (fun _=>rfl) us hl
 obtain⟨d_zaz,g_zaz⟩:=q_zaz.ok X G (ps:=Pb) fun _ _ _ _ _ _ us hl=>Bu (fun _=>rfl) us hl
 obtain⟨d_zbd,g_zbd⟩:=q_zbd.ok (ps:=Pf) fun _ _ _ _ _ _ us hl=>b83 (fun _ _ _ _ _ _=>rfl) us hl
 obtain⟨d_zl,g_zl⟩:=q_zl.ok (ps:=Zo) fun _ _ _ _ _ _ us hl=>B7 (fun _ _=>rfl) us hl
 obtain⟨d_zao,g_zao⟩:=q_zao.ok (ps:=O0) fun _ _ _ _ _ _ us hl=>bc5 (fun _ _ _ _=>rfl) us hl
 obtain⟨d_zau,g_zau⟩:=q_zau.ok (ps:=O6) fun _ _ _ _ _ _ us hl=>bc5 (fun _ _ _ _=>rfl) us hl
 obtain⟨d_zbl,g_zbl⟩:=q_zbl.ok X G (ps:=Pn) fun _ _ _ _ _ _ us hl=>Bu (fun _=>rfl) us hl
 obtain⟨d_zba,g_zba⟩:=q_zba.ok X G (ps:=Pc) fun _ _ _ _ _ _ us hl=>Bu (fun _=>rfl) us hl
 obtain⟨d_zbb,g_zbb⟩:=q_zbb.ok X G (ps:=Pd) fun _ _ _ _ _ _ us hl=>Bu (fun _=>rfl) us hl
 obtain⟨d_zbk,g_zbk⟩:=q_zbk.ok X G (ps:=Pm) fun _ _ _ _ _ _ us hl=>B7 (fun _ _=>rfl) us hl
 obtain⟨d_zz,g_zz⟩:=q_zz.ok X G (ps:=Z4) fun _ _ _ _ _ _ us hl=>B7 (fun _ _=>rfl) us hl
 obtain⟨d_zbj,g_zbj⟩:=q_zbj.ok X G (ps:=Pl) fun _ _ _ _ _ _ us hl=>B7 (fun _ _=>rfl) us hl
 have F_zf:=M5 (st:=G5) l_zf c_zf k_zf
 have b_zf:∀ j,j<=1->Binds K (bB "__init__" "EditError.__init__" (A7 G5) (Ag G5) (Aa G5) (.ref Td_zf) kV_zf dc_zf pm_zf an_zf cd_zf ct_zf) Zi ([ba].drop j):=fun j hj=>by
  match j,hj with
  | 0,_=>exact Ca 2 rfl ld_zf rfl rfl (fun us hl=>B7 (fun _ _=>⟨_,rfl,rfl⟩) us hl)
  | 1,_=>exact Ca 3 rfl ld_zf rfl rfl (fun us hl=>Jb (fun _ _ _=>⟨_,rfl,rfl⟩) us hl)
 obtain⟨d_zar,g_zar⟩:=q_zar.ok (ps:=O3) fun _ _ _ _ _ _ us hl=>B7 (fun _ _=>rfl) us hl
 obtain⟨d_zbo,g_zbo⟩:=q_zbo.ok X G (ps:=Pq) fun _ _ _ _ _ _ us hl=>Jb (fun _ _ _=>rfl) us hl
 obtain⟨d_zac,g_zac⟩:=q_zac.ok (ps:=On) fun _ _ _ _ _ _ us hl=>Bu (fun _=>rfl) us hl
 obtain⟨d_zj,g_zj⟩:=q_zj.ok (ps:=Zm) fun _ _ _ _ _ _ us hl=>Bu (fun _=>rfl) us hl
 obtain⟨d_zw,g_zw⟩:=q_zw.ok (ps:=Zz) fun _ _ _ _ _ _ us hl=>B7 (fun _ _=>rfl) us hl
 obtain⟨d_zn,g_zn⟩:=q_zn.ok (ps:=Zq) fun _ _ _ _ _ _ us hl=>B7 (fun _ _=>rfl) us hl
 obtain⟨d_zaa,g_zaa⟩:=q_zaa.ok X G (ps:=Ol) fun _ _ _ _ _ _ us hl=>Jb (fun _ _ _=>rfl) us hl
 obtain⟨d_zp,g_zp⟩:=q_zp.ok (ps:=Zs) fun _ _ _ _ _ _ us hl=>Jb (fun _ _ _=>rfl) us hl
 obtain⟨d_zk,g_zk⟩:=q_zk.ok (ps:=Zn) fun _ _ _ _ _ _ us hl=>Jb (fun _ _ _=>rfl) us hl
 obtain⟨d_zd,g_zd⟩:=q_zd.ok (ps:=Zg) fun _ _ _ _ _ _ us hl=>B7 (fun _ _=>rfl) us hl
 obtain⟨d_zbw,g_zbw⟩:=q_zbw.ok X G (ps:=P0) fun _ _ _ _ _ _ us hl=>B7 (fun _ _=>rfl) us hl
 obtain⟨d_zg,g_zg⟩:=q_zg.ok (ps:=Zj) fun _ _ _ _ _ _ us hl=>Jb (fun _ _ _=>rfl) us hl
 obtain⟨d_zi,g_zi⟩:=q_zi.ok (ps:=Zl) fun _ _ _ _ _ _ us hl=>Jb (fun _ _ _=>rfl) us hl
 have F_zam:=M5 (st:=Dr) l_zam c_zam k_zam
 have b_zam:∀ j,j<=1->Binds K (bB "need" "Edit.need" (A7 Dr) (Ag Dr) (Aa Dr) (.ref Td_zam) kV_zam dc_zam pm_zam an_zam cd_zam ct_zam) Oy ([ba].drop j):=fun j hj=>by
  match j,hj with
  | 0,_=>exact Ca 2 rfl ld_zam rfl rfl (fun us hl=>B7 (fun _ _=>⟨_,rfl,rfl⟩) us hl)
  | 1,_=>exact Ca 3 rfl ld_zam rfl rfl (fun us hl=>Jb (fun _ _ _=>⟨_,rfl,rfl⟩) us hl)
 obtain⟨d_zas,g_zas⟩:=q_zas.ok (ps:=O4) fun _ _ _ _ _ _ us hl=>b83 (fun _ _ _ _ _ _=>rfl) us hl
 obtain⟨d_zag,g_zag⟩:=q_zag.ok (ps:=Os) fun _ _ _ _ _ _ us hl=>B7 (fun _ _=>rfl) us hl
 obtain⟨d_zc,g_zc⟩:=q_zc.ok (ps:=Zf) fun _ _ _ _ _ _ us hl=>B7 (fun _ _=>rfl) us hl
 obtain⟨d_zo,g_zo⟩:=q_zo.ok (ps:=Zr) fun _ _ _ _ _ _ us hl=>B7 (fun _ _=>rfl) us hl
 obtain⟨d_ze,g_ze⟩:=q_ze.ok (ps:=Zh) fun _ _ _ _ _ _ us hl=>B7 (fun _ _=>rfl) us hl
 obtain⟨d_za,g_za⟩:=q_za.ok (ps:=Zd) fun _ _ _ _ _ _ us hl=>Bu (fun _=>rfl) us hl
 obtain⟨d_zaf,g_zaf⟩:=q_zaf.ok (ps:=Oq) fun _ _ _ _ _ _ us hl=>B7 (fun _ _=>rfl) us hl
 obtain⟨d_zm,g_zm⟩:=q_zm.ok (ps:=Zp) fun _ _ _ _ _ _ us hl=>B7 (fun _ _=>rfl) us hl
 obtain⟨d_zad,g_zad⟩:=q_zad.ok (ps:=Oo) fun _ _ _ _ _ _ us hl=>B7 (fun _ _=>rfl) us hl
 obtain⟨d_zab,g_zab⟩:=q_zab.ok (ps:=Om) fun _ _ _ _ _ _ us hl=>B7 (fun _ _=>rfl) us hl
 obtain⟨d_zb,g_zb⟩:=q_zb.ok (ps:=Ze) fun _ _ _ _ _ _ us hl=>B7 (fun _ _=>rfl) us hl
 obtain⟨d_zbx,g_zbx⟩:=q_zbx.ok X G (ps:=P1) fun _ _ _ _ _ _ us hl=>bc5 (fun _ _ _ _=>rfl) us hl
 obtain⟨d_zu,g_zu⟩:=q_zu.ok (ps:=Zx) fun _ _ _ _ _ _ us hl=>B7 (fun _ _=>rfl) us hl
 obtain⟨d_zx,g_zx⟩:=q_zx.ok (ps:=Z0) fun _ _ _ _ _ _ us hl=>B7 (fun _ _=>rfl) us hl
 have F_zbp:=M5 (st:=Ds) l_zbp c_zbp k_zbp
 have b_zbp:∀ j,j<=1->Binds K (bB "on" "Edit.on" (A7 Ds) (Ag Ds) (Aa Ds) (.ref Td_zbp) kV_zbp dc_zbp pm_zbp an_zbp cd_zbp ct_zbp) Ps ([ba].drop j):=fun j hj=>by
  match j,hj with
  | 0,_=>exact Ca 2 rfl ld_zbp rfl rfl (fun us hl=>B7 (fun _ _=>⟨_,rfl,rfl⟩) us hl)
  | 1,_=>exact Ca 3 rfl ld_zbp rfl rfl (fun us hl=>Jb (fun _ _ _=>⟨_,rfl,rfl⟩) us hl)
 obtain⟨d_zbn,g_zbn⟩:=q_zbn.ok X G (ps:=Pp) fun _ _ _ _ _ _ us hl=>Jb (fun _ _ _=>rfl) us hl
 obtain⟨d_zv,g_zv⟩:=q_zv.ok (ps:=Zy) fun _ _ _ _ _ _ us hl=>Bu (fun _=>rfl) us hl
 obtain⟨d_zbv,g_zbv⟩:=q_zbv.ok X G (ps:=Pz) fun _ _ _ _ _ _ us hl=>B7 (fun _ _=>rfl) us hl
 have F_zby:=Ru (st:=Du) l_zby c_zby k_zby
 have b_zby:=F_zby.binds (ps:=P2) fun _ _ _ _ _ _ us hl=>Bu (fun _=>rfl) us hl
 have m:=aV X G a_zby
 have e:fa=f_zby:=by
  rw [hfa] at m
  injection m with m
  injection m
 subst e
 have tl_1:∀ {a:Addr},A1 (.ref a::valTail)=true:=fun {a}=>by show A1 valTail=true;decide +kernel
 have tl_2:∀ {a b:Addr},A1 (.ref a::.ref b::valTail)=true:=fun {a b}=>by show A1 valTail=true;decide +kernel
 have AO:aw7 K mg ⟨f_zae,d_zae,f_zal,d_zal,f_zat,d_zat,f_zbe,d_zbe,f_zbf,d_zbf,f_zh,d_zh,f_zbc,d_zbc,f_zap,d_zap,f_zav,d_zav,f_zaw,d_zaw,f_zbh,d_zbh,f_zbm,d_zbm,f_zak,d_zak,f_zbi,d_zbi,f_zaj,d_zaj,f_zay,d_zay,f_zax,d_zax,f_zr,d_zr,f_zbq,d_zbq,f_zbg,d_zbg,f_zbr,d_zbr,f_zs,d_zs,f_zbs,d_zbs,f_zan,d_zan,f_zy,d_zy,f_zbu,d_zbu,f_zah,d_zah,f_zq,d_zq,f_zaq,d_zaq,f_zai,d_zai,f_zt,d_zt,f_zbt,d_zbt,f_zaz,d_zaz,f_zbd,d_zbd,f_zl,d_zl,f_zao,d_zao,f_zau,d_zau,f_zbl,d_zbl,f_zba,d_zba,f_zbb,d_zbb,f_zbk,d_zbk,f_zz,d_zz,f_zbj,d_zbj,f_zf,_,f_zar,d_zar,f_zbo,d_zbo,f_zac,d_zac,f_zj,d_zj,f_zw,d_zw,f_zn,d_zn,f_zaa,d_zaa,f_zp,d_zp,f_zk,d_zk,f_zd,d_zd,f_zbw,d_zbw,f_zg,d_zg,f_zi,d_zi,f_zam,_,f_zas,d_zas,f_zag,d_zag,f_zc,d_zc,f_zo,d_zo,f_ze,d_ze,f_za,d_za,f_zaf,d_zaf,f_zm,d_zm,f_zad,d_zad,f_zab,d_zab,f_zb,d_zb,f_zbx,d_zbx,f_zu,d_zu,f_zx,d_zx,f_zbp,_,f_zbn,d_zbn,f_zv,d_zv,f_zbv,d_zbv,fa,_,.ref Td_zf,[ba],.ref Td_zam,[ba],.ref Td_zbp,[ba],c_zce,c_zch,c_zcd,c_zck,c_zcj,c_zcn,c_zcq,c_zcg,c_zci,c_zcp,c_zcm,c_zcl,c_zct,c_zcs,c_zco,c_zcr,c_Edit,c_PartEdit,u_zbz,u_zca,u_zcb,u_zcf,u_zcc,u_zcu⟩:=⟨g_zae,g_zal,g_zat,g_zbe,g_zbf,g_zh,g_zbc,g_zap,g_zav,g_zaw,g_zbh,g_zbm,g_zak,g_zbi,g_zaj,g_zay,g_zax,g_zr,g_zbq,g_zbg,g_zbr,g_zs,g_zbs,g_zan,g_zy,g_zbu,g_zah,g_zq,g_zaq,g_zai,g_zt,g_zbt,g_zaz,g_zbd,g_zl,g_zao,g_zau,g_zbl,g_zba,g_zbb,g_zbk,g_zz,g_zbj,F_zf,b_zf,(.cons rfl .nil),if_zf,g_zar,g_zbo,g_zac,g_zj,g_zw,g_zn,g_zaa,g_zp,g_zk,g_zd,g_zbw,g_zg,g_zi,F_zam,b_zam,(.cons rfl .nil),if_zam,g_zas,g_zag,g_zc,g_zo,g_ze,g_za,g_zaf,g_zm,g_zad,g_zab,g_zb,g_zbx,g_zu,g_zx,F_zbp,b_zbp,(.cons rfl .nil),if_zbp,g_zbn,g_zv,g_zbv,F_zby.toD,(fun j _=>by rw [List.drop_nil];exact b_zby),.nil,aV X G a_zby,aV X G a_zce,kp_zce,x_zce.ecls (by decide +kernel),in_zce,aV X G a_zch,kp_zch,x_zch.ecls tl_1,in_zch,aV X G a_zcd,kp_zcd,x_zcd.ecls tl_1,in_zcd,aV X G a_zck,kp_zck,x_zck.ecls tl_2,in_zck,aV X G a_zcj,kp_zcj,x_zcj.ecls tl_2,in_zcj,aV X G a_zcn,kp_zcn,x_zcn.ecls tl_2,in_zcn,aV X G a_zcq,kp_zcq,x_zcq.ecls tl_2,in_zcq,aV X G a_zcg,kp_zcg,x_zcg.ecls tl_2,in_zcg,aV X G a_zci,kp_zci,mk_zci,in_zci,⟨pg_zci,hd_zci,po_zci,sa_zci⟩,aV X G a_zcp,kp_zcp,mk_zcp,in_zcp,⟨pg_zcp,hd_zcp,po_zcp,sa_zcp⟩,aV X G a_zcm,kp_zcm,mk_zcm,in_zcm,⟨pg_zcm,hd_zcm,po_zcm,sa_zcm⟩,aV X G a_zcl,kp_zcl,mk_zcl,in_zcl,⟨pg_zcl,hd_zcl,po_zcl,sa_zcl⟩,aV X G a_zct,kp_zct,mk_zct,in_zct,⟨pg_zct,hd_zct,po_zct,sa_zct⟩,aV X G a_zcs,kp_zcs,mk_zcs,in_zcs,⟨pg_zcs,hd_zcs,po_zcs,sa_zcs⟩,aV X G a_zco,kp_zco,mk_zco,in_zco,⟨pg_zco,hd_zco,po_zco,sa_zco⟩,aV X G a_zcr,kp_zcr,mk_zcr,in_zcr,⟨pg_zcr,hd_zcr,po_zcr,sa_zcr⟩,aV X G a_Edit,aV X G a_PartEdit,⟨sg_PartEdit,sr_PartEdit,sf_PartEdit,rfl⟩,⟨mt_zat,g_zat.i,g_zat.F.kp⟩,⟨mt_Cut_about,g_zh.i,g_zh.F.kp⟩,⟨mt_Move_about,g_zh.i,g_zh.F.kp⟩,⟨mt_Wrap_about,g_zh.i,g_zh.F.kp⟩,⟨mt_za,g_za.i,g_za.F.kp⟩,⟨mt_zm,g_zm.i,g_zm.F.kp⟩,⟨mt_zag,g_zag.i,g_zag.F.kp⟩,⟨mt_zab,g_zab.i,g_zab.F.kp⟩,⟨mt_zu,g_zu.i,g_zu.F.kp⟩,⟨mt_zx,g_zx.i,g_zx.F.kp⟩,⟨mt_zb,g_zb.i,g_zb.F.kp⟩,⟨mt_zad,g_zad.i,g_zad.F.kp⟩,⟨mt_Chapter_fits,g_zan.i,g_zan.F.kp⟩,⟨mt_Para_fits,g_zan.i,g_zan.F.kp⟩,⟨mt_zah,g_zah.i,g_zah.F.kp⟩,⟨mt_zar,g_zar.i,g_zar.F.kp⟩,⟨mt_zj,g_zj.i,g_zj.F.kp⟩,⟨mt_Para_holds,g_zac.i,g_zac.F.kp⟩,⟨mt_Table_holds,g_zac.i,g_zac.F.kp⟩,⟨mt_zn,g_zn.i,g_zn.F.kp⟩,⟨mt_zas,g_zas.i,g_zas.F.kp⟩,⟨mt_zbe,g_zbe.i,g_zbe.F.kp⟩,⟨mt_Cut_made,g_zal.i,g_zal.F.kp⟩,⟨mt_Move_made,g_zal.i,g_zal.F.kp⟩,⟨mt_zav,g_zav.i,g_zav.F.kp⟩,⟨mt_zv,g_zv.i,g_zv.F.kp⟩,⟨mt_Put_need,if_zam,k_zam⟩,⟨mt_Cut_need,if_zam,k_zam⟩,⟨mt_Move_need,if_zam,k_zam⟩,⟨mt_Wrap_need,if_zam,k_zam⟩,⟨mt_zc,g_zc.i,g_zc.F.kp⟩,⟨mt_zp,g_zp.i,g_zp.F.kp⟩,⟨mt_zk,g_zk.i,g_zk.F.kp⟩,⟨mt_zg,g_zg.i,g_zg.F.kp⟩,⟨mt_zi,g_zi.i,g_zi.F.kp⟩,⟨mt_Put_on,if_zbp,k_zbp⟩,⟨mt_Cut_on,if_zbp,k_zbp⟩,⟨mt_Move_on,if_zbp,k_zbp⟩,⟨mt_Wrap_on,if_zbp,k_zbp⟩,⟨mt_zd,g_zd.i,g_zd.F.kp⟩,⟨mt_zo,g_zo.i,g_zo.F.kp⟩,⟨mt_zw,g_zw.i,g_zw.F.kp⟩,⟨mt_zbf,g_zbf.i,g_zbf.F.kp⟩,⟨mt_zbc,g_zbc.i,g_zbc.F.kp⟩,⟨mt_zap,g_zap.i,g_zap.F.kp⟩,⟨mt_zaw,g_zaw.i,g_zaw.F.kp⟩,⟨mt_zaf,g_zaf.i,g_zaf.F.kp⟩,⟨mt_zq,g_zq.i,g_zq.F.kp⟩,⟨mt_zaq,g_zaq.i,g_zaq.F.kp⟩,⟨mt_zai,g_zai.i,g_zai.F.kp⟩,⟨mt_ze,g_ze.i,g_ze.F.kp⟩,⟨ks_ze,kt_ze⟩,aV X G v_zbz,r_zbz,aV X G v_zca,r_zca,aV X G v_zcb,r_zcb,aV X G v_zcf,r_zcf,aV X G v_zcc,r_zcc,aV X G v_zcu,r_zcu,(fun x hx=>by
   simp only [bl,av,aO,or_false] at hx
   rcases hx with rfl|rfl|rfl|rfl|rfl|rfl|rfl|rfl|rfl|rfl|rfl
   all_goals exact PySem.W.mg_none_of X G (by assumption)),⟨⟨pg_zcl,hd_zcl,po_zcl,sa_zcl⟩,na_zcl,(fun C h=>by
  simp only [av,aO,or_false] at h
  rcases h with rfl|rfl|rfl|rfl
  ·exact⟨⟨pg_zct,hd_zct,po_zct,sa_zct⟩,⟨ca_zct,mo_zct,me_zct⟩,(fun f hf=>by
   simp only [Wr,av,aO,or_false] at hf
   rcases hf with rfl|rfl|rfl|rfl|rfl|rfl|rfl
   ·exact na_Put_part
   ·exact na_Put_name
   ·exact na_Put_kind
   ·exact na_Put_parent
   ·exact na_Put_rank
   ·exact na_Put_content
   ·exact na_Put_text)⟩
  ·exact⟨⟨pg_zcs,hd_zcs,po_zcs,sa_zcs⟩,⟨ca_zcs,mo_zcs,me_zcs⟩,(fun f hf=>by
   simp only [Wr,av,aO,or_false] at hf
   rcases hf with rfl|rfl|rfl|rfl|rfl|rfl|rfl
   ·exact na_Cut_part
   ·exact na_Cut_name
   ·exact na_Cut_kind
   ·exact na_Cut_parent
   ·exact na_Cut_rank
   ·exact na_Cut_content
   ·exact na_Cut_text)⟩
  ·exact⟨⟨pg_zco,hd_zco,po_zco,sa_zco⟩,⟨ca_zco,mo_zco,me_zco⟩,(fun f hf=>by
   simp only [Wr,av,aO,or_false] at hf
   rcases hf with rfl|rfl|rfl|rfl|rfl|rfl|rfl
   ·exact na_Move_part
   ·exact na_Move_name
   ·exact na_Move_kind
   ·exact na_Move_parent
   ·exact na_Move_rank
   ·exact na_Move_content
   ·exact na_Move_text)⟩
  ·exact⟨⟨pg_zcr,hd_zcr,po_zcr,sa_zcr⟩,⟨ca_zcr,mo_zcr,me_zcr⟩,(fun f hf=>by
   simp only [Wr,av,aO,or_false] at hf
   rcases hf with rfl|rfl|rfl|rfl|rfl|rfl|rfl
   ·exact na_Wrap_part
   ·exact na_Wrap_name
   ·exact na_Wrap_kind
   ·exact na_Wrap_parent
   ·exact na_Wrap_rank
   ·exact na_Wrap_content
   ·exact na_Wrap_text)⟩),(fun C h=>by
  simp only [av,aO,or_false] at h
  rcases h with rfl|rfl|rfl
  ·exact⟨pg_zci,hd_zci,po_zci,sa_zci⟩
  ·exact⟨pg_zcp,hd_zcp,po_zcp,sa_zcp⟩
  ·exact⟨pg_zcm,hd_zcm,po_zcm,sa_zcm⟩),hn,htk,ty_Edit,mr_Edit,(fun i C h=>by
  have xs:∀ C∈[c_zck,c_zcj,c_zcn,c_zcq,c_zcg],XC K C (.ref c_zcd::.ref c_zce::valTail):=fun C h=>by
   simp only [av,aO,or_false] at h
   rcases h with rfl|rfl|rfl|rfl|rfl
   ·exact x_zck
   ·exact x_zcj
   ·exact x_zcn
   ·exact x_zcq
   ·exact x_zcg
  match i,h with
  | 0,h=>cases h;exact⟨x_zck.ecls tl_2,nb_NoPart_part,nb_NoPart_choice,mb_zck,bxs nd xs 0 _ rfl⟩
  | 1,h=>cases h;exact⟨x_zcj.ecls tl_2,nb_Doubled_part,nb_Doubled_choice,mb_zcj,bxs nd xs 1 _ rfl⟩
  | 2,h=>cases h;exact⟨x_zcn.ecls tl_2,nb_Lost_part,nb_Lost_choice,mb_zcn,bxs nd xs 2 _ rfl⟩
  | 3,h=>cases h;exact⟨x_zcq.ecls tl_2,nb_Ring_part,nb_Ring_choice,mb_zcq,bxs nd xs 3 _ rfl⟩
  | 4,h=>cases h;exact⟨x_zcg.ecls tl_2,nb_NoHolder_part,nb_NoHolder_choice,mb_zcg,bxs nd xs 4 _ rfl⟩)⟩⟩
 exact⟨_,bB "law" "law" (A7 Du) (Ag Du) (Aa Du) .none kV_zby dc_zby pm_zby an_zby cd_zby ct_zby,fun s v=>.of_eq rfl,fun base _ _=>bc4 AO⟩
noncomputable def sp0 (K:aa):Sp:=fun vs H Q _=>∃ (a:Addr) (ns:List Int),vs=[.ref a]/\SqL K H a (ns.map V.int)/\ns.length<=63 /\ ∀ H',Q (.bl true) H'
theorem walk {l:im} {q:aH} {loose:List Str} {XP:(Str->Option Value)->Heap->Prop} {YP:bh->Heap->Prop} {d:DefRec} {K:Params->aa} (hn:l.most=some 63) (hdf:d.params.defaults=[])
  (hY:∀ (w:bh) (h:Heap),YP w h->(K w.params).In h)
  (F:∀ (w:bh) (mg:Str->Option Value) (fa:Addr) (h:Heap),(K w.params).In h->h.Ns aG mg->mg d.name=some (.ref fa) ->
   ∃ (t:Adr) (fd:ai),(∀ (s:ah) (u:Value),jK s fd ⟨[u],[]⟩ [("_law_script", u)]) /\ ∀ base:Heap,(K w.params).In base->base.Ns aG mg->FnOk l.prog w (K w.params) mg base CX0 15 fa fd ["_law_script"] (Ob (K w.params) t)) :
  PySem.W.WalkO q loose XP YP l.row.toRowW d [] (fun f vs=>PySem.call f vs):=
 L2.walk_of (n:=63) (k:=15) (x := "_law_script") (CX:=fun _=>CX0) (sp:=fun w=>sp0 (K w.params)) (fun _ _=>bv) hn (by decide) hdf ⟨rfl,by decide,by decide⟩ hY (fun w mg fa h a b c=>let ⟨t,fd,h1,h2⟩:=F w mg fa h a b c;⟨fd,h1,fun base x y=>(h2 base x y).imp fun vs H Q E z=>z⟩) (fun _ _ a ns hl _ hS=>⟨a,ns,rfl,hS,hl,fun _=>rfl⟩) fun _ _ _ _ _ z=>z
end K25
open PySem PySem.W PyProof.Rows
end
set_option maxRecDepth 100000 in
set_option maxHeartbeats 0 in
theorem PySem.Challenge.cw_manyleaf_k25_trees_edited_holds : PySem.Challenge.rw_manyleaf_k25_trees_edited.Holds := by
 refine head_k25 ?_
 k_fill
 refine K25.walk (l:=PySem.Challenge.rw_manyleaf_k25_trees_edited) rfl rfl (fun w h Y=>PySem.W.kIn_of Y) ?F
 case F=>
  intro w mg fa h KX G hmg
  refine' K25.all_mk KX G hmg ?a_zce ?a_zch ?a_zcd ?a_zck ?a_zcj ?a_zcn ?a_zcq ?a_zcg ?in_zce ?kp_zce ?in_zch ?kp_zch ?in_zcd ?kp_zcd ?in_zck ?kp_zck ?in_zcj ?kp_zcj ?in_zcn ?kp_zcn ?in_zcq ?kp_zcq ?in_zcg ?kp_zcg ?a_zci ?a_zcp ?a_zcm ?a_zcl ?a_zct ?a_zcs ?a_zco ?a_zcr ?in_zci ?kp_zci ?mk_zci ?pg_zci ?hd_zci ?po_zci ?sa_zci ?in_zcp ?kp_zcp ?mk_zcp ?pg_zcp ?hd_zcp ?po_zcp ?sa_zcp ?in_zcm ?kp_zcm ?mk_zcm ?pg_zcm ?hd_zcm ?po_zcm ?sa_zcm ?in_zcl ?kp_zcl ?mk_zcl ?pg_zcl ?hd_zcl ?po_zcl ?sa_zcl ?in_zct ?kp_zct ?mk_zct ?pg_zct ?hd_zct ?po_zct ?sa_zct ?in_zcs ?kp_zcs ?mk_zcs ?pg_zcs ?hd_zcs ?po_zcs ?sa_zcs ?in_zco ?kp_zco ?mk_zco ?pg_zco ?hd_zco ?po_zco ?sa_zco ?in_zcr ?kp_zcr ?mk_zcr ?pg_zcr ?hd_zcr ?po_zcr ?sa_zcr ?a_Edit ?a_PartEdit ?sg_PartEdit ?sr_PartEdit ?sf_PartEdit ?mt_zat ?mt_Cut_about ?mt_Move_about ?mt_Wrap_about ?mt_za ?mt_zm ?mt_zag ?mt_zab ?mt_zu ?mt_zx ?mt_zb ?mt_zad ?mt_Chapter_fits ?mt_Para_fits ?mt_zah ?mt_zar ?mt_zj ?mt_Para_holds ?mt_Table_holds ?mt_zn ?mt_zas ?mt_zbe ?mt_Cut_made ?mt_Move_made ?mt_zav ?mt_zv ?mt_Put_need ?mt_Cut_need ?mt_Move_need ?mt_Wrap_need ?mt_zc ?mt_zp ?mt_zk ?mt_zg ?mt_zi ?mt_Put_on ?mt_Cut_on ?mt_Move_on ?mt_Wrap_on ?mt_zd ?mt_zo ?mt_zw ?mt_zbf ?mt_zbc ?mt_zap ?mt_zaw ?mt_zaf ?mt_zq ?mt_zaq ?mt_zai ?mt_ze ?ks_ze ?kt_ze ?q_zae ?q_zal ?q_zat ?q_zbe ?q_zbf ?q_zh ?q_zbc ?q_zap ?q_zav ?q_zaw ?q_zbh ?q_zbm ?q_zak ?q_zbi ?q_zaj ?q_zay ?q_zax ?q_zr ?q_zbq ?q_zbg ?q_zbr ?q_zs ?q_zbs ?q_zan ?q_zy ?q_zbu ?q_zah ?q_zq ?q_zaq ?q_zai ?q_zt ?q_zbt ?q_zaz ?q_zbd ?q_zl ?q_zao ?q_zau ?q_zbl ?q_zba ?q_zbb ?q_zbk ?q_zz ?q_zbj ?l_zf ?c_zf ?k_zf ?if_zf ?ld_zf ?q_zar ?q_zbo ?q_zac ?q_zj ?q_zw ?q_zn ?q_zaa ?q_zp ?q_zk ?q_zd ?q_zbw ?q_zg ?q_zi ?l_zam ?c_zam ?k_zam ?if_zam ?ld_zam ?q_zas ?q_zag ?q_zc ?q_zo ?q_ze ?q_za ?q_zaf ?q_zm ?q_zad ?q_zab ?q_zb ?q_zbx ?q_zu ?q_zx ?l_zbp ?c_zbp ?k_zbp ?if_zbp ?ld_zbp ?q_zbn ?q_zv ?q_zbv ?a_zby ?l_zby ?c_zby ?k_zby ?x_zce ?x_zch ?x_zcd ?x_zck ?x_zcj ?x_zcn ?x_zcq ?x_zcg ?v_zbz ?r_zbz ?v_zca ?r_zca ?v_zcb ?r_zcb ?v_zcf ?r_zcf ?v_zcc ?r_zcc ?v_zcu ?r_zcu ?z_all ?z_bool ?z_int ?z_isinstance ?z_len ?z_ord ?z_range ?z_reversed ?z_sorted ?z_str ?z_tuple ?na_zcl ?ca_zct ?mo_zct ?me_zct ?na_Put_part ?na_Put_name ?na_Put_kind ?na_Put_parent ?na_Put_rank ?na_Put_content ?na_Put_text ?ca_zcs ?mo_zcs ?me_zcs ?na_Cut_part ?na_Cut_name ?na_Cut_kind ?na_Cut_parent ?na_Cut_rank ?na_Cut_content ?na_Cut_text ?ca_zco ?mo_zco ?me_zco ?na_Move_part ?na_Move_name ?na_Move_kind ?na_Move_parent ?na_Move_rank ?na_Move_content ?na_Move_text ?ca_zcr ?mo_zcr ?me_zcr ?na_Wrap_part ?na_Wrap_name ?na_Wrap_kind ?na_Wrap_parent ?na_Wrap_rank ?na_Wrap_content ?na_Wrap_text ?hn ?htk ?ty_Edit ?mr_Edit ?nb_NoPart_part ?nb_NoPart_choice ?mb_zck ?nb_Doubled_part ?nb_Doubled_choice ?mb_zcj ?nb_Lost_part ?nb_Lost_choice ?mb_zcn ?nb_Ring_part ?nb_Ring_choice ?mb_zcq ?nb_NoHolder_part ?nb_NoHolder_choice ?mb_zcg ?nd
  (case a_zce=>k_is)
  (case a_zch=>k_is)
  (case a_zcd=>k_is)
  (case a_zck=>k_is)
  (case a_zcj=>k_is)
  (case a_zcn=>k_is)
  (case a_zcq=>k_is)
  (case a_zcg=>k_is)
  (case in_zce=>k_is)
  (case kp_zce=>k_is)
  (case in_zch=>k_is)
  (case kp_zch=>k_is)
  (case in_zcd=>k_is)
  (case kp_zcd=>k_is)
  (case in_zck=>k_is)
  (case kp_zck=>k_is)
  (case in_zcj=>k_is)
  (case kp_zcj=>k_is)
  (case in_zcn=>k_is)
  (case kp_zcn=>k_is)
  (case in_zcq=>k_is)
  (case kp_zcq=>k_is)
  (case in_zcg=>k_is)
  (case kp_zcg=>k_is)
  (case a_zci=>k_is)
  (case a_zcp=>k_is)
  (case a_zcm=>k_is)
  (case a_zcl=>k_is)
  (case a_zct=>k_is)
  (case a_zcs=>k_is)
  (case a_zco=>k_is)
  (case a_zcr=>k_is)
  (case in_zci=>k_is)
  (case kp_zci=>k_is)
  (case mk_zci=>k_is)
  (case pg_zci=>k_is)
  (case hd_zci=>k_is)
  (case po_zci=>k_is)
  (case sa_zci=>k_is)
  (case in_zcp=>k_is)
  (case kp_zcp=>k_is)
  (case mk_zcp=>k_is)
  (case pg_zcp=>k_is)
  (case hd_zcp=>k_is)
  (case po_zcp=>k_is)
  (case sa_zcp=>k_is)
  (case in_zcm=>k_is)
  (case kp_zcm=>k_is)
  (case mk_zcm=>k_is)
  (case pg_zcm=>k_is)
  (case hd_zcm=>k_is)
  (case po_zcm=>k_is)
  (case sa_zcm=>k_is)
  (case in_zcl=>k_is)
  (case kp_zcl=>k_is)
  (case mk_zcl=>k_is)
  (case pg_zcl=>k_is)
  (case hd_zcl=>k_is)
  (case po_zcl=>k_is)
  (case sa_zcl=>k_is)
  (case in_zct=>k_is)
  (case kp_zct=>k_is)
  (case mk_zct=>k_is)
  (case pg_zct=>k_is)
  (case hd_zct=>k_is)
  (case po_zct=>k_is)
  (case sa_zct=>k_is)
  (case in_zcs=>k_is)
  (case kp_zcs=>k_is)
  (case mk_zcs=>k_is)
  (case pg_zcs=>k_is)
  (case hd_zcs=>k_is)
  (case po_zcs=>k_is)
  (case sa_zcs=>k_is)
  (case in_zco=>k_is)
  (case kp_zco=>k_is)
  (case mk_zco=>k_is)
  (case pg_zco=>k_is)
  (case hd_zco=>k_is)
  (case po_zco=>k_is)
  (case sa_zco=>k_is)
  (case in_zcr=>k_is)
  (case kp_zcr=>k_is)
  (case mk_zcr=>k_is)
  (case pg_zcr=>k_is)
  (case hd_zcr=>k_is)
  (case po_zcr=>k_is)
  (case sa_zcr=>k_is)
  (case a_Edit=>k_is)
  (case a_PartEdit=>k_is)
  (case sg_PartEdit=>k_is)
  (case sr_PartEdit=>k_is)
  (case sf_PartEdit=>k_is)
  (case mt_zat=>k_is)
  (case mt_Cut_about=>k_is)
  (case mt_Move_about=>k_is)
  (case mt_Wrap_about=>k_is)
  (case mt_za=>k_is)
  (case mt_zm=>k_is)
  (case mt_zag=>k_is)
  (case mt_zab=>k_is)
  (case mt_zu=>k_is)
  (case mt_zx=>k_is)
  (case mt_zb=>k_is)
  (case mt_zad=>k_is)
  (case mt_Chapter_fits=>k_is)
  (case mt_Para_fits=>k_is)
  (case mt_zah=>k_is)
  (case mt_zar=>k_is)
  (case mt_zj=>k_is)
  (case mt_Para_holds=>k_is)
  (case mt_Table_holds=>k_is)
  (case mt_zn=>k_is)
  (case mt_zas=>k_is)
  (case mt_zbe=>k_is)
  (case mt_Cut_made=>k_is)
  (case mt_Move_made=>k_is)
  (case mt_zav=>k_is)
  (case mt_zv=>k_is)
  (case mt_Put_need=>k_is)
  (case mt_Cut_need=>k_is)
  (case mt_Move_need=>k_is)
  (case mt_Wrap_need=>k_is)
  (case mt_zc=>k_is)
  (case mt_zp=>k_is)
  (case mt_zk=>k_is)
  (case mt_zg=>k_is)
  (case mt_zi=>k_is)
  (case mt_Put_on=>k_is)
  (case mt_Cut_on=>k_is)
  (case mt_Move_on=>k_is)
  (case mt_Wrap_on=>k_is)
  (case mt_zd=>k_is)
  (case mt_zo=>k_is)
  (case mt_zw=>k_is)
  (case mt_zbf=>k_is)
  (case mt_zbc=>k_is)
  (case mt_zap=>k_is)
  (case mt_zaw=>k_is)
  (case mt_zaf=>k_is)
  (case mt_zq=>k_is)
  (case mt_zaq=>k_is)
  (case mt_zai=>k_is)
  (case mt_ze=>k_is)
  (case ks_ze=>k_is)
  (case kt_ze=>k_is)
  (case q_zae=>refine' L2.met_mk ?l ?c ?k ?i;(case l=>k_is);(case c=>k_is);(case k=>k_is);(case i=>k_is))
  (case q_zal=>refine' L2.met_mk ?l ?c ?k ?i;(case l=>k_is);(case c=>k_is);(case k=>k_is);(case i=>k_is))
  (case q_zat=>refine' L2.met_mk ?l ?c ?k ?i;(case l=>k_is);(case c=>k_is);(case k=>k_is);(case i=>k_is))
  (case q_zbe=>refine' L2.met_mk ?l ?c ?k ?i;(case l=>k_is);(case c=>k_is);(case k=>k_is);(case i=>k_is))
  (case q_zbf=>refine' L2.met_mk ?l ?c ?k ?i;(case l=>k_is);(case c=>k_is);(case k=>k_is);(case i=>k_is))
  (case q_zh=>refine' L2.met_mk ?l ?c ?k ?i;(case l=>k_is);(case c=>k_is);(case k=>k_is);(case i=>k_is))
  (case q_zbc=>refine' L2.met_mk ?l ?c ?k ?i;(case l=>k_is);(case c=>k_is);(case k=>k_is);(case i=>k_is))
  (case q_zap=>refine' L2.met_mk ?l ?c ?k ?i;(case l=>k_is);(case c=>k_is);(case k=>k_is);(case i=>k_is))
  (case q_zav=>refine' L2.met_mk ?l ?c ?k ?i;(case l=>k_is);(case c=>k_is);(case k=>k_is);(case i=>k_is))
  (case q_zaw=>refine' L2.met_mk ?l ?c ?k ?i;(case l=>k_is);(case c=>k_is);(case k=>k_is);(case i=>k_is))
  (case q_zbh=>refine' L2.top_mk ?a ?l ?c ?k;(case a=>k_is);(case l=>k_is);(case c=>k_is);(case k=>k_is))
  (case q_zbm=>refine' L2.top_mk ?a ?l ?c ?k;(case a=>k_is);(case l=>k_is);(case c=>k_is);(case k=>k_is))
  (case q_zak=>refine' L2.top_mk ?a ?l ?c ?k;(case a=>k_is);(case l=>k_is);(case c=>k_is);(case k=>k_is))
  (case q_zbi=>refine' L2.top_mk ?a ?l ?c ?k;(case a=>k_is);(case l=>k_is);(case c=>k_is);(case k=>k_is))
  (case q_zaj=>refine' L2.top_mk ?a ?l ?c ?k;(case a=>k_is);(case l=>k_is);(case c=>k_is);(case k=>k_is))
  (case q_zay=>refine' L2.top_mk ?a ?l ?c ?k;(case a=>k_is);(case l=>k_is);(case c=>k_is);(case k=>k_is))
  (case q_zax=>refine' L2.top_mk ?a ?l ?c ?k;(case a=>k_is);(case l=>k_is);(case c=>k_is);(case k=>k_is))
  (case q_zr=>refine' L2.top_mk ?a ?l ?c ?k;(case a=>k_is);(case l=>k_is);(case c=>k_is);(case k=>k_is))
  (case q_zbq=>refine' L2.top_mk ?a ?l ?c ?k;(case a=>k_is);(case l=>k_is);(case c=>k_is);(case k=>k_is))
  (case q_zbg=>refine' L2.top_mk ?a ?l ?c ?k;(case a=>k_is);(case l=>k_is);(case c=>k_is);(case k=>k_is))
  (case q_zbr=>refine' L2.top_mk ?a ?l ?c ?k;(case a=>k_is);(case l=>k_is);(case c=>k_is);(case k=>k_is))
  (case q_zs=>refine' L2.top_mk ?a ?l ?c ?k;(case a=>k_is);(case l=>k_is);(case c=>k_is);(case k=>k_is))
  (case q_zbs=>refine' L2.top_mk ?a ?l ?c ?k;(case a=>k_is);(case l=>k_is);(case c=>k_is);(case k=>k_is))
  (case q_zan=>refine' L2.met_mk ?l ?c ?k ?i;(case l=>k_is);(case c=>k_is);(case k=>k_is);(case i=>k_is))
  (case q_zy=>refine' L2.top_mk ?a ?l ?c ?k;(case a=>k_is);(case l=>k_is);(case c=>k_is);(case k=>k_is))
  (case q_zbu=>refine' L2.top_mk ?a ?l ?c ?k;(case a=>k_is);(case l=>k_is);(case c=>k_is);(case k=>k_is))
  (case q_zah=>refine' L2.met_mk ?l ?c ?k ?i;(case l=>k_is);(case c=>k_is);(case k=>k_is);(case i=>k_is))
  (case q_zq=>refine' L2.met_mk ?l ?c ?k ?i;(case l=>k_is);(case c=>k_is);(case k=>k_is);(case i=>k_is))
  (case q_zaq=>refine' L2.met_mk ?l ?c ?k ?i;(case l=>k_is);(case c=>k_is);(case k=>k_is);(case i=>k_is))
  (case q_zai=>refine' L2.met_mk ?l ?c ?k ?i;(case l=>k_is);(case c=>k_is);(case k=>k_is);(case i=>k_is))
  (case q_zt=>refine' L2.top_mk ?a ?l ?c ?k;(case a=>k_is);(case l=>k_is);(case c=>k_is);(case k=>k_is))
  (case q_zbt=>refine' L2.top_mk ?a ?l ?c ?k;(case a=>k_is);(case l=>k_is);(case c=>k_is);(case k=>k_is))
  (case q_zaz=>refine' L2.top_mk ?a ?l ?c ?k;(case a=>k_is);(case l=>k_is);(case c=>k_is);(case k=>k_is))
  (case q_zbd=>refine' L2.met_mk ?l ?c ?k ?i;(case l=>k_is);(case c=>k_is);(case k=>k_is);(case i=>k_is))
  (case q_zl=>refine' L2.met_mk ?l ?c ?k ?i;(case l=>k_is);(case c=>k_is);(case k=>k_is);(case i=>k_is))
  (case q_zao=>refine' L2.met_mk ?l ?c ?k ?i;(case l=>k_is);(case c=>k_is);(case k=>k_is);(case i=>k_is))
  (case q_zau=>refine' L2.met_mk ?l ?c ?k ?i;(case l=>k_is);(case c=>k_is);(case k=>k_is);(case i=>k_is))
  (case q_zbl=>refine' L2.top_mk ?a ?l ?c ?k;(case a=>k_is);(case l=>k_is);(case c=>k_is);(case k=>k_is))
  (case q_zba=>refine' L2.top_mk ?a ?l ?c ?k;(case a=>k_is);(case l=>k_is);(case c=>k_is);(case k=>k_is))
  (case q_zbb=>refine' L2.top_mk ?a ?l ?c ?k;(case a=>k_is);(case l=>k_is);(case c=>k_is);(case k=>k_is))
  (case q_zbk=>refine' L2.top_mk ?a ?l ?c ?k;(case a=>k_is);(case l=>k_is);(case c=>k_is);(case k=>k_is))
  (case q_zz=>refine' L2.top_mk ?a ?l ?c ?k;(case a=>k_is);(case l=>k_is);(case c=>k_is);(case k=>k_is))
  (case q_zbj=>refine' L2.top_mk ?a ?l ?c ?k;(case a=>k_is);(case l=>k_is);(case c=>k_is);(case k=>k_is))
  (case l_zf=>k_is)
  (case c_zf=>k_is)
  (case k_zf=>k_is)
  (case if_zf=>k_is)
  (case ld_zf=>k_is)
  (case q_zar=>refine' L2.met_mk ?l ?c ?k ?i;(case l=>k_is);(case c=>k_is);(case k=>k_is);(case i=>k_is))
  (case q_zbo=>refine' L2.top_mk ?a ?l ?c ?k;(case a=>k_is);(case l=>k_is);(case c=>k_is);(case k=>k_is))
  (case q_zac=>refine' L2.met_mk ?l ?c ?k ?i;(case l=>k_is);(case c=>k_is);(case k=>k_is);(case i=>k_is))
  (case q_zj=>refine' L2.met_mk ?l ?c ?k ?i;(case l=>k_is);(case c=>k_is);(case k=>k_is);(case i=>k_is))
  (case q_zw=>refine' L2.met_mk ?l ?c ?k ?i;(case l=>k_is);(case c=>k_is);(case k=>k_is);(case i=>k_is))
  (case q_zn=>refine' L2.met_mk ?l ?c ?k ?i;(case l=>k_is);(case c=>k_is);(case k=>k_is);(case i=>k_is))
  (case q_zaa=>refine' L2.top_mk ?a ?l ?c ?k;(case a=>k_is);(case l=>k_is);(case c=>k_is);(case k=>k_is))
  (case q_zp=>refine' L2.met_mk ?l ?c ?k ?i;(case l=>k_is);(case c=>k_is);(case k=>k_is);(case i=>k_is))
  (case q_zk=>refine' L2.met_mk ?l ?c ?k ?i;(case l=>k_is);(case c=>k_is);(case k=>k_is);(case i=>k_is))
  (case q_zd=>refine' L2.met_mk ?l ?c ?k ?i;(case l=>k_is);(case c=>k_is);(case k=>k_is);(case i=>k_is))
  (case q_zbw=>refine' L2.top_mk ?a ?l ?c ?k;(case a=>k_is);(case l=>k_is);(case c=>k_is);(case k=>k_is))
  (case q_zg=>refine' L2.met_mk ?l ?c ?k ?i;(case l=>k_is);(case c=>k_is);(case k=>k_is);(case i=>k_is))
  (case q_zi=>refine' L2.met_mk ?l ?c ?k ?i;(case l=>k_is);(case c=>k_is);(case k=>k_is);(case i=>k_is))
  (case l_zam=>k_is)
  (case c_zam=>k_is)
  (case k_zam=>k_is)
  (case if_zam=>k_is)
  (case ld_zam=>k_is)
  (case q_zas=>refine' L2.met_mk ?l ?c ?k ?i;(case l=>k_is);(case c=>k_is);(case k=>k_is);(case i=>k_is))
  (case q_zag=>refine' L2.met_mk ?l ?c ?k ?i;(case l=>k_is);(case c=>k_is);(case k=>k_is);(case i=>k_is))
  (case q_zc=>refine' L2.met_mk ?l ?c ?k ?i;(case l=>k_is);(case c=>k_is);(case k=>k_is);(case i=>k_is))
  (case q_zo=>refine' L2.met_mk ?l ?c ?k ?i;(case l=>k_is);(case c=>k_is);(case k=>k_is);(case i=>k_is))
  (case q_ze=>refine' L2.met_mk ?l ?c ?k ?i;(case l=>k_is);(case c=>k_is);(case k=>k_is);(case i=>k_is))
  (case q_za=>refine' L2.met_mk ?l ?c ?k ?i;(case l=>k_is);(case c=>k_is);(case k=>k_is);(case i=>k_is))
  (case q_zaf=>refine' L2.met_mk ?l ?c ?k ?i;(case l=>k_is);(case c=>k_is);(case k=>k_is);(case i=>k_is))
  (case q_zm=>refine' L2.met_mk ?l ?c ?k ?i;(case l=>k_is);(case c=>k_is);(case k=>k_is);(case i=>k_is))
  (case q_zad=>refine' L2.met_mk ?l ?c ?k ?i;(case l=>k_is);(case c=>k_is);(case k=>k_is);(case i=>k_is))
  (case q_zab=>refine' L2.met_mk ?l ?c ?k ?i;(case l=>k_is);(case c=>k_is);(case k=>k_is);(case i=>k_is))
  (case q_zb=>refine' L2.met_mk ?l ?c ?k ?i;(case l=>k_is);(case c=>k_is);(case k=>k_is);(case i=>k_is))
  (case q_zbx=>refine' L2.top_mk ?a ?l ?c ?k;(case a=>k_is);(case l=>k_is);(case c=>k_is);(case k=>k_is))
  (case q_zu=>refine' L2.met_mk ?l ?c ?k ?i;(case l=>k_is);(case c=>k_is);(case k=>k_is);(case i=>k_is))
  (case q_zx=>refine' L2.met_mk ?l ?c ?k ?i;(case l=>k_is);(case c=>k_is);(case k=>k_is);(case i=>k_is))
  (case l_zbp=>k_is)
  (case c_zbp=>k_is)
  (case k_zbp=>k_is)
  (case if_zbp=>k_is)
  (case ld_zbp=>k_is)
  (case q_zbn=>refine' L2.top_mk ?a ?l ?c ?k;(case a=>k_is);(case l=>k_is);(case c=>k_is);(case k=>k_is))
  (case q_zv=>refine' L2.met_mk ?l ?c ?k ?i;(case l=>k_is);(case c=>k_is);(case k=>k_is);(case i=>k_is))
  (case q_zbv=>refine' L2.top_mk ?a ?l ?c ?k;(case a=>k_is);(case l=>k_is);(case c=>k_is);(case k=>k_is))
  (case a_zby=>k_is)
  (case l_zby=>k_is)
  (case c_zby=>k_is)
  (case k_zby=>k_is)
  (case x_zce=>(refine' L2.xc_mk ?l ?y ?s ?g ?t ?c ?n ?k;(case l=>k_is);(case y=>k_is);(case s=>k_is);(case g=>k_is);(case t=>k_is);(case c=>k_is);(case n=>k_is);(case k=>k_is)))
  (case x_zch=>(refine' L2.xc_mk ?l ?y ?s ?g ?t ?c ?n ?k;(case l=>k_is);(case y=>k_is);(case s=>k_is);(case g=>k_is);(case t=>k_is);(case c=>k_is);(case n=>k_is);(case k=>k_is)))
  (case x_zcd=>(refine' L2.xc_mk ?l ?y ?s ?g ?t ?c ?n ?k;(case l=>k_is);(case y=>k_is);(case s=>k_is);(case g=>k_is);(case t=>k_is);(case c=>k_is);(case n=>k_is);(case k=>k_is)))
  (case x_zck=>(refine' L2.xc_mk ?l ?y ?s ?g ?t ?c ?n ?k;(case l=>k_is);(case y=>k_is);(case s=>k_is);(case g=>k_is);(case t=>k_is);(case c=>k_is);(case n=>k_is);(case k=>k_is)))
  (case x_zcj=>(refine' L2.xc_mk ?l ?y ?s ?g ?t ?c ?n ?k;(case l=>k_is);(case y=>k_is);(case s=>k_is);(case g=>k_is);(case t=>k_is);(case c=>k_is);(case n=>k_is);(case k=>k_is)))
  (case x_zcn=>(refine' L2.xc_mk ?l ?y ?s ?g ?t ?c ?n ?k;(case l=>k_is);(case y=>k_is);(case s=>k_is);(case g=>k_is);(case t=>k_is);(case c=>k_is);(case n=>k_is);(case k=>k_is)))
  (case x_zcq=>(refine' L2.xc_mk ?l ?y ?s ?g ?t ?c ?n ?k;(case l=>k_is);(case y=>k_is);(case s=>k_is);(case g=>k_is);(case t=>k_is);(case c=>k_is);(case n=>k_is);(case k=>k_is)))
  (case x_zcg=>(refine' L2.xc_mk ?l ?y ?s ?g ?t ?c ?n ?k;(case l=>k_is);(case y=>k_is);(case s=>k_is);(case g=>k_is);(case t=>k_is);(case c=>k_is);(case n=>k_is);(case k=>k_is)))
  (case v_zbz=>k_is)
  (case r_zbz=>exact⟨_,rfl⟩)
  (case v_zca=>k_is)
  (case r_zca=>exact⟨_,rfl⟩)
  (case v_zcb=>k_is)
  (case r_zcb=>exact⟨_,rfl⟩)
  (case v_zcf=>k_is)
  (case r_zcf=>exact⟨_,rfl⟩)
  (case v_zcc=>k_is)
  (case r_zcc=>exact⟨_,rfl⟩)
  (case v_zcu=>k_is)
  (case r_zcu=>exact⟨_,rfl⟩)
  (case z_all=>k_is)
  (case z_bool=>k_is)
  (case z_int=>k_is)
  (case z_isinstance=>k_is)
  (case z_len=>k_is)
  (case z_ord=>k_is)
  (case z_range=>k_is)
  (case z_reversed=>k_is)
  (case z_sorted=>k_is)
  (case z_str=>k_is)
  (case z_tuple=>k_is)
  (case na_zcl=>k_is)
  (case ca_zct=>k_is)
  (case mo_zct=>k_is)
  (case me_zct=>k_is)
  (case na_Put_part=>k_is)
  (case na_Put_name=>k_is)
  (case na_Put_kind=>k_is)
  (case na_Put_parent=>k_is)
  (case na_Put_rank=>k_is)
  (case na_Put_content=>k_is)
  (case na_Put_text=>k_is)
  (case ca_zcs=>k_is)
  (case mo_zcs=>k_is)
  (case me_zcs=>k_is)
  (case na_Cut_part=>k_is)
  (case na_Cut_name=>k_is)
  (case na_Cut_kind=>k_is)
  (case na_Cut_parent=>k_is)
  (case na_Cut_rank=>k_is)
  (case na_Cut_content=>k_is)
  (case na_Cut_text=>k_is)
  (case ca_zco=>k_is)
  (case mo_zco=>k_is)
  (case me_zco=>k_is)
  (case na_Move_part=>k_is)
  (case na_Move_name=>k_is)
  (case na_Move_kind=>k_is)
  (case na_Move_parent=>k_is)
  (case na_Move_rank=>k_is)
  (case na_Move_content=>k_is)
  (case na_Move_text=>k_is)
  (case ca_zcr=>k_is)
  (case mo_zcr=>k_is)
  (case me_zcr=>k_is)
  (case na_Wrap_part=>k_is)
  (case na_Wrap_name=>k_is)
  (case na_Wrap_kind=>k_is)
  (case na_Wrap_parent=>k_is)
  (case na_Wrap_rank=>k_is)
  (case na_Wrap_content=>k_is)
  (case na_Wrap_text=>k_is)
  (case hn=>k_is)
  (case htk=>k_is)
  (case ty_Edit=>k_is)
  (case mr_Edit=>k_is)
  (case nb_NoPart_part=>k_is)
  (case nb_NoPart_choice=>k_is)
  (case mb_zck=>k_is)
  (case nb_Doubled_part=>k_is)
  (case nb_Doubled_choice=>k_is)
  (case mb_zcj=>k_is)
  (case nb_Lost_part=>k_is)
  (case nb_Lost_choice=>k_is)
  (case mb_zcn=>k_is)
  (case nb_Ring_part=>k_is)
  (case nb_Ring_choice=>k_is)
  (case mb_zcq=>k_is)
  (case nb_NoHolder_part=>k_is)
  (case nb_NoHolder_choice=>k_is)
  (case mb_zcg=>k_is)
  (case nd=>decide)
#print axioms PySem.Challenge.cw_manyleaf_k25_trees_edited_holds
