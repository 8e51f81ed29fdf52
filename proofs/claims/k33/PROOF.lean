import PyProof.Rows.All
import Wide.All
import OpenK.AllK
import Wide.FinOn
import PyProof.ToksMono
import Lean
import PyProof.EqAt
import PyProof.EqKinds
import PyProof.TupleCall
import PyProof.NeKinds
import PyProof.ZipIter
import PyProof.StrWalks
import PyProof.ConsumeWalk
import PyProof.ExcArgs
import PyProof.ExcBaseAll.ValueError
import KE.KIsAll
import PyProof.EnumFor
import PyProof.EnumMake
import PyProof.EnumStmt
import PyProof.Rows.EnumRows
import PyProof.DictWalks
import PyProof.Rows.SetFrom
import PyProof.DictItems
import KE.KDictList
import PyProof.TupleIter
import PyProof.RulesRaise
import PyProof.RulesTry
import PyProof.MeetsIn
import KE.KEqDict
import PyProof.StrOps2
import PyProof.StrCalls6
import PyProof.ListMulRoad
import PyProof.FactsAll.tuple
import KE.KDictOf
import KE.KSortTup
import KE.KSortKey
import PyProof.Rows.Range3
import PyProof.Rows.ChunkLeaf
import KE.KRevIter
import PyProof.StationsW
import PyProof.PassesOwn
import KE.KLam
import KE.KNestM
import PySem.Challenge.RW_manyleaf_k33_different_books
set_option Elab.async false
set_option linter.all false
set_option maxRecDepth 100000
section
open PySem PySem.W PyProof.Rows
set_option maxRecDepth 100000
set_option maxHeartbeats 0
noncomputable def PySem.W.Fast.tw10145720524147321225:Unit:=()
noncomputable def PySem.W.Fast.tw10149316592444292569:Unit:=()
noncomputable def PySem.W.Fast.tw10150132400092075120:Unit:=()
noncomputable def PySem.W.Fast.tw10501023957973059203:Unit:=()
noncomputable def PySem.W.Fast.tw1086171036613341001:Unit:=()
noncomputable def PySem.W.Fast.tw11721100540096829772:Unit:=()
noncomputable def PySem.W.Fast.tw11940822270428074210:Unit:=()
noncomputable def PySem.W.Fast.tw11982047125966866489:Unit:=()
noncomputable def PySem.W.Fast.tw12136545205487305440:Unit:=()
noncomputable def PySem.W.Fast.tw12191747676423019900:Unit:=()
noncomputable def PySem.W.Fast.tw1224427564113445710:Unit:=()
noncomputable def PySem.W.Fast.tw12368706840632493742:Unit:=()
noncomputable def PySem.W.Fast.tw1256366639849137244:Unit:=()
noncomputable def PySem.W.Fast.tw1281041236049834897:Unit:=()
noncomputable def PySem.W.Fast.tw12824422483665932318:Unit:=()
noncomputable def PySem.W.Fast.tw12952802332141834056:Unit:=()
noncomputable def PySem.W.Fast.tw12953756228987047744:Unit:=()
noncomputable def PySem.W.Fast.tw13002747718786906104:Unit:=()
noncomputable def PySem.W.Fast.tw13010531439488741423:Unit:=()
noncomputable def PySem.W.Fast.tw13713064166236323455:Unit:=()
noncomputable def PySem.W.Fast.tw13789141842896413118:Unit:=()
noncomputable def PySem.W.Fast.tw13815572167614622384:Unit:=()
noncomputable def PySem.W.Fast.tw13895795809562338728:Unit:=()
noncomputable def PySem.W.Fast.tw13923239415702554967:Unit:=()
noncomputable def PySem.W.Fast.tw14053465472054690615:Unit:=()
noncomputable def PySem.W.Fast.tw14116330140403528714:Unit:=()
noncomputable def PySem.W.Fast.tw14199669037174467991:Unit:=()
noncomputable def PySem.W.Fast.tw1431706814524275382:Unit:=()
noncomputable def PySem.W.Fast.tw14378702988290163759:Unit:=()
noncomputable def PySem.W.Fast.tw144881622377499131:Unit:=()
noncomputable def PySem.W.Fast.tw14494257773772397689:Unit:=()
noncomputable def PySem.W.Fast.tw14609718229983854279:Unit:=()
noncomputable def PySem.W.Fast.tw14841967939968377805:Unit:=()
noncomputable def PySem.W.Fast.tw14877282118832078959:Unit:=()
noncomputable def PySem.W.Fast.tw14935378692789806439:Unit:=()
noncomputable def PySem.W.Fast.tw15579363095581353847:Unit:=()
noncomputable def PySem.W.Fast.tw15637607984336925827:Unit:=()
noncomputable def PySem.W.Fast.tw1574129654175253348:Unit:=()
noncomputable def PySem.W.Fast.tw15935781744398167434:Unit:=()
noncomputable def PySem.W.Fast.tw15951178929225257643:Unit:=()
noncomputable def PySem.W.Fast.tw16123853304449695853:Unit:=()
noncomputable def PySem.W.Fast.tw16252682211138496366:Unit:=()
noncomputable def PySem.W.Fast.tw1628550400237486287:Unit:=()
noncomputable def PySem.W.Fast.tw16444194665286352281:Unit:=()
noncomputable def PySem.W.Fast.tw165407854148103990:Unit:=()
noncomputable def PySem.W.Fast.tw16838888795760010298:Unit:=()
noncomputable def PySem.W.Fast.tw16877702886452141415:Unit:=()
noncomputable def PySem.W.Fast.tw16935170580705194657:Unit:=()
noncomputable def PySem.W.Fast.tw17043819826735232883:Unit:=()
noncomputable def PySem.W.Fast.tw17093707001265413160:Unit:=()
noncomputable def PySem.W.Fast.tw17218989854579248848:Unit:=()
noncomputable def PySem.W.Fast.tw17847797999517370590:Unit:=()
noncomputable def PySem.W.Fast.tw17848397969626034977:Unit:=()
noncomputable def PySem.W.Fast.tw18010318983211333467:Unit:=()
noncomputable def PySem.W.Fast.tw18034921725545398531:Unit:=()
noncomputable def PySem.W.Fast.tw18244477641823397284:Unit:=()
noncomputable def PySem.W.Fast.tw18302102147966006628:Unit:=()
noncomputable def PySem.W.Fast.tw1831735474828928631:Unit:=()
noncomputable def PySem.W.Fast.tw18420879875082277604:Unit:=()
noncomputable def PySem.W.Fast.tw1889631844653186913:Unit:=()
noncomputable def PySem.W.Fast.tw1982535283484284980:Unit:=()
noncomputable def PySem.W.Fast.tw2484624229376483476:Unit:=()
noncomputable def PySem.W.Fast.tw2490069844412439826:Unit:=()
noncomputable def PySem.W.Fast.tw2731805449333905898:Unit:=()
noncomputable def PySem.W.Fast.tw2819412398993719679:Unit:=()
noncomputable def PySem.W.Fast.tw3135241736462336794:Unit:=()
noncomputable def PySem.W.Fast.tw3280693258947185154:Unit:=()
noncomputable def PySem.W.Fast.tw3539405125061611428:Unit:=()
noncomputable def PySem.W.Fast.tw3754843423524064569:Unit:=()
noncomputable def PySem.W.Fast.tw3774046987575898193:Unit:=()
noncomputable def PySem.W.Fast.tw4034542789509908907:Unit:=()
noncomputable def PySem.W.Fast.tw4157166853407895621:Unit:=()
noncomputable def PySem.W.Fast.tw4489035307812970423:Unit:=()
noncomputable def PySem.W.Fast.tw4632653000378966075:Unit:=()
noncomputable def PySem.W.Fast.tw4762148859699666685:Unit:=()
noncomputable def PySem.W.Fast.tw5025115654071190501:Unit:=()
noncomputable def PySem.W.Fast.tw5035035964880677886:Unit:=()
noncomputable def PySem.W.Fast.tw5498657929261606879:Unit:=()
noncomputable def PySem.W.Fast.tw5887938097176362593:Unit:=()
noncomputable def PySem.W.Fast.tw622857557190437256:Unit:=()
noncomputable def PySem.W.Fast.tw6528621939175295992:Unit:=()
noncomputable def PySem.W.Fast.tw6548680750222253811:Unit:=()
noncomputable def PySem.W.Fast.tw6627918675656934777:Unit:=()
noncomputable def PySem.W.Fast.tw6656536804320291783:Unit:=()
noncomputable def PySem.W.Fast.tw7190514194836498462:Unit:=()
noncomputable def PySem.W.Fast.tw726904141283077959:Unit:=()
noncomputable def PySem.W.Fast.tw7430487619784469926:Unit:=()
noncomputable def PySem.W.Fast.tw7451781949369350254:Unit:=()
noncomputable def PySem.W.Fast.tw7452039311148904015:Unit:=()
noncomputable def PySem.W.Fast.tw7814821710367924797:Unit:=()
noncomputable def PySem.W.Fast.tw8108294360312607065:Unit:=()
noncomputable def PySem.W.Fast.tw8134613704588340763:Unit:=()
noncomputable def PySem.W.Fast.tw8301402340649508925:Unit:=()
noncomputable def PySem.W.Fast.tw8527822243786970471:Unit:=()
noncomputable def PySem.W.Fast.tw8567439894687149146:Unit:=()
noncomputable def PySem.W.Fast.tw8896166212864663129:Unit:=()
noncomputable def PySem.W.Fast.tw8978514018944328222:Unit:=()
noncomputable def PySem.W.Fast.tw9115747187540918282:Unit:=()
noncomputable def PySem.W.Fast.tw931718929078145637:Unit:=()
noncomputable def PySem.W.Fast.tw9625139384256153711:Unit:=()
noncomputable def PySem.W.Fast.tw9645245768186304992:Unit:=()
noncomputable def PySem.W.Fast.tw9887441648500992725:Unit:=()
open_top head_k33 for PySem.Challenge.rw_manyleaf_k33_different_books
end
section
open Array renaming length_toList→bJ,getElem?_toList→cC,getElem?_eq_getElem→fc,perm_iff_toList_perm→g8,forIn_toList→hX,map→ix,getElem?_eq_none→jk
open Bool renaming false_ne_true→au,and_eq_true→aP,false_eq_true→bH,eq_iff_iff→bT,or_eq_true→dF,beq_eq_decide_eq→d9,and_true→fF,and_false→f9,true_and→gG,not_eq_true'→iy,false_or→iQ,false_and→ke,not_true→kJ
open Classical renaming byContradiction→ig
open False renaming elim→cu
open ForInStep renaming yield→eo
open Function renaming comp_def→fW
open Int renaming toNat_natCast→aU,emod_lt_of_pos→cy,emod_nonneg→cV,mul_le_mul_of_nonneg_left→gn,fdiv_eq_ediv_of_nonneg→hG,one_mul→iT,emod_add_mul_ediv→jC,natCast_mul→jD,natCast_nonneg→kL,sub_zero→lG,toNat→l3
open LawfulBEq renaming eq_of_beq→ck
open List renaming length_map→ae,getElem?_eq_getElem→af,getElem?_map→ak,mem_of_getElem?→am,getD_eq_getElem?_getD→ao,size_toArray→aq,range→aw,map_append→ax,mem_cons_of_mem→ay,mem_map→aA,map_map→aE,length_take→aH,mem_cons→aI,length_cons→aK,take_length→aL,mem_append→aM,mem_cons_self→aQ,mem_append_right→aR,take_add_one→aV,map_cons→aY,length_append→aZ,length_range→a7,toArray→a9,all_eq_true→bb,getElem?_eq_some_iff→bi,mem_iff_getElem?→bv,getElem?_append_right→bx,getElem?_cons_succ→bA,mem_singleton→bI,length_reverse→bK,map_congr_left→bL,nodup_cons→bM,getElem?_append_left→bP,all_cons→bS,foldl_cons→bU,mem_range→bY,getElem_map→b9,length→cg,mem_map_of_mem→cj,getElem?_eq_none→cD,length_eq_zero_iff→cG,getElem_inj→cJ,getElem_mem→cK,pairwise_iff_getElem→cT,length_filter_le→cW,not_mem_nil→c7,mem_append_left→c8,getElem?_cons_zero→c9,getElem?_range→dj,take_sublist_take_left→dm,Pairwise→dw,mem_iff_getElem→dE,append_nil→dI,take_sublist→dJ,getElem?_replicate→dO,pairwise_cons→d7,find?_cons→ez,length_singleton→eC,mem_filter→eE,foldl_append→eU,getElem_toArray→e_,mem_of_mem_take→fb,any_eq_true→fj,filter_eq_self→fu,any_cons→fH,filter_append→fI,mem_filterMap→fJ,range_succ→fK,take_of_length_le→fP,ext_getElem?→fX,lookup→fY,Sublist→gd,all_map→ge,map_nil→gg,lookup_cons→gp,filterMap_cons→gR,of_mem_zip→gS,any_eq_false→iA,append_assoc→iB,flatMap_cons→iC,getElem_take→iD,length_erase_of_mem→iE,nodup_append→iF,map_take→iV,cons_append→i_,filter_cons→ja,length_drop→jb,map_reverse→jc,mem_flatMap→jd,mem_reverse→je,getElem?_set_self→jq,Perm→jF,filter_nil→jG,length_set→jH,getElem?_set_ne→j3,mem_erase_of_ne→j5,reverse_reverse→j6,nodup_nil→kg,replicate→kh,length_pos_iff→kD,drop_nil→kN,getElem_range→kO,sum_cons→kQ,any_map→lH,range'→l9
open List.Pairwise renaming map→eQ,nil→iz
open List.Perm renaming refl→ii
open List.Sublist renaming refl→dH
open Nat renaming le_refl→aj,lt_of_lt_of_le→aD,le_of_ble_eq_true→aG,ne_of_lt→aN,le_trans→aT,le_add_right→be,lt_of_le_of_lt→bh,zero_le→bj,lt_succ_self→cn,zero_add→cL,le_succ→cQ,lt_succ_of_lt→df,succ_le_succ→dq,le_of_lt→dy,testBit_two_pow→dQ,testBit_and→eG,lt_irrefl→eV,sub_self→fA,testBit_eq_decide_div_mod_eq→fO,testBit_or→f_,ne_of_gt→gh,zero_testBit→gr,eq_of_testBit_eq→gw,pow_le_pow_right→gx,add_assoc→gH,le_max_right→jf,lt_of_succ_lt_succ→jr,le_max_left→jI,testBit_xor→jJ,two_pow_pos→jK,max_le→lx,add_comm→lI,le_of_eq→lJ,min_self→lK
open Ne renaming symm→cB
open Option renaming some→aF,toList_some→cA,map_eq_some_iff→fQ,bind_some→gu,isSome_map→iG,map_some→jL
open Option.some renaming inj→av,injEq→eW
open Or renaming inl→gy
open Prod renaming fst→lV
open PyProof renaming noPylong_small→jt
open PyProof.Rows renaming seqObj→a8,callWith_type1→bV,slot_tuple_getitem→bW,get?_update_seq→cY,listUpdate_at→c_,seqEpoch_at→fv,boot_list→fS,callWith_builtin1→gj,listItems_at→ib,tail_of_ItemOn→iu,IntsAre→iU,boot_tuple→iX,subscriptTail_builtinR→ju,boot_int→jO,entry_list_sort→jT,list_sort_plain→jV,envOfC→kl,slot_list_sort→km,AllBare→kr,IsTup→kC,failedOf→k8,subscriptTail→lh,size_push'→lB,SortSt→lM,entry_sorted→lP,plain_sorted→lQ,oneType'→lW,kind_sorted→ml,arrOf→mo,bubble→mq,general'→mC,keyKind'→mE
open PyProof.Rows.F renaming plain_set_update_loop→fG,entry_set_update_loop→iS
open PyProof.Rows.SortSt renaming mk'→gN
open PySem renaming wpAny_bind→ag,Value→ah,Shared→al,wpAny_pure→ar,Builtin→aB,wpAny→aJ,Program→aS,Around→a_,wpAny_loadPart'→bn,FuncData→bo,wpAny_with_toks→bu,sizeLine_eq→bz,World→bB,wpAny_holding→bE,Spec→bN,wpAny_mono→bR,wpAny_Call_Name_kw→bZ,compareOp→b5,mem_of_lookup→b7,wpAny_typeNameOfWhole_keyiter→ca,wpAny_call_entry→cq,wpAny_callSpecial?_slot→cw,wpAny_newObj_type→cx,NameKind→cz,wpAny_typeNameOf_keyiter→cF,sysModules→cI,bootBuiltins→cO,starEach→cP,wpAny_truthy_bool→cR,codeAny_builtin→cX,assignEach→cZ,binaryOp→dA,rawInt→dN,wpAny_newList→dU,wpAny_setField_rec→d8,call_meetsIn→eJ,wpAny_field→eK,wpAny_richCompare_same_room→eN,foldedSetIterable→eZ,wpAny_pyIter_dict→e8,codeAny_mono→fE,wpAny_passesOwn→fM,wpAny_standAt→fN,sliceBounds→f6,wpAny_dictEntries→f7,wpAny_pyIter_enum→f8,wpAny_newTuple→ga,Paired→gC,plainId_quiet→gL,wpAny_attempt→gM,letOwnedTupleGo→gZ,valueAt→g6,wpAny_dictEpoch→g7,wpAny_letOwnedTupleGo_enum→hU,wpAny_newFunctionEnv_cells→hV,bindArgs→h_,pyNext→ic,codeAny→ip,firstArgMember→iq,relabel→ir,wpAny_fieldsOf→iw,backTo→iL,builtinsNs→iM,swapsWith→iO,wpAny_pyIter_list→iP,attributeBase→i5,behindInMarks→i6,noFill_tuple_add→jh,wpAny_forIn_list→ji,wpAny_isInstance→jj,wpAny_pyIter_rangeiter→jv,wpAny_pyNext_dict_item→jw,wpAny_pyNext_range_end→jz,IsEnum→jE,PassesOwn→jM,Within→jR,wpAny_execs_nil→jW,wpAny_isOneOf_keyiter→jX,wpAny_specialOf→jY,closureFor→jZ,wpAny_call→j0,intBits_le_iff→j8,codeAny_call_builtin→j9,wpAny_pyIter_keyiter→j_,wpAny_pyIter_revIter→kc,wpAny_setField→kq,IsRangeIter→ky,getItem→kH,keywordEach→kI,IsPart→kM,Fin→kW,seq_tuple_add→lg,swapsWithSole→lj,wpAny_pyIter_range→ll,BindsTo→lq,call_meets→ly,isInstance→lz,notedBy→lA,wpAny_rule→lC,assign→lN,concat_meets→lO,pyIter→lR,seqIndex_neg→lS,wpAny_typeOf→lT,Operator→lU,setField→lX,DictEntry→lY,Keyword→l7,MeetsIn→l_,callerA→me,cellsFrom→mf,eqIsQuiet→mh,seqIndex_of→mn,CmpOp→mw,GenState→mx,Walks→my,backToKw→mz,collect→mB,holding→mD,unaryOp→mF,atKey→mG
open PySem.Around renaming under_plainId→cH,under→lE
open PySem.AutoSeq1 renaming sub_list_list→jm
open PySem.Builtin renaming bitNot→ce,bitAnd→cm,bitOr→cS
open PySem.Builtin.Dict renaming showsAll→jA
open PySem.Builtin.Dict_items renaming ownsTuple→dZ
open PySem.Builtin.Int renaming intBits→gQ
open PySem.Builtin.List renaming listFitsIndex→dn,listTooLong→fw
open PySem.Builtin.Range renaming rangeSize→cr,small→ku
open PySem.Builtin.Slice renaming slicePlaces→dB,sliceAdjust→fe,sliceApplied→g9
open PySem.Builtin.SmallTypes renaming nextOf→bF,ownedTupleHandOut→ff,ownedTupleIsFree→fm
open PySem.Builtin.Tuple renaming tupleHashOf→cb,tupleExact→dG,tupleItemsOf→e9
open PySem.Calls renaming spliced_cons→d6,spliced_nil→eO,Name_function_global→g_,call_function_entry→ie,callWith_builtin→jn
open PySem.Code renaming quiet_builtin→kK,isFrame→lF
open PySem.F renaming slot_dict_keyiterator_next→bQ,slot_dict_get→dz,args_dict_keyiterator_next_1→dM,plainAttrs_list→dR,entry_dict_keyiterator_next→dW,entry_dict_get→dY,called_set→d_,slot_enumerate_next→eh,args_tuple_add_2→fB,entry_tuple_add→fL,slot_tuple_add→fT,slot_tuple_hash→fV,slot_list_insert→iH,args_enumerate_next_1→iR,args_dict_get_2→iY,args_dict_get_3→iZ,plainAttrs_dict→i0,slot_dict_clear→i3,entry_enumerate_next→jo
open PySem.Heap renaming get?_push_of_some→ai,get?_push_size→az,lt_size→aC,SameBut→bg,size_push→dD,size_update→i9,get?_update_other→jp,get?_update_self→jB,get?_update_ne→kx,ExtBut→lZ
open PySem.Heap.SameBut renaming update→bD
open PySem.IsRange renaming new→l6
open PySem.MeetsSeq3 renaming plain_eq_loop→dS,entry_eq_loop→i7
open PySem.NameKind renaming free→dP
open PySem.Obj renaming mapSeq→aW,data_mapFields→kU
open PySem.Paired renaming length→iW
open PySem.PassesOwn renaming never→jN
open PySem.Sem renaming wp_bind'→lL
open PySem.SeqAt renaming EqAt→bq,RcNeAt→eI,RcAt→fZ
open PySem.SeqAt.EqAt renaming same→jS,int_str→kY,str_int→kZ
open PySem.SeqAt.RcAt renaming tuples→iK
open PySem.SeqAt.RcNeAt renaming lists_lengths→hO
open PySem.Str renaming ofString→cN,empty→dX
open PySem.Value renaming none→bw,ref→bG,type→fC,notImplemented→gE,isStrOf→gJ,bool→gO,str→gX,isStrOf_shape→kG,int→k0,isInt→ma
open PySem.W renaming Frag→ac,findIn→aO,keepIn→ba,emptyDict→bC,instObj→bO,makesIn→bX,kia_one→b_,fnOf→cf,isFn→cE,nsIn→cM,codeIn→cU,codeHdIn→du,plainGet→dv,hasDictIn→dL,mg_of→eX,plainOver→eY,kitOne→fg,tabObj→fh,cellsFrom_some→fU,Looks→gI,KeqHits→gT,callWith_K0→gU,plainGet_of→gW,kas_place→gY,callWith_K→h9,keq_eq→ij,lookIn→im,kitx_list→iI,methodObj→iJ,kasC_bind→iN,kas_item→i8,makes_of→jg,OpenLaw→jP,takerIn→jQ,kas_rev→jU,looks_findIn→j7,keq_ne→ki,kla_fn→kj,codeHd_of_K→kE,kitx_tuple→kX,kas_count→k9,kas_desc→k_,kasC_pure→mj,kas_asc→mk,kas_st→mH
open Sum renaming inr→gv,inl→i4
open True renaming intro→aX
namespace L2
open PySem PySem.Spec PyProof.Rows
noncomputable abbrev Key:=Sum Int Str
noncomputable def K7:Key->ah->Bool
 | .inl k,v=>ma k v
 | .inr x,v=>gJ x v
noncomputable def a60 (w:bB):Key->Int
 | .inl k=>hashInt k
 | .inr x=>hashStr w x
theorem Au:∀ {k:Key} {v:ah},K7 k v=true->(∃ i t,k=i4 i/\v=k0 i t)\/(∃ x t,k=gv x/\v=gX x t)
 | .inl i,v,h=>by
  obtain⟨t,e⟩:=Value.isInt_shape (k:=i) (v:=v) h
  exact .inl ⟨i,t,rfl,e⟩
 | .inr x,v,h=>by
  obtain⟨t,e⟩:=kG (x:=x) (v:=v) h
  exact .inr ⟨x,t,rfl,e⟩
theorem Ur (i:Int) (t:Tok):K7 (.inl i) (.int i t)=true:=by simp [K7,ma]
theorem Us (x:Str) (t:Tok):K7 (.inr x) (.str x t)=true:=by simp [K7,gJ]
theorem as9 (a b:Int):decide ((i4 a:Key)=i4 b)=(a==b):=by
 by_cases e:a=b
 ·subst e;simp
 ·have h:¬ (i4 a:Key)=i4 b:=fun q=>e (Sum.inl.inj q)
  rw [decide_eq_false h]
  exact (beq_eq_false_iff_ne.mpr e).symm
theorem at2 (a b:Str):decide ((gv a:Key)=gv b)=decide (a=b):=by
 by_cases e:a=b
 ·subst e;simp
 ·have h:¬ (gv a:Key)=gv b:=fun q=>e (Sum.inr.inj q)
  rw [decide_eq_false h,decide_eq_false e]
theorem at0 (a:Int) (b:Str):decide ((i4 a:Key)=gv b)=false:=decide_eq_false (fun q=>nomatch q)
theorem at1 (a:Str) (b:Int):decide ((gv a:Key)=i4 b)=false:=decide_eq_false (fun q=>nomatch q)
noncomputable def A0 (prog:aS) (w:bB):PySem.KeyKind prog w Key where
 is:=K7
 hash:=a60 w
 inj:=fun v a b ha hb=>by
  rcases Au ha with ⟨i,t,rfl,rfl⟩|⟨x,t,rfl,rfl⟩
  ·rcases Au hb with ⟨j,u,rfl,e⟩|⟨y,u,rfl,e⟩
   ·injection e with e1 _;rw [e1]
   ·exact nomatch e
  ·rcases Au hb with ⟨j,u,rfl,e⟩|⟨y,u,rfl,e⟩
   ·exact nomatch e
   ·injection e with e1 _;rw [e1]
 byValue:=fun k v h=>by
  rcases Au h with ⟨i,t,rfl,rfl⟩|⟨x,t,rfl,rfl⟩ <;> rfl
 pyHash:=fun hv h=>by
  rcases Au hv with ⟨i,t,rfl,rfl⟩|⟨x,t,rfl,rfl⟩
  ·exact wpAny_pyHash_int h
  ·exact wpAny_pyHash_str h
 eqBool:=fun hu hv h=>by
  rcases Au hu with ⟨i,t,rfl,rfl⟩|⟨x,t,rfl,rfl⟩
  ·rcases Au hv with ⟨j,u,rfl,rfl⟩|⟨y,u,rfl,rfl⟩
   ·rw [as9] at h;exact wpAny_eqBool_int h
   ·rw [at0] at h;exact kY i t y u _ _ _ _ h
  ·rcases Au hv with ⟨j,u,rfl,rfl⟩|⟨y,u,rfl,rfl⟩
   ·rw [at1] at h;exact kZ x t j u _ _ _ _ h
   ·rw [at2] at h;exact wpAny_eqBool_str h
 «strs»:=fun k x t v h=>by
  rcases Au h with ⟨i,u,rfl,e⟩|⟨y,u,rfl,e⟩
  ·exact nomatch e
  ·injection e with e1 _
   subst e1
   cases v <;> rfl
theorem N9 (prog:aS) (w:bB) (i:Int) (t:Tok):(A0 prog w).is (.inl i) (.int i t)=true:=Ur i t
theorem Oa (prog:aS) (w:bB) (x:Str) (t:Tok):(A0 prog w).is (.inr x) (.str x t)=true:=Us x t
inductive V where
 | non|bl (b:Bool)|int (i:Int)|str (x:Str)|byt (b:Array UInt8)|stk (x:Str) (n:Nat) (ex:Bool)|ref (a:Addr)|ty (n:String)
 deriving DecidableEq
noncomputable def RelV:V->ah->Prop
 | .non,u=>u=bw
 | .bl b,u=>u=gO b
 | .int i,u=>∃ t,u=k0 i t
 | .str x,u=>∃ t,u=gX x t
 | .byt b,u=>∃ t,u=Value.bytes b t
 | .stk x n ex,u=>∃ t,u=gX x t/\(if ex=true then t=n else n<=t)
 | .ref a,u=>u=bG a
 | .ty n,u=>u=fC n
noncomputable def V.pl:V->Bool
 | .stk _ _ _=>false
 | _=>true
noncomputable abbrev Vals:List V->List ah->Prop:=gC RelV
theorem Vals.length {xs:List V} {us:List ah} (r:Vals xs us):xs.length=us.length:=iW r
theorem Vals.get:∀ {xs:List V} {us:List ah} {i:Nat} {x:V},Vals xs us->xs[i]? = some x -> ∃ u,us[i]? = some u/\RelV x u
 | _,_,_,_,.nil,e=>by simp at e
 | _,_,0,_,.cons r _,e=>by simp at e;subst e;exact⟨_,rfl,r⟩
 | _,_,i+1,x,.cons _ t,e=>by
  obtain⟨u,h1,h2⟩:=Vals.get (i:=i) (x:=x) t (by simpa using e)
  exact⟨u,by simpa using h1,h2⟩
theorem Vals.set {x:V} {u:ah} (r:RelV x u):∀ {xs:List V} {us:List ah} (i:Nat),Vals xs us->Vals (xs.set i x) (us.set i u)
 | _,_,_,.nil=>.nil
 | _,_,0,.cons _ t=>.cons r t
 | _,_,i+1,.cons q t=>.cons q (Vals.set r i t)
theorem Vals.append:∀ {xs ys:List V} {us ws:List ah},Vals xs us->Vals ys ws->Vals (xs++ys) (us++ws)
 | _,_,_,_,.nil,s=>s
 | _,_,_,_,.cons r t,s=>.cons r (Vals.append t s)
theorem Vals.take:∀ {xs:List V} {us:List ah} (n:Nat),Vals xs us->Vals (xs.take n) (us.take n)
 | _,_,0,_=>.nil
 | _,_,_+1,.nil=>.nil
 | _,_,n+1,.cons r t=>.cons r (Vals.take n t)
theorem Vals.drop:∀ {xs:List V} {us:List ah} (n:Nat),Vals xs us->Vals (xs.drop n) (us.drop n)
 | _,_,0,r=>r
 | _,_,_+1,.nil=>.nil
 | _,_,n+1,.cons _ t=>Vals.drop n t
noncomputable def RelO:Option V->Option ah->Prop
 | some v,some u=>RelV v u
 | none,none=>True
 | _,_=>False
noncomputable def KV {κ:Type}:List (κ×V)->List (κ×ah)->Prop:=gC fun (p:κ×V) (q:κ×ah)=>p.1=q.1/\RelV p.2 q.2
noncomputable def kV:Key->V
 | .inl i=>.int i
 | .inr x=>.str x
noncomputable def Bu:V->Bool
 | .non=>true
 | .bl _=>true
 | .int _=>true
 | .str _=>true
 | _=>false
noncomputable def eqV:V->V->Bool
 | .non,.non=>true
 | .bl a,.bl b=>a==b
 | .bl a,.int b=>(if a then 1 else 0)==b
 | .int a,.bl b=>a==(if b then 1 else 0)
 | .int a,.int b=>a==b
 | .str a,.str b=>a==b
 | _,_=>false
theorem Me {A:a_} {s:al} {y x:V} {u v:ah} (ry:RelV y u) (rx:RelV x v) (fy:Bu y=true) (fx:Bu x=true):bq A s u v (eqV y x):=by
 cases y with
 | non=>
  cases ry
  cases x with
  | non=>cases rx;exact jS _
  | bl b=>cases rx;exact SeqAt.EqAt.none_bool b
  | int b=>obtain⟨t,rfl⟩:=rx;exact SeqAt.EqAt.none_int b t
  | str b=>obtain⟨t,rfl⟩:=rx;exact SeqAt.EqAt.none_str b t
  | _=>exact absurd (show false=true from fx) au
 | bl a=>
  cases ry
  cases x with
  | non=>cases rx;exact SeqAt.EqAt.bool_none a
  | bl b=>cases rx;exact SeqAt.EqAt.bool_bool a b
  | int b=>obtain⟨t,rfl⟩:=rx;exact SeqAt.EqAt.bool_int a b t
  | str b=>obtain⟨t,rfl⟩:=rx;exact SeqAt.EqAt.bool_str a b t
  | _=>exact absurd (show false=true from fx) au
 | int a=>
  obtain⟨t',rfl⟩:=ry
  cases x with
  | non=>cases rx;exact SeqAt.EqAt.int_none a t'
  | bl b=>cases rx;exact SeqAt.EqAt.int_bool a t' b
  | int b=>obtain⟨t,rfl⟩:=rx;exact SeqAt.EqAt.int_int a t' b t
  | str b=>obtain⟨t,rfl⟩:=rx;exact kY a t' b t
  | _=>exact absurd (show false=true from fx) au
 | str a=>
  obtain⟨t',rfl⟩:=ry
  cases x with
  | non=>cases rx;exact SeqAt.EqAt.str_none a t'
  | bl b=>cases rx;exact SeqAt.EqAt.str_bool a t' b
  | int b=>obtain⟨t,rfl⟩:=rx;exact kZ a t' b t
  | str b=>obtain⟨t,rfl⟩:=rx;exact SeqAt.EqAt.str_str a t' b t
  | _=>exact absurd (show false=true from fx) au
 | _=>exact absurd (show false=true from fy) au
inductive TK where
 | at_ (k:Key)
 | tup (l:List TK)
noncomputable instance:DecidableEq TK:=fun _ _=>Classical.propDecidable _
mutual
noncomputable def TkIs (P:aS) (w:bB) (h:Heap):TK->ah->Prop
 | .at_ k,v=>(A0 P w).is k v=true
 | .tup l,v=>∃ a items,v=.ref a/\kC h a items/\TksAre P w h l items.toList
noncomputable def TksAre (P:aS) (w:bB) (h:Heap):List TK->List ah->Prop
 | [],vs=>vs=[]
 | k::ks,vs=>∃ v r,vs=v::r/\TkIs P w h k v/\TksAre P w h ks r
end
mutual
noncomputable def E0 (w:bB):TK->Int
 | .at_ k=>a60 w k
 | .tup l=>reduceHash (cb (A7 w l))
noncomputable def A7 (w:bB):List TK->List Int
 | []=>[]
 | k::ks=>E0 w k::A7 w ks
end
mutual
noncomputable def Cv:TK->Nat
 | .at_ _=>1
 | .tup l=>Bn l+1
noncomputable def Bn:List TK->Nat
 | []=>0
 | k::ks=>Cv k+Bn ks
end
mutual
noncomputable def Ap:TK->Nat
 | .at_ _=>0
 | .tup l=>Bz l+1
noncomputable def Bz:List TK->Nat
 | []=>0
 | k::ks=>Nat.max (Ap k) (Bz ks)
end
theorem Ed:∀ {l:List TK} {k:TK},k∈l->Ap k<=Bz l
 | [],_,h=>by cases h
 | x::l,k,h=>by
  unfold Bz
  rcases List.mem_cons.mp h with rfl|h
  ·exact jI _ _
  ·exact aT (Ed h) (jf _ _)
theorem Ge (w:bB):∀ (a b:List TK),A7 w (a++b)=A7 w a++A7 w b
 | [],_=>by unfold A7;rfl
 | x::a,b=>by
  show E0 w x::A7 w (a++b)=E0 w x::(A7 w a++A7 w b)
  rw [Ge w a b]
theorem Gc:∀ (a b:List TK),Bn (a++b)=Bn a+Bn b
 | [],_=>by show Bn _=0+_;rw [cL];rfl
 | x::a,b=>by
  show Cv x+Bn (a++b)=Cv x+Bn a+Bn b
  rw [Gc a b,gH]
section
variable {P:aS} {w:bB}
theorem Vw (k:TK):∀ {A:a_} {E:ah->al->Prop} {s:al} {v:ah} {Q:Int->al->Prop},A.units+Ap k<cLine->TkIs P w s.heap k v->Q (E0 w k) { s with toks:=s.toks+Cv k }->aJ (model P w) A (pyHash v) Q E s:=by
 refine TK.rec (motive_1:=fun k=>∀ {A:a_} {E:ah->al->Prop} {s:al} {v:ah} {Q:Int->al->Prop},A.units+Ap k<cLine->TkIs P w s.heap k v->Q (E0 w k) { s with toks:=s.toks+Cv k }->aJ (model P w) A (pyHash v) Q E s)
  (motive_2:=fun l=>∀ k∈l,∀ {A:a_} {E:ah->al->Prop} {s:al} {v:ah} {Q:Int->al->Prop},A.units+Ap k<cLine->TkIs P w s.heap k v->Q (E0 w k) { s with toks:=s.toks+Cv k }->aJ (model P w) A (pyHash v) Q E s)
  ?_ ?_ ?_ ?_ k
 ·intro k A E s v Q _ hk h
  unfold TkIs at hk
  exact (A0 P w).pyHash hk h
 ·intro l ih A E s v Q hu hk h
  unfold TkIs at hk
  obtain⟨a,items,rfl,ht,hi⟩:=hk
  have hT:=ht.typeIs
  obtain⟨o,ho,hc,n,hd⟩:=id ht
  have hu:A.units+(Bz l+1)<cLine:=hu
  unfold pyHash
  first|unfold pyHashByItsType|skip
  first|refine ag (wpAny_cRoomFor_or (.inr (by omega)) ?_)|skip
  refine ag (jY hT F.slot_tuple_hash.lookup ?_)
  show aJ _ _ (if (some (Value.builtin "tuple.__hash__")==some bw)=true then _ else _) Q E s
  rw [if_neg (by rw [beq_builtin_none];exact au)]
  refine ag (jY hT F.slot_tuple_hash.lookup ?_)
  show aJ _ _ (callSpecialIfBoundUnlessNone? (.ref a) "__hash__" _ >>= _) Q E s
  refine ag (wpAny_callSpecialIfBoundUnlessNone?_slot hT fV (cq fV hT F.entry_tuple_hash ?_ (F.args_tuple_hash_1 _)))
  show aJ _ _ (e9 (.ref a) >>= _) _ _ s
  refine ag (wpAny_tupleItemsOf ho hd ?_)
  refine ag ?_
  rw [<- hX]
  refine ji _
   (fun rest (b:Array Int) s'=>∃ done left,l=done++left/\TksAre P w s.heap left rest/\b.toList=A7 w done/\s'={ s with toks:=s.toks+Bn done })
   _ ?_ ?_ _ _ ⟨[],l,rfl,hi,rfl,rfl⟩
  ·rintro x rest b s' ⟨done,left,rfl,hl,hb,rfl⟩
   cases left with
   | nil=>unfold TksAre at hl;cases hl
   | cons k ks=>
    unfold TksAre at hl
    obtain⟨v,r,e,h1,hl'⟩:=hl
    cases e
    have hm:k∈done++k::ks:=aR _ aQ
    have dk:=Ed hm
    have dr:Bn (done++[k])=Bn done+Cv k:=by rw [Gc];show _+(Cv k+0)=_;omega
    have hh:A7 w (done++[k])=A7 w done++[E0 w k]:=by rw [Ge];rfl
    refine ag (ih k hm (by first|omega|(show A.units+1+Ap k<cLine;omega)) h1 ?_)
    first
     | exact ar ⟨done++[k],ks,by simp,hl',by rw [hh];simp [hb],by rw [dr];simp [gH]⟩
     | exact ag (ar (ar ⟨done++[k],ks,by simp,hl',by rw [hh];simp [hb],by rw [dr];simp [gH]⟩))
  ·rintro b s' ⟨done,left,rfl,hl,hb,rfl⟩
   cases left with
   | cons k ks=>unfold TksAre at hl;obtain⟨v,r,e,_⟩:=hl;cases e
   | nil=>
    rw [dI] at h
    show aJ _ _ (retInt (cb b.toList)) _ _ _
    rw [hb]
    refine wpAny_ret_mkInt ?_
    show aJ _ _ (if (decide (-(2:Int) ^ 63<=cb (A7 w done))&&decide (cb (A7 w done)<2 ^ 63))=true then _ else _) Q E _
    have h:Q (reduceHash (cb (A7 w done))) { s with toks:=s.toks+(Bn done+1) }:=h
    unfold reduceHash at h
    by_cases hr:(decide (-(2:Int) ^ 63<=cb (A7 w done))&&decide (cb (A7 w done)<2 ^ 63))=true
    ·rw [if_pos hr]
     rw [if_pos hr] at h
     exact ar (by simpa [gH] using h)
    ·rw [if_neg hr]
     rw [if_neg hr] at h
     exact ag (lC (ar (by simpa [gH] using h)))
 ·exact fun k h=>by cases h
 ·intro k l h1 h2 x hx
  rcases List.mem_cons.mp hx with rfl|hx
  ·exact h1
  ·exact h2 x hx
theorem TkIs.inj {h:Heap} (x:TK):∀ {y:TK} {v:ah},TkIs P w h x v->TkIs P w h y v->x=y:=by
 refine TK.rec (motive_1:=fun x=>∀ {y:TK} {v:ah},TkIs P w h x v->TkIs P w h y v->x=y) (motive_2:=fun l=>∀ {l':List TK} {vs:List ah},TksAre P w h l vs->TksAre P w h l' vs->l=l') ?_ ?_ ?_ ?_ x
 ·intro k y v h1 h2
  unfold TkIs at h1
  cases y with
  | at_ k'=>unfold TkIs at h2;rw [(A0 P w).inj v k k' h1 h2]
  | tup l=>
   unfold TkIs at h2
   obtain⟨a,its,rfl,_⟩:=h2
   rcases Au h1 with ⟨i,t,_,e⟩|⟨z,t,_,e⟩ <;> cases e
 ·intro l ih y v h1 h2
  unfold TkIs at h1
  obtain⟨a,its,rfl,t1,i1⟩:=h1
  cases y with
  | at_ k'=>
   unfold TkIs at h2
   rcases Au h2 with ⟨i,t,_,e⟩|⟨z,t,_,e⟩ <;> cases e
  | tup l'=>
   unfold TkIs at h2
   obtain⟨b,its',e,t2,i2⟩:=h2
   cases e
   obtain⟨o,ho,_,n,hd⟩:=t1
   obtain⟨o',ho',_,n',hd'⟩:=t2
   rw [ho] at ho'
   cases ho'
   rw [hd] at hd'
   cases hd'
   rw [ih i1 i2]
 ·intro l' vs h1 h2
  unfold TksAre at h1
  subst h1
  cases l' with
  | nil=>rfl
  | cons k r=>unfold TksAre at h2;obtain⟨v,r',e,_⟩:=h2;cases e
 ·intro k l ih1 ih2 l' vs h1 h2
  unfold TksAre at h1
  obtain⟨v,r,rfl,q1,q2⟩:=h1
  cases l' with
  | nil=>unfold TksAre at h2;cases h2
  | cons k' l'=>
   unfold TksAre at h2
   obtain⟨v',r',e,q3,q4⟩:=h2
   cases e
   rw [ih1 q1 q3,ih2 q2 q4]
theorem TkIs.up {h h':Heap} (k:∀ a its,kC h a its->kC h' a its) (x:TK):∀ {v:ah},TkIs P w h x v->TkIs P w h' x v:=by
 refine TK.rec (motive_1:=fun x=>∀ {v:ah},TkIs P w h x v->TkIs P w h' x v) (motive_2:=fun l=>∀ {vs:List ah},TksAre P w h l vs->TksAre P w h' l vs) ?_ ?_ ?_ ?_ x
 ·intro k v q;unfold TkIs at q ⊢;exact q
 ·intro l ih v q
  unfold TkIs at q ⊢
  obtain⟨a,its,e,t,i⟩:=q
  exact⟨a,its,e,k a its t,ih i⟩
 ·intro vs q;unfold TksAre at q ⊢;exact q
 ·intro x l h1 h2 vs q
  unfold TksAre at q ⊢
  obtain⟨v,r,e,q1,q2⟩:=q
  exact⟨v,r,e,h1 q1,h2 q2⟩
theorem TksAre.len {h:Heap}:∀ {l:List TK} {vs:List ah},TksAre P w h l vs->vs.length=l.length
 | [],vs,q=>by unfold TksAre at q;rw [q];rfl
 | k::l,vs,q=>by
  unfold TksAre at q
  obtain⟨v,r,rfl,_,q2⟩:=q
  rw [aK,aK,TksAre.len q2]
theorem TksAre.get {h:Heap}:∀ {l:List TK} {vs:List ah} {j:Nat} {v:ah},TksAre P w h l vs->vs[j]? = some v -> ∃ k,l[j]? = some k/\TkIs P w h k v
 | [],vs,j,v,q,e=>by unfold TksAre at q;rw [q] at e;simp at e
 | k::l,vs,j,v,q,e=>by
  unfold TksAre at q
  obtain⟨v',r,rfl,q1,q2⟩:=q
  cases j with
  | zero=>
   have:v'=v:=by simpa using e
   exact⟨k,rfl,this▸q1⟩
  | succ j=>
   obtain⟨k',e1,e2⟩:=TksAre.get q2 (show r[j]? = some v by simpa using e)
   exact⟨k',by simpa using e1,e2⟩
theorem Ml {k:Key} {v:ah} (h:(A0 P w).is k v=true):RelV (kV k) v:=by
 rcases Au h with ⟨i,t,rfl,rfl⟩|⟨x,t,rfl,rfl⟩ <;> exact⟨t,rfl⟩
theorem Mj (k:Key):Bu (kV k)=true:=by cases k <;> rfl
theorem W5 (k k':Key):decide (TK.at_ k=TK.at_ k')=eqV (kV k) (kV k'):=by
 have e:(TK.at_ k=TK.at_ k') ↔ k=k':=⟨fun h=>by injection h,fun h=>by rw [h]⟩
 rw [bT,decide_eq_true_iff,e]
 cases k with
 | inl i=>
  cases k' with
  | inl j=>show _ ↔ (i==j)=true;rw [beq_iff_eq];exact⟨fun h=>by injection h,fun h=>by rw [h]⟩
  | inr y=>exact⟨fun h=>(nomatch h),fun h=>absurd (show false=true from h) au⟩
 | inr x=>
  cases k' with
  | inl j=>exact⟨fun h=>(nomatch h),fun h=>absurd (show false=true from h) au⟩
  | inr y=>show _ ↔ (x==y)=true;rw [beq_iff_eq];exact⟨fun h=>by injection h,fun h=>by rw [h]⟩
theorem X2 {l l':List TK} (z:TK) (h:l.length=l'.length):decide (l=l')=(aw l.length).all fun j=>decide (l.getD j z=l'.getD j z):=by
 rw [bT,decide_eq_true_iff,bb]
 refine⟨fun e j _=>by rw [e];exact decide_eq_true rfl,fun q=>List.ext_getElem h fun i h1 h2=>?_⟩
 have:=of_decide_eq_true (q i (List.mem_range.mpr h1))
 rwa [ao,ao,af h1,af h2] at this
theorem be5 (x:TK):∀ {y:TK} {A:a_} {s:al} {u v:ah},A.units+Ap x<cLine->TkIs P w s.heap x u->TkIs P w s.heap y v->bq A s u v (decide (x=y)):=by
 refine TK.rec (motive_1:=fun x=>∀ {y:TK} {A:a_} {s:al} {u v:ah},A.units+Ap x<cLine->TkIs P w s.heap x u->TkIs P w s.heap y v->bq A s u v (decide (x=y)))
  (motive_2:=fun l=>∀ x∈l,∀ {y:TK} {A:a_} {s:al} {u v:ah},A.units+Ap x<cLine->TkIs P w s.heap x u->TkIs P w s.heap y v->bq A s u v (decide (x=y))) ?_ ?_ ?_ ?_ x
 ·intro k y A s u v hu h1 h2
  unfold TkIs at h1
  have hu:A.units+0<cLine:=hu
  cases y with
  | at_ k'=>unfold TkIs at h2;rw [W5];exact Me (Ml h1) (Ml h2) (Mj k) (Mj k')
  | tup l=>
   unfold TkIs at h2
   obtain⟨a,its,rfl,t,_⟩:=h2
   rw [decide_eq_false (fun z=>by cases z)]
   rcases Au h1 with ⟨i,t',rfl,rfl⟩|⟨x,t',rfl,rfl⟩
   ·exact .int_tuple i t' t (by omega)
   ·exact .str_tuple x t' t (by omega)
 ·intro l ih y A s u v hu h1 h2
  have hd:A.units+(Bz l+1)<cLine:=hu
  have h0:=h1
  unfold TkIs at h1
  obtain⟨a,its,rfl,t1,i1⟩:=h1
  cases y with
  | at_ k'=>
   unfold TkIs at h2
   rw [decide_eq_false (fun z=>by cases z)]
   rcases Au h2 with ⟨i,t',rfl,rfl⟩|⟨x,t',rfl,rfl⟩
   ·exact .tuple_int i t' t1 (by omega)
   ·exact .tuple_str x t' t1 (by omega)
  | tup l'=>
   have h3:=h2
   unfold TkIs at h2
   obtain⟨b,its',rfl,t2,i2⟩:=h2
   by_cases e:a=b
   ·subst e
    rw [decide_eq_true (TkIs.inj _ h0 h3)]
    exact .same _
   refine .of_refs e ?_
   have e1:=i1.len
   have e2:=i2.len
   have T:=iK (A:=A) (s:=s) (e:=fun j=>decide (l.getD j (.tup [])=l'.getD j (.tup []))) t1 t2 (by omega) fun j q1 q2=>by
    obtain⟨k1,g1,r1⟩:=i1.get (j:=j) (v:=its[j]) (by simp [q1])
    obtain⟨k2,g2,r2⟩:=i2.get (j:=j) (v:=its'[j]) (by simp [q2])
    have hm:=am g1
    have:=Ed hm
    rw [ao,ao,g1,g2]
    exact ih k1 hm (by show A.units+1+Ap k1<cLine;omega) r1 r2
   have dt:decide (TK.tup l=TK.tup l')=decide (l=l'):=by
    rw [bT,decide_eq_true_iff,decide_eq_true_iff]
    exact⟨fun h=>by injection h,fun h=>by rw [h]⟩
   rw [dt]
   have s1:its.size=l.length:=by rw [<- e1];simp
   have s2:its'.size=l'.length:=by rw [<- e2];simp
   rw [s1,s2] at T
   by_cases hl:l.length=l'.length
   ·rw [X2 (.tup []) hl]
    rw [hl,lK,beq_self_eq_true,fF] at T
    rw [hl]
    exact T
   ·rw [decide_eq_false fun z=>hl (by rw [z])]
    rw [beq_eq_false_iff_ne.mpr hl,f9] at T
    exact T
 ·exact fun k h=>by cases h
 ·intro k l h1 h2 x hx
  rcases List.mem_cons.mp hx with rfl|hx
  ·exact h1
  ·exact h2 x hx
theorem Z5 (x:TK):∀ {n:Nat} {A:a_} {E:ah->al->Prop} {s:al} {v:ah} {Q:Bool->al->Prop},Ap x<=n->TkIs P w s.heap x v->Q true s->aJ (model P w) A (mh n v) Q E s:=by
 refine TK.rec (motive_1:=fun x=>∀ {n:Nat} {A:a_} {E:ah->al->Prop} {s:al} {v:ah} {Q:Bool->al->Prop},Ap x<=n->TkIs P w s.heap x v->Q true s->aJ (model P w) A (mh n v) Q E s)
  (motive_2:=fun l=>∀ x∈l,∀ {n:Nat} {A:a_} {E:ah->al->Prop} {s:al} {v:ah} {Q:Bool->al->Prop},Ap x<=n->TkIs P w s.heap x v->Q true s->aJ (model P w) A (mh n v) Q E s) ?_ ?_ ?_ ?_ x
 ·intro k n A E s v Q _ hk h
  unfold TkIs at hk
  rw [eqIsQuiet_byValue _ ((A0 P w).byValue _ _ hk)]
  exact ar h
 ·intro l ih n A E s v Q hn hk h
  have hn:Bz l+1<=n:=hn
  obtain⟨m,rfl⟩:∃ m,n=m+1:=⟨n - 1,by omega⟩
  unfold TkIs at hk
  obtain⟨a,items,rfl,ht,hi⟩:=hk
  have hT:=ht.typeIs
  obtain⟨o,ho,hc,n',hd⟩:=id ht
  unfold mh
  refine ag (jY hT F.slot_tuple_eq.lookup ?_)
  show aJ _ _ (lz (.ref a) (.type "tuple") >>= _) _ _ s
  refine ag (jj hT isSubtype_tuple_tuple ?_)
  simp only [kJ,bH,if_false]
  refine ag (wpAny_seqItems ho hd ?_)
  refine ag ?_
  show aJ _ _ (forIn items _ _) _ _ s
  rw [<- hX]
  refine ji _ (fun rest r s'=>r.1=none/\s'=s /\ ∀ v∈rest,∃ k∈l,TkIs P w s.heap k v) _ ?_ ?_ _ _ ⟨rfl,rfl,fun v hv=>?_⟩
  ·rintro v rest r s' ⟨hr,rfl,hall⟩
   obtain⟨k,hk,q⟩:=hall v aQ
   have:=Ed hk
   refine ag (ih k hk (by omega) q ?_)
   simp only [kJ,bH,if_false]
   exact ar ⟨rfl,rfl,fun u hu'=>hall u (ay _ hu')⟩
  ·rintro⟨r1,r2⟩ s' ⟨hr,rfl,_⟩
   simp only at hr
   subst hr
   exact ar h
  ·obtain⟨j,hj⟩:=List.mem_iff_getElem?.mp hv
   obtain⟨k,e,q⟩:=hi.get hj
   exact⟨k,am e,q⟩
 ·exact fun k h=>by cases h
 ·intro k l h1 h2 x hx
  rcases List.mem_cons.mp hx with rfl|hx
  ·exact h1
  ·exact h2 x hx
noncomputable def Co (P:aS) (w:bB):HeapKind P w TK where
 is h k a:=Ap k<=8/\TkIs P w h k (.ref a)
 hash:=E0 w
 draws:=Cv
 room A:=A.units+8<cLine
 inj hx hy:=TkIs.inj _ hx.2 hy.2
 keeps x ho hd hs:=⟨x.1,x.2.up (fun a its ⟨o',h1,h2,n,h3⟩=>⟨o',(hs.2 a (by
  rintro rfl
  rw [ho] at h1
  cases h1
  rw [hd] at h3
  cases h3)).trans h1,h2,n,h3⟩) _⟩
 pyHash hu hk h:=Vw _ (by have:=hk.1;omega) hk.2 h
 eqBool hu hx hy h:=be5 _ (by have:=hx.1;omega) hx.2 hy.2 _ _ _ _ h
 quiet hk h:=Z5 _ hk.1 hk.2 h
end
inductive HO where
 | lst (xs:List V)
 | tup (xs:List V)
 | dK (kvs:List (Key×V))|dT (kvs:List (TK×V))
 | set (S:Int->Bool) (n:Nat)
 | ins (C dx:Addr) (fs:List (Str×V))
 | own (x:Addr)
 | xd (fs:List (Str×V))
 | met (f x:Addr)
 | rng (lo hi:Int)
 | frz (o:Obj) (u:HO)
 | tbl (ps:Array ah)
 | ext (φ:Heap->Prop)
noncomputable abbrev Hp:=Addr->Option HO
noncomputable def upd (H:Hp) (a:Addr) (o:HO):Hp:=fun b=>if b=a then some o else H b
theorem Aa {H:Hp} {a:Addr} {o:HO}:upd H a o a=some o:=by unfold upd;rw [if_pos rfl]
theorem Ad {H:Hp} {a b:Addr} {o:HO} (h:b≠a):upd H a o b=H b:=by unfold upd;rw [if_neg h]
theorem a62 {H:Hp} {a b:Addr} {o u:HO} (h:H a=some o) (h':H b=some u) (d:o≠u):a≠b:=by
 intro e;subst e;rw [h] at h';exact d (av h')
theorem Ai {H:Hp} {a b:Addr} {o:HO} (h:H a=some o) (h':H b=none):a≠b:=by
 intro e;subst e;rw [h] at h';cases h'
mutual
noncomputable def TkAt (H:Hp):TK->V->Prop
 | .at_ k,v=>v=kV k
 | .tup l,v=>∃ a xs,v=.ref a/\H a=some (.tup xs)/\As H l xs
noncomputable def As (H:Hp):List TK->List V->Prop
 | [],vs=>vs=[]
 | k::ks,vs=>∃ v r,vs=v::r/\TkAt H k v/\As H ks r
end
theorem TkAt.up {H H':Hp} (h:∀ b ys,H b=some (.tup ys)->H' b=some (.tup ys)) (x:TK):∀ {v:V},TkAt H x v->TkAt H' x v:=by
 refine TK.rec (motive_1:=fun x=>∀ {v:V},TkAt H x v->TkAt H' x v) (motive_2:=fun l=>∀ {vs:List V},As H l vs->As H' l vs) ?_ ?_ ?_ ?_ x
 ·intro k v q;unfold TkAt at q ⊢;exact q
 ·intro l ih v q
  unfold TkAt at q ⊢
  obtain⟨a,xs,e,t,i⟩:=q
  exact⟨a,xs,e,h _ _ t,ih i⟩
 ·intro vs q;unfold As at q ⊢;exact q
 ·intro x l h1 h2 vs q
  unfold As at q ⊢
  obtain⟨v,r,e,q1,q2⟩:=q
  exact⟨v,r,e,h1 q1,h2 q2⟩
section
variable (P:aS) (w:bB)
noncomputable def ObjOk (H:Hp) (h:Heap) (a:Addr):HO->Prop
 | .lst xs=>xs.length<=sizeLine /\ ∃ (its:List ah) (n:Nat),Vals xs its/\h.get? a=some { cls:=.type "list", data:=.seq its.toArray n }
 | .tup xs=>xs.length<=sizeLine /\ ∃ its:List ah,Vals xs its/\kC h a its.toArray
 | .dK kvs=>kvs.length<=sizeLine/\(a==cI)=false /\ ∃ vs,KV kvs vs/\h.DictOf (A0 P w) a vs
 | .dT kvs=>kvs.length<=sizeLine/\(a==cI)=false /\ ∃ xs:List (TK×Addr×ah),
   gC (fun (p:TK×V) (q:TK×Addr×ah)=>p.1=q.1/\(Ap p.1<=8/\TkAt H p.1 (.ref q.2.1))/\RelV p.2 q.2.2) kvs xs /\
   ∃ o es ep,h.get? a=some o/\o.ExactDict/\o.data=.dict es ep/\es.toList=xs.map (entryOfKey (Co P w))/\(xs.map (·.1)).Nodup
 | .set S n=>h.SetOf (intKind P w) a S n
 | .ins C dx fs=>H dx=some (.own a)/\fs.length<=1000/\dx≠a/\h.get? a=some (bO C dx) /\
   ∃ mA,h.Ns1 dx mA/\(∀ f,RelO (fs.lookup f) (mA f))/\jR mA (fs.map (·.1))
 | .own _=>∃ o,h.get? a=some o
 | .xd fs=>∃ mA,h.Ns1 a mA /\ ∀ f,RelO (fs.lookup f) (mA f)
 | .rng lo hi=>∃ t u v,h.get? a=some { cls:=.type "range", data:=.fields #[.int lo t,.int hi u,.int 1 v] }
 | .frz o u=>h.get? a=some o/\ObjOk H h a u
 | .tbl ps=>h.get? a=some { cls:=.none,data:=.fields ps }
 | .met f x=>h.get? a=some (iJ (.ref f) (.ref x))
 | .ext φ=>φ h/\(∃ o,h.get? a=some o) /\ ∀ h1 h2:Heap,φ h1->(∀ o,h1.get? a=some o->h2.get? a=some o)->φ h2
noncomputable def HOk (H:Hp) (h:Heap):Prop:=∀ a o,H a=some o->ObjOk P w H h a o
end
section
variable {P:aS} {w:bB} {H H':Hp} {h h':Heap} {a:Addr} {o:HO}
theorem ObjOk.lt (x:ObjOk P w H h a o):a<h.objs.size:=by
 cases o with
 | lst xs=>obtain⟨_,_,_,_,e⟩:=x;exact aC e
 | tup xs=>obtain⟨_,_,_,p⟩:=x;exact p.lt
 | dK kvs=>obtain⟨_,_,_,_,o,_,_,e,_⟩:=x;exact aC e
 | dT kvs=>obtain⟨_,_,_,_,o,_,_,e,_⟩:=x;exact aC e
 | set S n=>obtain⟨o,_,_,_,e,_⟩:=x;exact aC e
 | ins C dx fs=>obtain⟨_,_,_,e,_⟩:=x;exact aC e
 | own y=>obtain⟨_,e⟩:=x;exact aC e
 | xd fs=>obtain⟨_,⟨_,_,_,e,_⟩,_⟩:=x;exact aC e
 | rng lo hi=>obtain⟨_,_,_,e⟩:=x;exact aC e
 | frz ob u=>obtain⟨e,_⟩:=x;exact aC e
 | tbl ps=>exact aC (show h.get? a=some _ from x)
 | met f y=>exact aC (show h.get? a=some _ from x)
 | ext φ=>obtain⟨_,⟨_,e⟩,_⟩:=x;exact aC e
theorem Paired.mapP {α β:Type} {F G:α->β->Prop}:∀ {l₁:List α} {l₂:List β},gC F l₁ l₂->(∀ a b,F a b->G a b)->gC G l₁ l₂
 | _,_,.nil,_=>.nil
 | _,_,.cons r t,f=>.cons (f _ _ r) (Paired.mapP t f)
theorem ObjOk.stay (x:ObjOk P w H h a o) (k:∀ b u,(b=a\/H b=some (.own a))->h.get? b=some u->h'.get? b=some u)
  (ho:∀ b,H b=some (.own a)->H' b=some (.own a)) (ht:∀ b xs,H b=some (.tup xs)->H' b=some (.tup xs)):ObjOk P w H' h' a o:=by
 induction o with
 | lst xs=>obtain⟨z,its,n,r,e⟩:=x;exact⟨z,its,n,r,k _ _ (.inl rfl) e⟩
 | tup xs=>obtain⟨z,its,r,ob,e,c⟩:=x;exact⟨z,its,r,ob,k _ _ (.inl rfl) e,c⟩
 | dK kvs=>obtain⟨z,y,vs,r,ob,es,ep,e,c⟩:=x;exact⟨z,y,vs,r,ob,es,ep,k _ _ (.inl rfl) e,c⟩
 | dT kvs=>
  obtain⟨z,y,xs,r,ob,es,ep,e,c⟩:=x
  exact⟨z,y,xs,Paired.mapP r fun p q z=>⟨z.1,⟨z.2.1.1,z.2.1.2.up ht _⟩,z.2.2⟩,ob,es,ep,k _ _ (.inl rfl) e,c⟩
 | set S n=>obtain⟨ob,es,ep,t,e,c⟩:=x;exact⟨ob,es,ep,t,k _ _ (.inl rfl) e,c⟩
 | ins C dx fs=>
  obtain⟨d,z,ne,e,mA,⟨od,es,ep,e2,c⟩,r⟩:=x
  exact⟨ho _ d,z,ne,k _ _ (.inl rfl) e,mA,⟨od,es,ep,k _ _ (.inr d) e2,c⟩,r⟩
 | own y=>obtain⟨ob,e⟩:=x;exact⟨ob,k _ _ (.inl rfl) e⟩
 | xd fs=>obtain⟨mA,⟨od,es,ep,e,c⟩,r⟩:=x;exact⟨mA,⟨od,es,ep,k _ _ (.inl rfl) e,c⟩,r⟩
 | rng lo hi=>obtain⟨t,u,v,e⟩:=x;exact⟨t,u,v,k _ _ (.inl rfl) e⟩
 | frz ob u ih=>obtain⟨e,q⟩:=x;exact⟨k _ _ (.inl rfl) e,ih q⟩
 | tbl ps=>
  have e:h.get? a=some { cls:=.none,data:=.fields ps }:=x
  show h'.get? a=some { cls:=.none,data:=.fields ps }
  exact k a _ (.inl rfl) e
 | met f y=>
  have e:h.get? a=some (iJ (.ref f) (.ref y)):=x
  show h'.get? a=some (iJ (.ref f) (.ref y))
  exact k a _ (.inl rfl) e
 | ext φ=>obtain⟨p,⟨o,e⟩,st⟩:=x;exact⟨st _ _ p fun o q=>k _ _ (.inl rfl) q,⟨o,k _ _ (.inl rfl) e⟩,st⟩
theorem HOk.lt (x:HOk P w H h) (e:H a=some o):a<h.objs.size:=(x a o e).lt
theorem HOk.fresh (x:HOk P w H h) (e:h.objs.size<=a):H a=none:=by
 cases q:H a with
 | none=>rfl
 | some u=>exact absurd (aD (x.lt q) e) (eV _)
theorem HOk.kept (x:HOk P w H h) (k:∀ b u,h.get? b=some u->h'.get? b=some u):HOk P w H h':=fun a o e=>
 (x a o e).stay (fun b u _ q=>k b u q) (fun _ q=>q) fun _ _ q=>q
theorem HOk.laid (x:HOk P w H h) (k:∀ b u,h.get? b=some u->h'.get? b=some u) (hp:h.objs.size<=a) (new:ObjOk P w (upd H a o) h' a o):HOk P w (upd H a o) h':=fun b u e=>by
 have hn:=x.fresh hp
 by_cases hb:b=a
 ·subst hb;rw [Aa] at e;cases e;exact new
 ·rw [Ad hb] at e
  exact (x b u e).stay (fun c v _ q=>k c v q) (fun c q=>by rw [Ad (Ai q hn)];exact q) fun c xs q=>by rw [Ad (Ai q hn)];exact q
end
noncomputable def Rd (H:Hp) (a:Addr) (u:HO):Prop:=H a=some u \/ ∃ o,H a=some (.frz o u)
theorem Rd.ok {P:aS} {w:bB} {H:Hp} {h:Heap} {a:Addr} {u:HO} (r:Rd H a u) (x:HOk P w H h):ObjOk P w H h a u:=by
 rcases r with r|⟨o,r⟩
 ·exact x a u r
 ·obtain⟨_,q⟩:=x a _ r
  exact q
noncomputable def Mut:Option HO->Prop
 | some (.lst _)=>True
 | some (.dK _)=>True
 | some (.dT _)=>True
 | some (.set _ _)=>True
 | some (.ins _ _ _)=>True
 | some (.ext _)=>True
 | _=>False
section
variable {P:aS} {w:bB} {H:Hp} {h h':Heap} {x e:Addr} {o':HO}
theorem HOk.write (ok:HOk P w H h) (mu:Mut (H x)) (he:e=x\/H e=some (.own x)) (k:∀ b u,b≠e->h.get? b=some u->h'.get? b=some u) (heo:∃ u,h'.get? e=some u)
  (new:ObjOk P w (upd H x o') h' x o'):HOk P w (upd H x o') h':=fun b u q=>by
 have nown:∀ c y,H c=some (.own y)->c≠x:=fun c y r z=>by subst z;rw [r] at mu;exact mu
 have ntup:∀ c xs,H c=some (.tup xs)->c≠x:=fun c xs r z=>by subst z;rw [r] at mu;exact mu
 by_cases hb:b=x
 ·subst hb;rw [Aa] at q;cases q;exact new
 ·rw [Ad hb] at q
  by_cases hbe:b=e
  ·have q':H b=some (.own x):=by
    rcases he with z|z
    ·exact absurd (hbe.trans z) hb
    ·rw [hbe];exact z
   rw [q] at q';cases q'
   obtain⟨v,hv⟩:=heo
   exact⟨v,by rw [hbe];exact hv⟩
  ·refine (ok b u q).stay (fun c v hc r=>k c v ?_ r) (fun c r=>by rw [Ad (nown c b r)];exact r) fun c xs r=>by rw [Ad (ntup c xs r)];exact r
   rcases hc with rfl|hc
   ·exact hbe
   ·rintro rfl
    rcases he with z|z
    ·exact nown c b hc z
    ·rw [hc] at z;cases z;exact hb rfl
end
structure Un (fs ex:List Addr) (H H':Hp) (h h':Heap):Prop where
 keep:∀ b o,h.get? b=some o->H b=none->b∉fs->b∉ex->h'.get? b=some o
 slot:∀ b o,h.get? b=some o->H b=none->b∈fs->b∉ex -> ∃ sl,h'.get? b=some { o with slots:=sl }
 free:∀ b o,h.get? b=some o->H b=none->b∉ex->H' b=none
 there:∀ b o,h.get? b=some o->b∉ex -> ∃ o',h'.get? b=some o'
 tups:∀ b xs,H b=some (.tup xs)->H' b=some (.tup xs)
 frzs:∀ b o u,H b=some (.frz o u)->H' b=some (.frz o u)
 tbls:∀ b ps,H b=some (.tbl ps) -> ∃ more,H' b=some (.tbl (ps++more))
section
variable {fs fs' ex ex':List Addr} {H H1 H2:Hp} {h h1 h2 h':Heap} {a x e:Addr} {o:HO}
theorem Un.any (u:Un fs ex H H1 h h1) {b:Addr} {ob:Obj} (q:h.get? b=some ob) (n:H b=none) (hx:b∉ex):∃ sl,h1.get? b=some { ob with slots:=sl }:=by
 by_cases hb:b∈fs
 ·exact u.slot b ob q n hb hx
 ·exact⟨ob.slots,u.keep b ob q n hb hx⟩
theorem Un.kept (k:∀ b u,h.get? b=some u->h'.get? b=some u):Un fs ex H H h h':=
 ⟨fun b ob q _ _ _=>k b ob q,fun b ob q _ _ _=>⟨ob.slots,k b ob q⟩,fun _ _ _ n _=>n,fun b ob q _=>⟨ob,k b ob q⟩,fun _ _ q=>q,fun _ _ _ q=>q,fun _ ps q=>⟨#[],by rw [q];simp⟩⟩
theorem Un.refl:Un fs ex H H h h:=Un.kept fun _ _ q=>q
theorem Un.laid (k:∀ b u,h.get? b=some u->h'.get? b=some u) (hp:h.objs.size<=a) (hn:H a=none):Un fs ex H (upd H a o) h h' where
 keep:=fun b u q _ _ _=>k b u q
 slot:=fun b u q _ _ _=>⟨u.slots,k b u q⟩
 free:=fun b u q n _=>by rw [Ad (aN (aD (aC q) hp))];exact n
 there:=fun b u q _=>⟨u,k b u q⟩
 tups:=fun b xs q=>by rw [Ad (Ai q hn)];exact q
 frzs:=fun b u xs q=>by rw [Ad (Ai q hn)];exact q
 tbls:=fun b ps q=>⟨#[],by rw [Ad (Ai q hn),q];simp⟩
theorem Un.write (mu:Mut (H x)) (he:e=x\/H e=some (.own x)) (k:∀ b u,b≠e->h.get? b=some u->h'.get? b=some u) (heo:∃ u,h'.get? e=some u):Un fs ex H (upd H x o) h h':=by
 have hx:∀ b,H b=none->b≠x:=fun b n z=>by subst z;rw [n] at mu;exact mu
 have hb:∀ b,H b=none->b≠e:=fun b n z=>by
  subst z
  rcases he with r|r
  ·exact hx b n r
  ·rw [n] at r;cases r
 have hm:∀ b u,H b=some u -> ¬ Mut (some u)->b≠x:=fun b u q nm z=>by subst z;rw [q] at mu;exact nm mu
 refine⟨fun b u q n _ _=>k b u (hb b n) q,fun b u q n _ _=>⟨u.slots,k b u (hb b n) q⟩,fun b u q n _=>by rw [Ad (hx b n)];exact n,fun b u q _=>?_,
  fun b xs q=>by rw [Ad (hm b _ q fun z=>z)];exact q,fun b u xs q=>by rw [Ad (hm b _ q fun z=>z)];exact q,fun b ps q=>⟨#[],by rw [Ad (hm b _ q fun z=>z),q];simp⟩⟩
 by_cases hbe:b=e
 ·subst hbe;exact heo
 ·exact⟨u,k b u hbe q⟩
end
noncomputable def trk (h:Heap) (H:Hp):List Addr:=(aw h.objs.size).filter fun a=>(H a).isSome
noncomputable def Mi (h:Heap) (H:Hp):Heap:=PySem.W.hideAll h (trk h H)
theorem Um (h:Heap) (H:Hp):(Mi h H).objs.size=h.objs.size:=PySem.W.hideAll_size _ _
theorem Xr {h:Heap} {H:Hp} {b:Addr} {o:Obj} (e:h.get? b=some o) (n:H b=none):(Mi h H).get? b=some o:=
 PySem.W.hideAll_get _ e fun hm=>by
  have q:(H b).isSome=true:=(List.mem_filter.mp hm).2
  rw [n] at q;simp at q
theorem ae2 {h:Heap} {H:Hp} {b:Addr} {o:Obj} (e:(Mi h H).get? b=some o):h.get? b=some o/\H b=none:=by
 have e':h.get? b=some o:=PySem.W.of_hideAll (trk h H) e
 refine⟨e',?_⟩
 cases q:H b with
 | none=>rfl
 | some x=>
  have hm:b∈trk h H:=List.mem_filter.mpr ⟨List.mem_range.mpr (aC e'),by simp [q]⟩
  have z:(Mi h H).get? b=none:=PySem.W.hideAll_none (trk h H) hm
  rw [z] at e;cases e
structure Mod (K:ac) (mg:Str->Option ah) (base:Heap):Prop where
 kin:K.In base
 glob:base.Ns mainGlobals mg
 blt:∃ mb,base.Ns iM mb /\ ∀ x:Str,x ≠ "__name__" -> mb x=cO x
 nolimit:base.NoLimit
structure Cx where
 prog:aS
 w:bB
 K:ac
 mg:Str->Option ah
 base:Heap
 A:a_
 N:List Str
 s₀:al
 H₀:Hp
 env:Env
 outer:List Env
 stack:List Env
 ex:List Addr
 fn:Str->Bool
 calm:Bool
 pn:List (Addr×Obj)
 xe:ah->al->Prop
noncomputable def frs (l:List Env):List Addr:=l.filterMap (·.frame)
noncomputable abbrev Cx.fs (X:Cx):List Addr:=frs X.outer
noncomputable def Vis (sc:Scope) (x:Str):Prop:=sc.names.lookup x=some .local\/sc.names.lookup x=some .cell\/sc.names.lookup x=some .free
noncomputable def Loc (sc:Scope) (x:Str):Prop:=sc.names.lookup x=some .local\/sc.names.lookup x=some .cell
noncomputable def bf2 (env:Env) (h:Heap) (m:Str->Option ah) (x:Str) (u:ah):Prop:=
 (env.kindOf x=some .local/\m x=some u)\/((env.kindOf x=some .cell\/env.kindOf x=some .free) /\ ∃ c,env.cells.lookup x=some c/\h.IsCell c (some u))
noncomputable def Rt (_:ac) (_:Nat):Prop:=True
structure Cx.Ok (X:Cx):Prop where
 mod:Mod X.K X.mg X.base
 kind:X.env.scope.kind=.function
 glob:X.env.globals=mainGlobals
 blt:X.env.builtins=iM
 above:X.s₀.heap.objs.size<=X.env.locals
 inj:∀ x y c,X.env.cells.lookup x=some c->X.env.cells.lookup y=some c->x=y
 has:∀ x,(X.env.kindOf x=some .cell\/X.env.kindOf x=some .free) -> ∃ c,X.env.cells.lookup x=some c
 cab:∀ x c,X.fn x=true->X.env.cells.lookup x=some c->X.s₀.heap.objs.size<=c
 hd:X.calm=true->X.A.handled=none
 frames:X.A.frames=some X.stack
 stk:X.stack=X.outer\/(X.stack=X.env::X.outer/\X.env.frame=some X.env.locals)
 exf:∀ b∈X.ex,b≠X.env.locals /\ ∀ x c,X.env.cells.lookup x=some c->c≠b
 bs:∀ b o,X.base.get? b=some o->X.s₀.heap.get? b=some o/\X.H₀ b=none
 bsz:X.base.objs.size<=X.s₀.heap.objs.size
 noex:∀ b o,X.base.get? b=some o->b∉X.ex
 exfs:∀ b∈X.ex,b∉X.fs
 funs:X.s₀.heap.FunFrames X.base X.outer
 frf:∀ b∈X.fs,X.H₀ b=none
 tk:Rt X.K X.s₀.toks
structure Inv (X:Cx) (pins:List (Addr×Obj)) (σ:List (Option V)) (H:Hp) (s:al):Prop where
 ok:X.Ok
 os:s.os=X.s₀.os/\X.s₀.toks<=s.toks
 bare:kr s.gens
 base:Un X.fs X.ex X.H₀ H X.s₀.heap s.heap
 loc:∃ m,s.heap.Ns X.env.locals m /\ ∀ (i:Nat) (x:Str) (v:V),X.N[i]? = some x->σ[i]? = some (some v)->Vis X.env.scope x -> ∃ u,RelV v u/\bf2 X.env s.heap m x u
 cell:∀ x c,X.env.cells.lookup x=some c -> ∃ v,s.heap.IsCell c v
 free:H X.env.locals=none
 freeC:∀ x c,X.env.cells.lookup x=some c->H c=none
 pin:∀ p∈X.pn++pins,s.heap.get? p.1=some p.2/\H p.1=none/\p.1≠X.env.locals/\p.1∉X.fs /\ ∀ v,p.2.data≠.cell v
 hok:HOk X.prog X.w H s.heap
 len:σ.length=X.N.length
section
variable {X:Cx} {pins:List (Addr×Obj)} {σ:List (Option V)} {H H':Hp} {s:al} {h':Heap}
theorem Cx.Ok.nofr (ok:X.Ok) {b:Addr} {o:Obj} (e:X.base.get? b=some o):b∉X.fs:=fun hb=>by
 have:=(ok.funs.mem hb).1
 rw [e] at this;cases this
theorem Inv.bs (I:Inv X pins σ H s):∀ b o,X.base.get? b=some o->s.heap.get? b=some o/\H b=none:=fun b o e=>
 ⟨I.base.keep b o (I.ok.bs b o e).1 (I.ok.bs b o e).2 (I.ok.nofr e) (I.ok.noex b o e),I.base.free b o (I.ok.bs b o e).1 (I.ok.bs b o e).2 (I.ok.noex b o e)⟩
theorem Inv.bk (I:Inv X pins σ H s):∀ b o,X.base.get? b=some o->s.heap.get? b=some o:=fun b o e=>(I.bs b o e).1
theorem Inv.mod (I:Inv X pins σ H s):Mod X.K X.mg X.base:=I.ok.mod
theorem Inv.kIn (I:Inv X pins σ H s):X.K.In s.heap:=I.ok.mod.kin.keeps I.bk
theorem Inv.lt (I:Inv X pins σ H s):X.env.locals<s.heap.objs.size:=let ⟨_,hn,_⟩:=I.loc;hn.lt
theorem Inv.sz (I:Inv X pins σ H s):X.s₀.heap.objs.size<=s.heap.objs.size:=aT I.ok.above (dy I.lt)
theorem Inv.nofs (I:Inv X pins σ H s) {a:Addr} (h:s.heap.objs.size<=a):a∉X.fs:=fun hb=>by
 obtain⟨_,o,ho,_⟩:=I.ok.funs.mem hb
 exact absurd (aD (aC ho) (aT I.sz h)) (eV _)
theorem Inv.cne (I:Inv X pins σ H s):∀ x c,X.env.cells.lookup x=some c->c≠X.env.locals:=fun x c e z=>by
 obtain⟨v,o,ho,hd⟩:=I.cell x c e
 obtain⟨m,⟨o',es,ep,ho',hd',_⟩,_⟩:=I.loc
 rw [z,ho'] at ho;cases ho;rw [hd'] at hd;cases hd
theorem Inv.funs (I:Inv X pins σ H s):s.heap.FunFrames X.base X.outer:=by
 have all:∀ (l:List Env),(∀ b∈frs l,b∈X.fs)->X.s₀.heap.FunFrames X.base l->s.heap.FunFrames X.base l:=by
  intro l
  induction l with
  | nil=>intro _ _;trivial
  | cons env r ih=>
   intro hs hl
   obtain⟨hk,⟨L,o,hf,hn,ho,hd⟩,hr⟩:=hl
   have hL:L∈X.fs:=hs L (by unfold frs;rw [gR,hf];exact aQ)
   obtain⟨sl,e⟩:=I.base.slot L o ho (I.ok.frf L hL) hL fun z=>I.ok.exfs L z hL
   exact⟨hk,⟨L,_,hf,hn,e,hd⟩,ih (fun b hb=>hs b (by unfold frs;rw [gR,hf];exact ay _ hb)) hr⟩
 exact all X.outer (fun _ hb=>hb) I.ok.funs
theorem Inv.stack (I:Inv X pins σ H s):s.heap.FunFrames X.base X.stack:=by
 rcases I.ok.stk with e|⟨e,hf⟩
 ·rw [e];exact I.funs
 ·rw [e]
  obtain⟨m,hn,_⟩:=I.loc
  refine .cons (by rw [I.ok.kind];decide) hf hn ?_ I.funs
  exact Heap.get?_none_of_le (aT I.ok.bsz I.ok.above)
theorem Inv.stkSub (I:Inv X pins σ H s):∀ b∈frs X.stack,b∈X.env.locals::X.fs:=fun b hb=>by
 rcases I.ok.stk with e|⟨e,hf⟩
 ·rw [e] at hb;exact ay _ hb
 ·rw [e] at hb
  unfold frs at hb
  rw [gR,hf] at hb
  exact hb
theorem Inv.stkFree (I:Inv X pins σ H s):∀ b∈frs X.stack,H b=none:=fun b hb=>by
 rcases List.mem_cons.mp (I.stkSub b hb) with e|hb
 ·rw [e];exact I.free
 ·obtain⟨_,o,ho,_⟩:=I.ok.funs.mem hb
  exact I.base.free b o ho (I.ok.frf b hb) fun z=>I.ok.exfs b z hb
theorem Inv.step {g':Array mx} {t':Nat} {d':Drawn} {ch:List Addr} (I:Inv X pins σ H s)
  (hch:∀ b∈ch,(b∈X.ex\/X.s₀.heap.objs.size<=b)/\b≠X.env.locals/\(∀ x c,X.env.cells.lookup x=some c->c≠b) /\ ∀ p∈X.pn++pins,p.1≠b)
  (keep:∀ b o,b≠X.env.locals->b∉X.fs->b∉ch->s.heap.get? b=some o->H b=none->h'.get? b=some o)
  (slot:∀ b o,b≠X.env.locals->b∈X.fs->b∉ch->s.heap.get? b=some o->H b=none -> ∃ sl,h'.get? b=some { o with slots:=sl }) (free:∀ b o,b∉ch->s.heap.get? b=some o->H b=none->H' b=none)
  (there:∀ b o,b∉ch->s.heap.get? b=some o -> ∃ o',h'.get? b=some o')
  (tups:∀ b xs,H b=some (.tup xs)->H' b=some (.tup xs)) (frzs:∀ b o u,H b=some (.frz o u)->H' b=some (.frz o u)) (tbls:∀ b ps,H b=some (.tbl ps) -> ∃ more,H' b=some (.tbl (ps++more)))
  (ns:∀ m,s.heap.Ns X.env.locals m->h'.Ns X.env.locals m) (hok:HOk X.prog X.w H' h') (hg:kr g') (ht:s.toks<=t':=by first|exact aj _|exact be _ _|assumption|omega|(dsimp only;omega)) :
  Inv X pins σ H' { s with heap:=h',gens:=g',drawn:=d',toks:=t' }:=by
 have neL:∀ b o,X.s₀.heap.get? b=some o->b≠X.env.locals:=fun b o e=>aN (aD (aC e) I.ok.above)
 have neC:∀ b o,X.s₀.heap.get? b=some o->b∉X.ex->b∉ch:=fun b o e hx hb=>by
  rcases (hch b hb).1 with z|z
  ·exact hx z
  ·exact absurd (aD (aC e) z) (eV _)
 have cellK:∀ x c,X.env.cells.lookup x=some c -> ∀ v,s.heap.IsCell c v->h'.IsCell c v:=fun x c e v ⟨o,ho,hd⟩=>by
  have nch:c∉ch:=fun z=>(hch c z).2.2.1 x c e rfl
  by_cases hc:c∈X.fs
  ·obtain⟨sl,q⟩:=slot c o (I.cne x c e) hc nch ho (I.freeC x c e)
   exact⟨_,q,hd⟩
  ·exact⟨o,keep c o (I.cne x c e) hc nch ho (I.freeC x c e),hd⟩
 refine⟨I.ok,⟨I.os.1,aT I.os.2 ht⟩,hg,⟨fun b o e n hb hx=>?_,fun b o e n hb hx=>?_,fun b o e n hx=>?_,fun b o e hx=>?_,fun b xs e=>tups b xs (I.base.tups b xs e),fun b o xs e=>frzs b o xs (I.base.frzs b o xs e),fun b ps e=>?_⟩,?_,fun x c e=>?_,?_,fun x c e=>?_,fun p hp=>?_,hok,I.len⟩
 ·exact keep b o (neL b o e) hb (neC b o e hx) (I.base.keep b o e n hb hx) (I.base.free b o e n hx)
 ·obtain⟨sl,e1⟩:=I.base.slot b o e n hb hx
  obtain⟨sl',e2⟩:=slot b _ (neL b o e) hb (neC b o e hx) e1 (I.base.free b o e n hx)
  exact⟨sl',e2⟩
 ·obtain⟨o',e1⟩:=I.base.there b o e hx
  exact free b o' (neC b o e hx) e1 (I.base.free b o e n hx)
 ·obtain⟨o',e1⟩:=I.base.there b o e hx
  exact there b o' (neC b o e hx) e1
 ·obtain⟨m1,e1⟩:=I.base.tbls b ps e
  obtain⟨m2,e2⟩:=tbls b _ e1
  exact⟨m1++m2,by rw [e2,Array.append_assoc]⟩
 ·obtain⟨m,hn,hl⟩:=I.loc
  refine⟨m,ns m hn,fun i x v e1 e2 e3=>?_⟩
  obtain⟨u,r,l⟩:=hl i x v e1 e2 e3
  refine⟨u,r,?_⟩
  rcases l with l|⟨k,c,e,z⟩
  ·exact .inl l
  ·exact .inr ⟨k,c,e,cellK x c e _ z⟩
 ·obtain⟨v,z⟩:=I.cell x c e
  exact⟨v,cellK x c e v z⟩
 ·obtain⟨m,⟨o,_,_,ho,_⟩,_⟩:=I.loc
  exact free _ o (fun z=>(hch _ z).2.1 rfl) ho I.free
 ·obtain⟨v,o,ho,hd⟩:=I.cell x c e
  exact free c o (fun z=>(hch c z).2.2.1 x c e rfl) ho (I.freeC x c e)
 ·obtain⟨e,n,ne,nf,d⟩:=I.pin p hp
  have nch:p.1∉ch:=fun z=>(hch p.1 z).2.2.2 p hp rfl
  exact⟨keep p.1 p.2 ne nf nch e n,free p.1 p.2 nch e n,ne,nf,d⟩
theorem Inv.un {t':Nat} (I:Inv X pins σ H s) (u:Un X.fs [] H H' s.heap h') (hok:HOk X.prog X.w H' h') (ht:s.toks<=t':=by first|exact aj _|exact be _ _|assumption|omega|(dsimp only;omega)):Inv X pins σ H' { s with heap:=h',toks:=t' }:=by
 obtain⟨m,⟨o,es,ep,ho,r⟩,_⟩:=id I.loc
 obtain⟨sl,hL⟩:=u.any ho I.free (by simp)
 exact I.step (g':=s.gens) (d':=s.drawn) (ch:=[]) (fun _ z=>nomatch z) (fun b o _ hb _ e n=>u.keep b o e n hb (by simp)) (fun b o _ hb _ e n=>u.slot b o e n hb (by simp)) (fun b o _ e n=>u.free b o e n (by simp)) (fun b o _ e=>u.there b o e (by simp)) u.tups u.frzs u.tbls (fun m' hm=>by
  obtain⟨o',es',ep',ho',r'⟩:=hm
  rw [ho] at ho';cases ho'
  exact⟨_,es',ep',hL,r'⟩) hok I.bare
theorem Inv.call {g':Array mx} {t':Nat} {d':Drawn} {ch:List Addr} (I:Inv X pins σ H s) (u:Un (frs X.stack) ch H H' s.heap h') (hok:HOk X.prog X.w H' h') (hg:kr g')
  (hch:∀ b∈ch,(b∈X.ex\/X.s₀.heap.objs.size<=b)/\b≠X.env.locals/\(∀ x c,X.env.cells.lookup x=some c->c≠b) /\ ∀ p∈X.pn++pins,p.1≠b) (ht:s.toks<=t':=by first|exact aj _|exact be _ _|assumption|omega|(dsimp only;omega)) :
  Inv X pins σ H' { s with heap:=h',gens:=g',drawn:=d',toks:=t' }:=by
 obtain⟨m,⟨o,es,ep,ho,r⟩,_⟩:=id I.loc
 obtain⟨sl,hL⟩:=u.any ho I.free fun z=>(hch _ z).2.1 rfl
 exact I.step (ch:=ch) hch (fun b o hL hb hc e n=>u.keep b o e n (fun z=>(List.mem_cons.mp (I.stkSub b z)).elim hL hb) hc) (fun b o _ _ hc e n=>u.any e n hc) (fun b o hc e n=>u.free b o e n hc) (fun b o hc e=>u.there b o e hc) u.tups u.frzs u.tbls (fun m' hm=>by
  obtain⟨o',es',ep',ho',r'⟩:=hm
  rw [ho] at ho';cases ho'
  exact⟨_,es',ep',hL,r'⟩) hok hg
theorem Inv.turned {t':Nat} {it:Addr} (I:Inv X pins σ H s) (k:∀ b o,b≠it->s.heap.get? b=some o->h'.get? b=some o) (hn:H it=none) (hL:it≠X.env.locals)
  (h1:it∈X.ex\/X.s₀.heap.objs.size<=it) (h2:∀ x c,X.env.cells.lookup x=some c->c≠it) (h3:∀ p∈X.pn++pins,p.1≠it) (ht:s.toks<=t':=by first|exact aj _|exact be _ _|assumption|omega|(dsimp only;omega)):Inv X pins σ H { s with heap:=h',toks:=t' }:=by
 have nit:∀ b u,H b=some u->b≠it:=fun b u e z=>by rw [z,hn] at e;cases e
 refine I.step (g':=s.gens) (d':=s.drawn) (ch:=[it]) (fun b hb=>?_) (fun b o _ _ hc e _=>k b o (fun z=>hc (by simp [z])) e) (fun b o _ _ hc e _=>⟨o.slots,k b o (fun z=>hc (by simp [z])) e⟩) (fun _ _ _ _ n=>n)
  (fun b o hc e=>⟨o,k b o (fun z=>hc (by simp [z])) e⟩) (fun _ _ e=>e) (fun _ _ _ e=>e) (fun b ps e=>⟨#[],by rw [e];simp⟩) (fun m hm=>?_) (fun b u e=>?_) I.bare
 ·have e:b=it:=by simpa using hb
  subst e
  exact⟨h1,hL,h2,h3⟩
 ·obtain⟨o,es,ep,ho,r⟩:=hm
  exact⟨o,es,ep,k _ o (cB hL) ho,r⟩
 ·refine (I.hok b u e).stay (fun c v hc q=>k c v ?_ q) (fun _ q=>q) fun _ _ q=>q
  rcases hc with z|z
  ·rw [z];exact nit b u e
  ·exact nit c _ z
theorem Inv.tok (I:Inv X pins σ H s) (t:Nat) (ht:s.toks<=t:=by first|exact aj _|exact be _ _|assumption|omega|(dsimp only;omega)):Inv X pins σ H { s with toks:=t }:=I.un (h':=s.heap) (t':=t) Un.refl I.hok ht
theorem Inv.kept {t':Nat} (I:Inv X pins σ H s) (k:∀ b u,s.heap.get? b=some u->h'.get? b=some u) (ht:s.toks<=t':=by first|exact aj _|exact be _ _|assumption|omega|(dsimp only;omega)):Inv X pins σ H { s with heap:=h',toks:=t' }:=I.un (Un.kept k) (I.hok.kept k) ht
theorem Inv.laid {a:Addr} {o:HO} {t':Nat} (I:Inv X pins σ H s) (k:∀ b u,s.heap.get? b=some u->h'.get? b=some u) (hp:s.heap.objs.size<=a) (new:ObjOk X.prog X.w (upd H a o) h' a o) (ht:s.toks<=t':=by first|exact aj _|exact be _ _|assumption|omega|(dsimp only;omega)) :
  Inv X pins σ (upd H a o) { s with heap:=h',toks:=t' }:=I.un (Un.laid k hp (I.hok.fresh hp)) (I.hok.laid k hp new) ht
theorem Inv.write {x e:Addr} {o:HO} {t':Nat} (I:Inv X pins σ H s) (mu:Mut (H x)) (he:e=x\/H e=some (.own x)) (k:∀ b u,b≠e->s.heap.get? b=some u->h'.get? b=some u) (heo:∃ u,h'.get? e=some u)
  (new:ObjOk X.prog X.w (upd H x o) h' x o) (ht:s.toks<=t':=by first|exact aj _|exact be _ _|assumption|omega|(dsimp only;omega)):Inv X pins σ (upd H x o) { s with heap:=h',toks:=t' }:=I.un (Un.write mu he k heo) (I.hok.write mu he k heo new) ht
theorem Inv.pins_of {pins':List (Addr×Obj)} (I:Inv X pins σ H s) (h:∀ p∈pins',s.heap.get? p.1=some p.2/\H p.1=none/\p.1≠X.env.locals/\p.1∉X.fs /\ ∀ v,p.2.data≠.cell v):Inv X pins' σ H s:=
 ⟨I.ok,I.os,I.bare,I.base,I.loc,I.cell,I.free,I.freeC,fun p hp=>(List.mem_append.mp hp).elim (fun z=>I.pin p (c8 _ z)) (h p),I.hok,I.len⟩
theorem Oc {N:List Str} (hN:N.Nodup) {i j:Nat} {x:Str} (a:N[i]? = some x) (b:N[j]? = some x):i=j:=by
 obtain⟨h1,e1⟩:=List.getElem?_eq_some_iff.mp a
 obtain⟨h2,e2⟩:=List.getElem?_eq_some_iff.mp b
 exact (cJ hN).mp (e1.trans e2.symm)
theorem Vt {M:Model} {A:a_} {E:ah->al->Prop} {i:Nat} {x:Str} {v:V} {u:ah} {Q:Unit->al->Prop} (I:Inv X pins σ H s) (hN:X.N.Nodup) (hi:X.N[i]? = some x) (hx:Loc X.env.scope x) (r:RelV v u)
  (h:∀ s',Inv X pins (σ.set i (some v)) H s'->(∃ a,bg a s.heap s'.heap/\(a=X.env.locals\/X.env.cells.lookup x=some a))->Q () s') (hf:X.fn x=true\/X.env.scope.names.lookup x=some .local:=by first|exact .inl rfl|exact .inr rfl|assumption):aJ M A (storeName X.env x u) Q E s:=by
 obtain⟨m,hn,hl⟩:=id I.loc
 have hcls:(X.env.scope.kind==.class||(X.env.scope.kind==.module&&X.env.locals != X.env.globals))=false:=by rw [I.ok.kind];rfl
 have hiσ:i<σ.length:=by rw [I.len];exact (List.getElem?_eq_some_iff.mp hi).1
 have cne:=I.cne
 have tracked:∀ {a:Addr} {h':Heap},(∃ o,s.heap.get? a=some o/\H a=none)->bg a s.heap h'->HOk X.prog X.w H h':=fun {a h'} ha hs b ob e=>by
  obtain⟨_,_,hfree⟩:=ha
  refine (I.hok b ob e).stay (fun c w' hc q=>(hs.2 c ?_).trans q) (fun _ q=>q) fun _ _ q=>q
  rintro rfl
  rcases hc with rfl|hc
  ·rw [hfree] at e;cases e
  ·rw [hfree] at hc;cases hc
 rcases hx with hk|hk
 ·refine wpAny_storeName_local hk hn (fun h' hn' hs=>?_) hcls
  obtain⟨oL,_,_,hoL,_⟩:=id hn
  refine h _ ⟨I.ok,⟨I.os.1,aT I.os.2 (by first|exact aj _|exact be _ _)⟩,I.bare,⟨fun b o e n hb hx=>?_,fun b o e n hb hx=>?_,I.base.free,fun b o e hx=>?_,I.base.tups,I.base.frzs,I.base.tbls⟩,⟨_,hn',fun j y v' e1 e2 e3=>?_⟩,fun y c e=>?_,I.free,I.freeC,fun p hp=>?_,tracked ⟨oL,hoL,I.free⟩ hs,by simpa using I.len⟩ ⟨_,hs,.inl rfl⟩
  ·exact (hs.2 b (aN (aD (aC e) I.ok.above))).trans (I.base.keep b o e n hb hx)
  ·obtain⟨sl,e1⟩:=I.base.slot b o e n hb hx
   exact⟨sl,(hs.2 b (aN (aD (aC e) I.ok.above))).trans e1⟩
  ·obtain⟨o',e1⟩:=I.base.there b o e hx
   exact⟨o',(hs.2 b (aN (aD (aC e) I.ok.above))).trans e1⟩
  ·by_cases hj:j=i
   ·subst hj
    rw [hi] at e1;cases e1
    rw [jq hiσ] at e2
    cases e2
    exact⟨u,r,.inl ⟨hk,by simp⟩⟩
   ·rw [j3 (cB hj)] at e2
    obtain⟨u',r',q⟩:=hl j y v' e1 e2 e3
    refine⟨u',r',?_⟩
    rcases q with ⟨k,e⟩|⟨k,c,e,z⟩
    ·refine .inl ⟨k,?_⟩
     have:y≠x:=fun e=>hj (Oc hN e1 (e▸hi))
     simp [this,e]
    ·exact .inr ⟨k,c,e,z.sameBut hs (cne y c e)⟩
  ·obtain⟨w',z⟩:=I.cell y c e
   exact⟨w',z.sameBut hs (cne y c e)⟩
  ·obtain⟨e,n,ne,nf,d⟩:=I.pin p hp
   exact⟨(hs.2 p.1 ne).trans e,n,ne,nf,d⟩
 ·have hfn:X.fn x=true:=by
   rcases hf with z|z
   ·exact z
   ·rw [z] at hk;cases hk
  obtain⟨c,hc⟩:=I.ok.has x (.inl hk)
  obtain⟨w',z⟩:=I.cell x c hc
  refine wpAny_storeName_cell I.ok.kind hk hc z (fun h' hc' hs=>?_)
  obtain⟨oc,hoc,hocd⟩:=id z
  refine h { s with heap:=h' } ⟨I.ok,I.os,I.bare,⟨fun b o e n hb hx=>?_,fun b o e n hb hx=>?_,I.base.free,fun b o e hx=>?_,I.base.tups,I.base.frzs,I.base.tbls⟩,⟨m,hn.sameBut hs (cB (cne x c hc)),fun j y v' e1 e2 e3=>?_⟩,fun y c' e=>?_,I.free,I.freeC,fun p hp=>?_,tracked ⟨oc,hoc,I.freeC x c hc⟩ hs,by simpa using I.len⟩ ⟨c,hs,.inr hc⟩
  ·exact (hs.2 b (aN (aD (aC e) (I.ok.cab x c hfn hc)))).trans (I.base.keep b o e n hb hx)
  ·obtain⟨sl,e1⟩:=I.base.slot b o e n hb hx
   exact⟨sl,(hs.2 b (aN (aD (aC e) (I.ok.cab x c hfn hc)))).trans e1⟩
  ·obtain⟨o',e1⟩:=I.base.there b o e hx
   exact⟨o',(hs.2 b (aN (aD (aC e) (I.ok.cab x c hfn hc)))).trans e1⟩
  ·by_cases hj:j=i
   ·subst hj
    rw [hi] at e1;cases e1
    rw [jq hiσ] at e2
    cases e2
    exact⟨u,r,.inr ⟨.inl hk,c,hc,hc'⟩⟩
   ·rw [j3 (cB hj)] at e2
    obtain⟨u',r',q⟩:=hl j y v' e1 e2 e3
    refine⟨u',r',?_⟩
    rcases q with q|⟨k,c',e,z'⟩
    ·exact .inl q
    ·refine .inr ⟨k,c',e,z'.sameBut hs ?_⟩
     rintro rfl
     exact hj (Oc hN e1 (I.ok.inj _ _ _ e hc▸hi))
  ·by_cases hcc:c'=c
   ·subst hcc;exact⟨_,hc'⟩
   ·obtain⟨w2,z2⟩:=I.cell y c' e
    exact⟨w2,z2.sameBut hs hcc⟩
  ·obtain⟨e,n,ne,nf,d⟩:=I.pin p hp
   refine⟨(hs.2 p.1 ?_).trans e,n,ne,nf,d⟩
   intro q
   rw [q,hoc] at e
   have q':oc=p.2:=av e
   exact d w' (by rw [<- q'];exact hocd)
theorem J5 {M:Model} {A:a_} {E:ah->al->Prop} {i:Nat} {x:Str} {v:V} {u:ah} {Q:Unit->al->Prop} (I:Inv X pins σ H s) (hN:X.N.Nodup) (hi:X.N[i]? = some x) (hx:Loc X.env.scope x) (r:RelV v u)
  (h:∀ s',Inv X pins (σ.set i (some v)) H s'->Q () s') (hf:X.fn x=true\/X.env.scope.names.lookup x=some .local:=by first|exact .inl rfl|exact .inr rfl|assumption):aJ M A (storeName X.env x u) Q E s:=
 Vt I hN hi hx r (fun s' I' _=>h s' I') hf
theorem Inv.call' {s':al} {ch:List Addr} (I:Inv X pins σ H s) (ho:s'.os=s.os/\s.toks<=s'.toks) (u:Un (frs X.stack) ch H H' s.heap s'.heap) (hok:HOk X.prog X.w H' s'.heap) (hg:kr s'.gens)
  (hch:∀ b∈ch,(b∈X.ex\/X.s₀.heap.objs.size<=b)/\b≠X.env.locals/\(∀ x c,X.env.cells.lookup x=some c->c≠b) /\ ∀ p∈X.pn++pins,p.1≠b):Inv X pins σ H' s':=by
 obtain⟨h',g',d',t',o'⟩:=s'
 have e:o'=s.os:=ho.1
 subst e
 exact I.call (g':=g') (t':=t') (d':=d') u hok hg hch ho.2
end
noncomputable abbrev XK:=ah->Option Addr->Hp->Prop
noncomputable abbrev St:=List (Option V)
noncomputable abbrev VK:=V->Hp->Prop
noncomputable abbrev TE:=St->Hp->VK->Prop
noncomputable abbrev TT:=St->Hp->(Bool->Hp->Prop)->Prop
noncomputable abbrev TA:=St->Hp->(List V->Hp->Prop)->Prop
structure Nf where
 nx:St->Hp->Prop
 rt:VK
 bk:St->Hp->Prop:=fun _ _=>False
 ct:St->Hp->Prop:=fun _ _=>False
noncomputable abbrev TS:=Nf->St->Hp->Prop
noncomputable def EP (X:Cx) (pins:List (Addr×Obj)) (σ:St) (Q:VK) (u:ah) (s':al):Prop:=∃ v H',Inv X pins σ H' s'/\RelV v u/\Q v H'
noncomputable def TP (X:Cx) (pins:List (Addr×Obj)) (σ:St) (Q:Bool->Hp->Prop) (b:Bool) (s':al):Prop:=∃ H',Inv X pins σ H' s'/\Q b H'
noncomputable def AP (X:Cx) (pins:List (Addr×Obj)) (σ:St) (Q:List V->Hp->Prop) (us:List ah) (s':al):Prop:=∃ vs H',Inv X pins σ H' s'/\Vals vs us/\Q vs H'
noncomputable def SP (X:Cx) (pins:List (Addr×Obj)) (D:Nf) (f:Flow) (s':al):Prop:=
 match f with
 | .next=>∃ σ' H',Inv X pins σ' H' s'/\D.nx σ' H'
 | .brk=>∃ σ' H',Inv X pins σ' H' s'/\D.bk σ' H'
 | .cont=>∃ σ' H',Inv X pins σ' H' s'/\D.ct σ' H'
 | .ret u=>∃ v σ' H',Inv X pins σ' H' s'/\RelV v u/\D.rt v H'
noncomputable def PE (X:Cx) (e:Expr) (t:TE):Prop:=
 ∀ (pins:List (Addr×Obj)) (s:al) (σ:St) (H:Hp) (Q:VK),Inv X pins σ H s->t σ H Q->aJ (model X.prog X.w) X.A (eval e X.env) (EP X pins σ Q) X.xe s
noncomputable def PT (X:Cx) (e:Expr) (t:TT):Prop:=
 ∀ (pins:List (Addr×Obj)) (s:al) (σ:St) (H:Hp) (Q:Bool->Hp->Prop),Inv X pins σ H s->t σ H Q->aJ (model X.prog X.w) X.A (isTrue e X.env (eval e X.env)) (TP X pins σ Q) X.xe s
noncomputable def PW (X:Cx) (e:Expr) (t:TT):Prop:=
 ∀ (whole:Sem ah) (pins:List (Addr×Obj)) (s:al) (σ:St) (H:Hp) (Q:Bool->Hp->Prop),Inv X pins σ H s->t σ H Q->aJ (model X.prog X.w) X.A (isTrue e X.env whole) (TP X pins σ Q) X.xe s
theorem PW.pt {X:Cx} {e:Expr} {t:TT} (h:PW X e t):PT X e t:=h _
noncomputable def PA (X:Cx) (es:List Expr) (t:TA):Prop:=
 ∀ (pos:Pos) (pins:List (Addr×Obj)) (s:al) (σ:St) (H:Hp) (Q:List V->Hp->Prop),Inv X pins σ H s->t σ H Q->aJ (model X.prog X.w) X.A (spliced (iL pos (cP es X.env))) (AP X pins σ Q) X.xe s
noncomputable def PS (X:Cx) (st:Stmt) (t:TS):Prop:=
 ∀ (pins:List (Addr×Obj)) (s:al) (σ:St) (H:Hp) (D:Nf),Inv X pins σ H s->t D σ H->aJ (model X.prog X.w) X.A (exec st X.env) (SP X pins D) X.xe s
noncomputable def PSs (X:Cx) (st:List Stmt) (t:TS):Prop:=
 ∀ (pins:List (Addr×Obj)) (s:al) (σ:St) (H:Hp) (D:Nf),Inv X pins σ H s->t D σ H->aJ (model X.prog X.w) X.A (execs st X.env) (SP X pins D) X.xe s
theorem thn {α:Type} {t:Sem α} {Q Q':α->al->Prop} {M:Model} {A:a_} {E:ah->al->Prop} {s:al} (h:aJ M A t Q E s) (hQ:∀ a s,Q a s->Q' a s):aJ M A t Q' E s:=bR h hQ fun _ _ x=>x
section
variable {X:Cx}
noncomputable def bi3 (i:Nat):TE:=fun σ H Q=>∃ v,σ[i]? = some (some v)/\Q v H
noncomputable def tC (v:V):TE:=fun _ H Q=>Q v H
theorem ay5 {i:Nat} {x:Str} {pos:Pos} (hN:X.N[i]? = some x) (hv:Vis X.env.scope x) (hd:(x==("__debug__" : Str))=false:=by decide) (hcd:(x==("__classdict__" : Str))=false:=by decide):PE X (.Name x pos) (bi3 i):=by
 intro pins s σ H Q I h
 obtain⟨v,e,h⟩:=h
 obtain⟨m,hn,hl⟩:=I.loc
 obtain⟨u,r,l⟩:=hl i x v hN e hv
 have fin:EP X pins σ Q u s:=⟨v,H,I,r,h⟩
 rcases l with ⟨hk,hm⟩|⟨hk,c,hc,hcell⟩
 ·exact wpAny_Name (wpAny_loadName_local I.ok.kind hk hn hm fin) hd
 ·rcases hk with hk|hk
  ·exact wpAny_Name (wpAny_loadName_cell I.ok.kind hk hc hcell fin) hd
  ·exact wpAny_Name (wpAny_loadName_free I.ok.kind hk hc hcell fin hcd) hd
theorem ax9 {i j pos}:PE X (.Constant (.int i) j pos) (tC (.int i)):=fun _ _ _ H _ I h=>wpAny_Constant_int ⟨.int i,H,I.tok _,⟨_,rfl⟩,h⟩
theorem a97 {b j pos}:PE X (.Constant (.bool b) j pos) (tC (.bl b)):=fun _ _ _ H _ I h=>Constant_bool ⟨.bl b,H,I,rfl,h⟩
theorem ay1 {j pos}:PE X (.Constant .none j pos) (tC .non):=fun _ _ _ H _ I h=>Constant_none ⟨.non,H,I,rfl,h⟩
theorem ay3 {x j pos}:PE X (.Constant (.str x) j pos) (tC (.str x)):=fun _ _ _ H _ I h=>Calls.Constant_str ⟨.str x,H,I.tok _,⟨_,rfl⟩,h⟩
noncomputable def Gl (X:Cx) (x:Str):Prop:=X.env.kindOf x=some .globalImplicit
theorem F4 {E:ah->al->Prop} {pins:List (Addr×Obj)} {s:al} {σ:St} {H:Hp} {x:Str} {u:ah} {pos:Pos} {Q:ah->al->Prop} (I:Inv X pins σ H s) (hg:Gl X x) (hm:X.mg x=some u) (h:Q u s)
  (hd:(x==("__debug__" : Str))=false:=by decide):aJ (model X.prog X.w) X.A (eval (.Name x pos) X.env) Q E s:=
 g_ I.ok.kind hg (Calls.loadGlobal_global (by rw [I.ok.glob];exact I.mod.glob.keeps I.bk) hm h) hd
theorem C3 {E:ah->al->Prop} {pins:List (Addr×Obj)} {s:al} {σ:St} {H:Hp} {x:Str} {u:ah} {pos:Pos} {Q:ah->al->Prop} (I:Inv X pins σ H s) (hg:Gl X x) (hm:X.mg x=none) (hv:cO x=some u) (h:Q u s)
  (hn:x ≠ "__name__" := by decide) (hd:(x==("__debug__" : Str))=false:=by decide):aJ (model X.prog X.w) X.A (eval (.Name x pos) X.env) Q E s:=by
 obtain⟨mb,h1,h2⟩:=I.mod.blt
 exact g_ I.ok.kind hg (Calls.loadGlobal_builtin (by rw [I.ok.glob];exact I.mod.glob.keeps I.bk) hm (by rw [I.ok.blt];exact h1.keeps I.bk) ((h2 x hn).trans hv) h) hd
theorem Su {x:Str} {v:V} {u:ah} {pos:Pos} (hg:Gl X x) (hm:X.mg x=some u) (r:RelV v u) (hd:(x==("__debug__" : Str))=false:=by decide):PE X (.Name x pos) (tC v):=
 fun _ _ _ H _ I h=>F4 I hg hm ⟨v,H,I,r,h⟩ hd
theorem ae9 {x:Str} {v:V} {u:ah} {pos:Pos} (hg:Gl X x) (hm:X.mg x=none) (hv:cO x=some u) (r:RelV v u) (hn:x ≠ "__name__" := by decide) (hd:(x==("__debug__" : Str))=false:=by decide):PE X (.Name x pos) (tC v):=
 fun _ _ _ H _ I h=>C3 I hg hm hv ⟨v,H,I,r,h⟩ hn hd
variable {a b:Expr} {ta tb:TE} {pos:Pos}
variable {tA tB':TT} {rest:List Expr}
noncomputable def bh4 (t u:TT):TT:=fun σ H Q=>t σ H fun c H1=>if c=true then u σ H1 Q else Q false H1
noncomputable def tOr (t u:TT):TT:=fun σ H Q=>t σ H fun c H1=>if c=true then Q true H1 else u σ H1 Q
noncomputable def bh9 (t:TT):TT:=fun σ H Q=>t σ H fun c H1=>Q (!c) H1
theorem af9 (ha:PT X a tA):PW X (.BoolOp .And [a] pos) tA:=by
 intro wh pins s σ H Q I h
 refine isTrue_and (thn (ha pins s σ H Q I h) fun c s1 e=>?_)
 cases c with
 | true=>exact isTrue_and_nil e
 | false=>exact e
theorem az4 (ha:PT X a tA):PW X (.BoolOp .Or [a] pos) tA:=by
 intro wh pins s σ H Q I h
 refine isTrue_or (thn (ha pins s σ H Q I h) fun c s1 e=>?_)
 cases c with
 | false=>exact isTrue_or_nil e
 | true=>exact e
theorem az3 (ha:PT X a tA) (hb:PW X (.BoolOp .And (b::rest) pos) tB'):PW X (.BoolOp .And (a::b::rest) pos) (bh4 tA tB'):=by
 intro wh pins s σ H Q I h
 refine isTrue_and (thn (ha pins s σ H _ I h) fun c s1 ⟨H1,I1,q1⟩=>?_)
 cases c with
 | true=>exact hb wh pins s1 σ H1 Q I1 q1
 | false=>exact⟨H1,I1,q1⟩
theorem ba3 (ha:PT X a tA) (hb:PW X (.BoolOp .Or (b::rest) pos) tB'):PW X (.BoolOp .Or (a::b::rest) pos) (tOr tA tB'):=by
 intro wh pins s σ H Q I h
 refine isTrue_or (thn (ha pins s σ H _ I h) fun c s1 ⟨H1,I1,q1⟩=>?_)
 cases c with
 | true=>exact⟨H1,I1,q1⟩
 | false=>exact hb wh pins s1 σ H1 Q I1 q1
theorem az1 (ha:PT X a tA):PT X (.UnaryOp .Not a pos) (bh9 tA):=by
 intro pins s σ H Q I h
 exact isTrue_not (ha pins s σ H (fun c H1=>Q (!c) H1) I h)
theorem ay2 {op} {t:TE} (h:PE X a t):PE X (.BoolOp op [a] pos) t:=fun pins s σ H Q I hw=>BoolOp_one (h pins s σ H Q I hw)
noncomputable def tIf (t:TT) (ta tb:TE):TE:=fun σ H Q=>t σ H fun c H1=>if c=true then ta σ H1 Q else tb σ H1 Q
theorem Ym {c:Expr} (hc:PT X c tA) (ha:PE X a ta) (hb:PE X b tb):PE X (.IfExp c a b pos) (tIf tA ta tb):=by
 intro pins s σ H Q I h
 refine wpAny_IfExp (thn (hc pins s σ H _ I h) fun d s1 ⟨H1,I1,q1⟩=>?_)
 cases d with
 | true=>exact ha pins s1 σ H1 Q I1 q1
 | false=>exact hb pins s1 σ H1 Q I1 q1
end
noncomputable def SqL (K:ac) (H:Hp) (a:Addr) (xs:List V):Prop:=
 Rd H a (.lst xs) \/
  ∃ (o:Obj) (its:Array ah) (n:Nat),K.lookup a=some o/\o.cls=.type "list" /\ o.dict=none/\o.data=.seq its n/\its.size<=sizeLine/\xs.all V.pl=true/\Vals xs its.toList
noncomputable def SqT (K:ac) (H:Hp) (a:Addr) (xs:List V):Prop:=
 Rd H a (.tup xs) \/
  ∃ (o:Obj) (its:Array ah) (n:Nat),K.lookup a=some o/\o.cls=.type "tuple" /\ o.data=.seq its n/\its.size<=sizeLine/\xs.all V.pl=true/\Vals xs its.toList
noncomputable def bf4:ah->Option V
 | .none=>some .non
 | .bool b=>some (.bl b)
 | .int i _=>some (.int i)
 | .str x _=>some (.str x)
 | .bytes b _=>some (.byt b)
 | .ref a=>some (.ref a)
 | .type n=>some (.ty n)
 | _=>none
theorem RelV.abs {x:V} {u:ah} (r:RelV x u) (p:x.pl=true):bf4 u=some x:=by
 cases x with
 | non=>cases r;rfl
 | bl _=>cases r;rfl
 | int _=>obtain⟨t,rfl⟩:=r;rfl
 | str _=>obtain⟨t,rfl⟩:=r;rfl
 | byt _=>obtain⟨t,rfl⟩:=r;rfl
 | stk _ _ _=>cases p
 | ref _=>cases r;rfl
 | ty _=>cases r;rfl
theorem RelV.inj {x y:V} {u:ah} (r:RelV x u) (q:RelV y u) (p:x.pl=true) (p':y.pl=true):x=y:=av ((r.abs p).symm.trans (q.abs p'))
theorem Vals.inj:∀ {xs ys:List V} {us:List ah},Vals xs us->Vals ys us->xs.all V.pl=true->ys.all V.pl=true->xs=ys
 | _,_,_,.nil,.nil,_,_=>rfl
 | _,_,_,.cons r t,.cons r' t',p,q=>by
  simp only [bS,aP] at p q
  rw [r.inj r' p.1 q.1,Vals.inj t t' p.2 q.2]
section
variable {X:Cx} {pins:List (Addr×Obj)} {σ:St} {H:Hp} {s:al} {a:Addr} {xs ys:List V}
theorem SqL.of {K:ac} (h:H a=some (.lst xs)):SqL K H a xs:=.inl (.inl h)
theorem SqT.of {K:ac} (h:H a=some (.tup xs)):SqT K H a xs:=.inl (.inl h)
theorem Inv.list (I:Inv X pins σ H s) (h:SqL X.K H a xs):∃ its:List ah,Vals xs its/\PlainL s.heap a its.toArray/\xs.length<=sizeLine:=by
 rcases h with h|⟨o,its,n,hk,hc,hd,hs,hz,_,r⟩
 ·obtain⟨z,its,n,r,e⟩:=h.ok I.hok
  exact⟨its,r,⟨_,n,e,rfl,rfl,rfl⟩,z⟩
 ·refine⟨its.toList,r,⟨o,n,I.kIn a o hk,hc,hd,by simpa using hs⟩,?_⟩
  have e:=r.length
  simp only [bJ] at e
  omega
theorem Inv.tuple (I:Inv X pins σ H s) (h:SqT X.K H a xs):∃ its:List ah,Vals xs its/\kC s.heap a its.toArray/\xs.length<=sizeLine:=by
 rcases h with h|⟨o,its,n,hk,hc,hs,hz,_,r⟩
 ·obtain⟨z,its,r,p⟩:=h.ok I.hok
  exact⟨its,r,p,z⟩
 ·refine⟨its.toList,r,⟨o,I.kIn a o hk,hc,n,by simpa using hs⟩,?_⟩
  have e:=r.length
  simp only [bJ] at e
  omega
theorem Inv.notK (I:Inv X pins σ H s) {o:HO} {ob:Obj} (h:Rd H a o) (e:X.K.lookup a=some ob):False:=by
 have n:=(I.bs a ob (I.mod.kin a ob e)).2
 rcases h with h|⟨u,h⟩
 ·rw [n] at h;cases h
 ·rw [n] at h;cases h
theorem Inv.list_inj (I:Inv X pins σ H s) (h:SqL X.K H a xs) (h':SqL X.K H a ys):xs=ys:=by
 rcases h with h|⟨o,its,n,hk,hc,hd,hs,hz,p,r⟩
 ·rcases h' with h'|⟨o',its',n',hk',hc',hd',hs',hz',p',r'⟩
  ·rcases h with h|⟨u,h⟩ <;> rcases h' with h'|⟨u',h'⟩ <;> (rw [h] at h';first|(cases h';rfl)|cases h')
  ·exact (I.notK h hk').elim
 ·rcases h' with h'|⟨o',its',n',hk',hc',hd',hs',hz',p',r'⟩
  ·exact (I.notK h' hk).elim
  ·rw [hk] at hk';cases hk'
   rw [hs] at hs';cases hs'
   exact r.inj r' p p'
theorem Inv.tuple_inj (I:Inv X pins σ H s) (h:SqT X.K H a xs) (h':SqT X.K H a ys):xs=ys:=by
 rcases h with h|⟨o,its,n,hk,hc,hs,hz,p,r⟩
 ·rcases h' with h'|⟨o',its',n',hk',hc',hs',hz',p',r'⟩
  ·rcases h with h|⟨u,h⟩ <;> rcases h' with h'|⟨u',h'⟩ <;> (rw [h] at h';first|(cases h';rfl)|cases h')
  ·exact (I.notK h hk').elim
 ·rcases h' with h'|⟨o',its',n',hk',hc',hs',hz',p',r'⟩
  ·exact (I.notK h' hk).elim
  ·rw [hk] at hk';cases hk'
   rw [hs] at hs';cases hs'
   exact r.inj r' p p'
end
noncomputable abbrev Cx.wish (X:Cx) (E:ah->al->Prop):Cx:={ X with xe:=E }
noncomputable abbrev Cx.nox (X:Cx):Cx:=X.wish fun _ _=>False
theorem Cx.Ok.wish {X:Cx} (ok:X.Ok) (E:ah->al->Prop):(X.wish E).Ok:=
 ⟨ok.mod,ok.kind,ok.glob,ok.blt,ok.above,ok.inj,ok.has,ok.cab,ok.hd,ok.frames,ok.stk,ok.exf,ok.bs,ok.bsz,ok.noex,ok.exfs,ok.funs,ok.frf,ok.tk⟩
theorem Cx.Ok.unwish {X:Cx} {E:ah->al->Prop} (ok:(X.wish E).Ok):X.Ok:=
 ⟨ok.mod,ok.kind,ok.glob,ok.blt,ok.above,ok.inj,ok.has,ok.cab,ok.hd,ok.frames,ok.stk,ok.exf,ok.bs,ok.bsz,ok.noex,ok.exfs,ok.funs,ok.frf,ok.tk⟩
section
variable {X:Cx} {pins:List (Addr×Obj)} {σ:St} {H:Hp} {s:al} {E:ah->al->Prop}
theorem Inv.wish (I:Inv X pins σ H s) (E:ah->al->Prop):Inv (X.wish E) pins σ H s:=⟨I.ok.wish E,I.os,I.bare,I.base,I.loc,I.cell,I.free,I.freeC,I.pin,I.hok,I.len⟩
theorem Inv.unwish (I:Inv (X.wish E) pins σ H s):Inv X pins σ H s:=⟨I.ok.unwish,I.os,I.bare,I.base,I.loc,I.cell,I.free,I.freeC,I.pin,I.hok,I.len⟩
theorem SP.unwish {D:Nf} {f:Flow} {s':al} (h:SP (X.wish E) pins D f s'):SP X pins D f s':=by
 cases f with
 | next=>obtain⟨σ',H',I,q⟩:=h;exact⟨σ',H',I.unwish,q⟩
 | brk=>obtain⟨σ',H',I,q⟩:=h;exact⟨σ',H',I.unwish,q⟩
 | cont=>obtain⟨σ',H',I,q⟩:=h;exact⟨σ',H',I.unwish,q⟩
 | ret u=>obtain⟨v,σ',H',I,r,q⟩:=h;exact⟨v,σ',H',I.unwish,r,q⟩
theorem PE.nox {e:Expr} {t:TE} (h:PE X.nox e t):PE X e t:=fun pins s σ H Q I hw=>
 bR (h pins s σ H Q (I.wish _) hw) (fun _ _ ⟨v,H',I',r,q⟩=>⟨v,H',I'.unwish,r,q⟩) fun _ _ z=>cu z
theorem PSs.nox {st:List Stmt} {t:TS} (h:PSs X.nox st t):PSs X st t:=fun pins s σ H D I hw=>
 bR (h pins s σ H D (I.wish _) hw) (fun _ _ q=>q.unwish) fun _ _ z=>cu z
end
section
variable {X:Cx} {st:Stmt} {rest:List Stmt} {t u:TS} {e:Expr} {te:TE} {pos:Pos}
noncomputable def am7:TS:=fun D σ H=>D.nx σ H
noncomputable def bi1 (t u:TS):TS:=fun D σ H=>t { D with nx:=u D } σ H
theorem af7:PSs X [] am7:=fun _ _ σ H _ I h=>jW ⟨σ,H,I,h⟩
theorem Yv (h1:PS X st t) (h2:PSs X rest u):PSs X (st::rest) (bi1 t u):=by
 intro pins s σ H D I h
 refine wpAny_execs_cons (thn (h1 pins s σ H { D with nx:=u D } I h) fun f s1 q=>?_)
 cases f with
 | next=>
  obtain⟨σ',H',I',q⟩:=q
  exact h2 pins s1 σ' H' D I' q
 | ret v=>exact q
 | brk=>exact q
 | cont=>exact q
noncomputable def a30:TS:=fun D σ H=>D.bk σ H
noncomputable def bb6:TS:=fun D σ H=>D.ct σ H
theorem af5:PS X (.Pass pos) am7:=fun _ _ σ H _ I h=>wpAny_Pass ⟨σ,H,I,h⟩
theorem Yu:PS X (.Break pos) a30:=fun _ _ σ H _ I h=>wpAny_Break ⟨σ,H,I,h⟩
theorem Oj:PS X (.Continue pos) bb6:=fun _ _ σ H _ I h=>wpAny_Continue ⟨σ,H,I,h⟩
theorem Inv.quiet {pins:List (Addr×Obj)} {σ:St} {H:Hp} {s:al} (I:Inv X pins σ H s):interactive X.env=false:=by simp [interactive,I.ok.kind]
noncomputable def bb7 (te:TE):TS:=fun D σ H=>te σ H fun _ H1=>D.nx σ H1
theorem af4 (he:PE X e te) (hs:iO e none pos.line X.env=pure false:=by rfl):PS X (.Expr e pos) (bb7 te):=by
 intro pins s σ H D I h
 exact wpAny_Expr_any (thn (he pins s σ H _ I h) fun v s1 ⟨x,H1,I1,r1,q1⟩=>⟨σ,H1,I1,q1⟩) I.quiet hs
noncomputable def bi0 (te:TE):TS:=fun D σ H=>te σ H D.rt
theorem ay9 (he:PE X e te):PS X (.Return (some e) pos) (bi0 te):=by
 intro pins s σ H D I h
 exact wpAny_Return_some (thn (he pins s σ H _ I h) fun v s1 ⟨x,H1,I1,r1,q1⟩=>⟨x,σ,H1,I1,r1,q1⟩)
noncomputable def bb8:TS:=fun D _ H=>D.rt .non H
theorem af6:PS X (.Return none pos) bb8:=fun _ _ σ H _ I h=>wpAny_Return_none ⟨.non,σ,H,I,rfl,h⟩
noncomputable def bh6 (c:TT) (t u:TS):TS:=fun D σ H=>c σ H fun b H1=>if b=true then t D σ H1 else u D σ H1
theorem ba2 {c:Expr} {a b:List Stmt} {tc:TT} (hc:PT X c tc) (ha:PSs X a t) (hb:PSs X b u):PS X (.If c a b pos) (bh6 tc t u):=by
 intro pins s σ H D I h
 refine wpAny_If (thn (hc pins s σ H _ I h) fun d s1 ⟨H1,I1,q1⟩=>?_)
 cases d with
 | true=>exact ha pins s1 σ H1 D I1 q1
 | false=>exact hb pins s1 σ H1 D I1 q1
end
noncomputable abbrev TG:=V->St->Hp->(St->Hp->Prop)->Prop
noncomputable abbrev TGs:=List V->St->Hp->(St->Hp->Prop)->Prop
noncomputable def PG (X:Cx) (target:Expr) (t:TG):Prop:=
 ∀ (pins:List (Addr×Obj)) (s:al) (σ:St) (H:Hp) (v:V) (u:ah) (Q:St->Hp->Prop),Inv X pins σ H s->RelV v u->t v σ H Q ->
  aJ (model X.prog X.w) X.A (lN target X.env u) (fun _ s'=>∃ σ' H',Inv X pins σ' H' s'/\Q σ' H') X.xe s
noncomputable def PGs (X:Cx) (ts:List Expr) (t:TGs):Prop:=
 ∀ (pins:List (Addr×Obj)) (s:al) (σ:St) (H:Hp) (vs:List V) (us:List ah) (Q:St->Hp->Prop),Inv X pins σ H s->Vals vs us->t vs σ H Q ->
  aJ (model X.prog X.w) X.A (assignInOrder ((cZ ts X.env).map (·.2)) us) (fun _ s'=>∃ σ' H',Inv X pins σ' H' s'/\Q σ' H') X.xe s
noncomputable abbrev aq0:=V->V->V->Hp->(Hp->Prop)->Prop
noncomputable def ap9 (X:Cx) (t:aq0):Prop:=
 ∀ (pins:List (Addr×Obj)) (s:al) (σ:St) (H:Hp) (o i v:V) (ov iv u:ah) (Q:Hp->Prop),Inv X pins σ H s->RelV o ov->RelV i iv->RelV v u->t o i v H Q ->
  aJ (model X.prog X.w) X.A (setItem ov iv u) (fun _ s'=>∃ H',Inv X pins σ H' s'/\Q H') X.xe s
noncomputable abbrev TIp:=V->V->Hp->VK->Prop
noncomputable def PIp (X:Cx) (op:lU) (t:TIp):Prop:=
 ∀ (pins:List (Addr×Obj)) (s:al) (σ:St) (H:Hp) (x y:V) (v u:ah) (Q:VK),Inv X pins σ H s->RelV x v->RelV y u->t x y H Q ->
  aJ (model X.prog X.w) X.A (inplaceOp op v u) (EP X pins σ Q) X.xe s
section
variable {X:Cx} {pos:Pos}
noncomputable def Xo (i:Nat):TG:=fun v σ H Q=>Q (σ.set i (some v)) H
theorem af1 {i:Nat} {x:Str} (hN:X.N.Nodup) (hi:X.N[i]? = some x) (hx:Loc X.env.scope x) (hf:X.fn x=true\/X.env.scope.names.lookup x=some .local:=by first|exact .inl rfl|exact .inr rfl|assumption):PG X (.Name x pos) (Xo i):=by
 intro pins s σ H v u Q I r h
 exact wpAny_assign_Name (J5 I hN hi hx r (fun s' I'=>⟨_,H,I',h⟩) hf)
noncomputable def bf8:TGs:=fun vs σ H Q=>vs=[]/\Q σ H
noncomputable def a55 (t:TG) (u:TGs):TGs:=fun vs σ H Q=>∃ v r,vs=v::r/\t v σ H fun σ' H'=>u r σ' H' Q
theorem af2:PGs X [] bf8:=by
 intro pins s σ H vs us Q I r h
 obtain⟨e,h⟩:=h
 subst e
 cases r
 exact assignInOrder_nil ⟨σ,H,I,h⟩
theorem Yn {e:Expr} {es:List Expr} {t:TG} {u:TGs} (h1:PG X e t) (h2:PGs X es u)
  (hs:(cZ (e::es) X.env).map (·.2)=lN e X.env::(cZ es X.env).map (·.2):=by rfl):PGs X (e::es) (a55 t u):=by
 intro pins s σ H vs us Q I r h
 obtain⟨v,vr,e1,h⟩:=h
 subst e1
 cases r with
 | cons r rr=>
  rw [hs]
  refine assignInOrder_cons (thn (h1 pins s σ H _ _ _ I r h) fun _ s1 ⟨σ1,H1,I1,q1⟩=>?_)
  exact h2 pins s1 σ1 H1 _ _ Q I1 rr q1
noncomputable def bg0 (K:ac) (n:Nat) (t:TGs):TG:=fun v σ H Q=>∃ a xs,v=.ref a/\SqT K H a xs/\xs.length=n/\t xs σ H Q
theorem ay7 {es:List Expr} {k:Nat} {t:TGs} {n:Nat} (hc:X.calm=true) (h:PGs X es t)
  (hn:(cZ es X.env).length=n:=by rfl) (hst:(cZ es X.env).findIdx? (·.1)=none:=by rfl):PG X (.Tuple es k pos) (bg0 X.K n t):=by
 intro pins s σ H v u Q I r hw
 obtain⟨a,xs,e1,hq,hl,hw⟩:=hw
 subst e1
 cases r
 obtain⟨its,rv,ht,hz⟩:=I.tuple hq
 refine assign_Tuple_tuple (I.ok.hd hc) ht (by simp [hn,<- hl,rv.length]) hst fun h' hx=>?_
 have I1:Inv X pins σ H { s with heap:=h' }:=I.kept (t':=s.toks) fun b o e=>hx b o (aN (aC e)) e
 exact h pins _ σ H xs _ Q I1 (by simpa using rv) hw
noncomputable def bf9 (to ti:TE) (t:aq0):TG:=fun v σ H Q=>to σ H fun o H1=>ti σ H1 fun i H2=>t o i v H2 fun H3=>Q σ H3
theorem ay6 {o i:Expr} {to ti:TE} {t:aq0} (ho:PE X o to) (hi:PE X i ti) (hs:ap9 X t)
  (ha:∀ v,lN (.Subscript o i pos) X.env v=(do
   let ov <- mD [v] (eval o X.env)
   let iv <- mD [v,ov] (eval i X.env)
   standAt pos
   mD [v,ov,iv] (setItem ov iv v)
   release [v,ov,iv] []):=by intro _;rfl):PG X (.Subscript o i pos) (bf9 to ti t):=by
 intro pins s σ H v u Q I r h
 rw [ha]
 refine ag (bE (thn (ho pins s σ H _ I h) fun ov s1 ⟨x,H1,I1,r1,q1⟩=>?_))
 refine ag (bE (thn (hi pins s1 σ H1 _ I1 q1) fun iv s2 ⟨y,H2,I2,r2,q2⟩=>?_))
 refine ag (fN (ag (bE (thn (hs pins s2 σ H2 x y v ov iv u _ I2 r1 r2 r q2) fun _ s3 ⟨H3,I3,q3⟩=>?_))))
 exact wpAny_release ⟨σ,H3,I3,q3⟩
noncomputable def a29 (te:TE) (g:TG):TS:=fun D σ H=>te σ H fun x H1=>g x σ H1 D.nx
theorem Yt {tg e:Expr} {te:TE} {g:TG} (he:PE X e te) (hg:PG X tg g) (hs:lj [tg] e pos.line X.env=pure false:=by rfl) (hw:swappedStores [tg] e X.env=pure none:=by rfl)
  (h1:(cZ [tg] X.env).map (·.2)=[lN tg X.env]:=by rfl):PS X (.Assign [tg] e pos) (a29 te g):=by
 intro pins s σ H D I h
 refine wpAny_Assign_stores (thn (he pins s σ H _ I h) fun v s1 ⟨x,H1,I1,r1,q1⟩=>?_) hs hw
 rw [h1]
 exact thn (hg pins s1 σ H1 x v _ I1 r1 q1) fun _ s2 q=>q
theorem az0 {i:Nat} {x:Str} {e:Expr} {te:TE} {pos':Pos} (hN:X.N.Nodup) (hi:X.N[i]? = some x) (hx:Loc X.env.scope x) (he:PE X e te) (hs:iO e (some (.Name x pos')) pos.line X.env=pure false:=by rfl) (hf:X.fn x=true\/X.env.scope.names.lookup x=some .local:=by first|exact .inl rfl|exact .inr rfl|assumption) :
  PS X (.Assign [.Name x pos'] e pos) (a29 te (Xo i)):=by
 intro pins s σ H D I h
 refine wpAny_Assign_Name (thn (he pins s σ H _ I h) fun v s1 ⟨y,H1,I1,r1,q1⟩=>?_) hs
 exact J5 I1 hN hi hx r1 (fun s2 I2=>⟨_,H1,I2,q1⟩) hf
noncomputable def ipI (f:Int->Int->Int):TIp:=fun x y H Q=>∃ i j,x=.int i/\y=.int j/\Q (.int (f i j)) H
theorem as4:PIp X .Add (ipI fun i j=>i+j):=by
 intro pins s σ H x y v u Q I r1 r2 h
 obtain⟨i,j,e1,e2,q⟩:=h
 subst e1;subst e2
 obtain⟨t,rfl⟩:=r1
 obtain⟨t',rfl⟩:=r2
 exact iadd_int ⟨.int _,H,I.tok _,⟨_,rfl⟩,q⟩
end
structure It where
 go:Nat->Hp->Prop
 yld:Nat->Hp->V->Hp->Prop
 stop:Nat->Hp->Prop
noncomputable def C9 (X:Cx) (pins:List (Addr×Obj)) (H:Hp) (b:Addr):Prop:=
 H b=none/\b≠X.env.locals/\b∉X.fs/\(b∈X.ex\/X.s₀.heap.objs.size<=b)/\(∀ x c,X.env.cells.lookup x=some c->c≠b) /\ ∀ p∈X.pn++pins,p.1≠b
theorem Inv.fpOk {X:Cx} {pins:List (Addr×Obj)} {σ:St} {H H':Hp} {s:al} {b:Addr} (I:Inv X pins σ H s) (hb:s.heap.objs.size<=b) (hn:H' b=none):C9 X pins H' b:=by
 refine⟨hn,gh (aD I.lt hb),I.nofs hb,.inr (aT I.sz hb),fun x c e z=>?_,fun p hp z=>?_⟩
 ·obtain⟨v,q⟩:=I.cell x c e
  exact absurd (aD q.lt (by rw [z];exact hb)) (eV _)
 ·exact absurd (aD (aC (I.pin p hp).1) (by rw [z];exact hb)) (eV _)
structure Im (P:aS) (w:bB) (K:ac) (tg:Expr) (J:It) (fp:List Addr) (it:Addr) (tn:Nat->Heap->Prop):Prop where
 mem:it∈fp
 obj:∀ i h,tn i h -> ∀ b∈fp,∃ o,h.get? b=some o /\ ∀ v,o.data≠.cell v
 keep:∀ i h h',tn i h->(∀ b∈fp,∀ o,h.get? b=some o->h'.get? b=some o)->tn i h'
 item:∀ (X:Cx),X.prog=P->X.w=w->X.K=K->X.calm=true -> ∀ (i:Nat) (pins:List (Addr×Obj)) (s:al) (σ:St) (H:Hp) (E:ah->al->Prop),Inv X pins σ H s->(∀ b∈fp,C9 X pins H b)->tn i s.heap->J.go i H ->
  aJ (model P w) X.A (ic (.ref it)) (fun r s1=>∃ u,r=some u /\
   aJ (model P w) X.A (gZ tg (.ref it) u) (fun _ s2=>∃ x H',Inv X pins σ H' s2/\RelV x u/\J.yld i H x H'/\tn (i+1) s2.heap /\ ∀ b∈fp,H' b=none) E s1) E s
 done:∀ (X:Cx),X.prog=P->X.w=w->X.K=K->X.calm=true -> ∀ (i:Nat) (pins:List (Addr×Obj)) (s:al) (σ:St) (H:Hp) (E:ah->al->Prop),Inv X pins σ H s->(∀ b∈fp,C9 X pins H b)->tn i s.heap->J.stop i H ->
  aJ (model P w) X.A (ic (.ref it)) (fun r s1=>r=none/\Inv X pins σ H s1) E s
 self:∀ (A:a_) (i:Nat) (s:al) (Q:ah->al->Prop) (E:ah->al->Prop),tn i s.heap->Q (.ref it) s->aJ (model P w) A (lR (.ref it)) Q E s
noncomputable abbrev TI:=St->Hp->(It->Hp->Prop)->Prop
noncomputable def PIE (X:Cx) (pins:List (Addr×Obj)) (σ:St) (tg:Expr) (R:It->Hp->Prop) (itv:ah) (s2:al):Prop:=
 ∃ (it:Addr) (fp:List Addr) (tn:Nat->Heap->Prop) (J:It) (H':Hp),itv=.ref it/\Inv X pins σ H' s2/\Im X.prog X.w X.K tg J fp it tn/\tn 0 s2.heap/\(∀ b∈fp,C9 X pins H' b)/\R J H'
noncomputable def PI (X:Cx) (tg iter:Expr) (wi:TI):Prop:=
 ∀ (pins:List (Addr×Obj)) (s:al) (σ:St) (H:Hp) (R:It->Hp->Prop),Inv X pins σ H s->wi σ H R ->
  aJ (model X.prog X.w) X.A (eval iter X.env) (fun v s1=>aJ (model X.prog X.w) X.A (lR v) (PIE X pins σ tg R) X.xe s1) X.xe s
theorem Ha {M:Model} {A:a_} {E:ah->al->Prop} {s:al} {tg:Expr} {it:Addr} {u:ah} {o:Obj} {n:String} {vs:Array ah} {Q:Unit->al->Prop} (ho:s.heap.get? it=some o) (hc:o.cls=.type n) (hd:o.data=.fields vs)
    (hn:["enumerate", "zip", "dict_itemiterator", "dict_reverseitemiterator", "odict_iterator", "itertools.zip_longest", "itertools.pairwise"].contains n=false) (hQ:Q () s):aJ M A (gZ tg (.ref it) u) Q E s:=by
  unfold gZ
  cases tg <;> first
    | exact ar hQ
    | (cases u <;> first
        | exact ar hQ
        | (refine ag (wpAny_load ho ?_)
           rw [hc,hd]
           show aJ M A (if (["enumerate", "zip", "dict_itemiterator", "dict_reverseitemiterator", "odict_iterator", "itertools.zip_longest", "itertools.pairwise"].contains n&&vs[0]? == some (dN _))=true then _ else _) Q E s
           rw [if_neg (by intro h;rw [hn,ke] at h;cases h)]
           exact ar hQ))
noncomputable def Itl (K:ac) (a:Addr):It:=
 ⟨fun i H=>∃ xs x,SqL K H a xs/\xs[i]? = some x,fun i H x H'=>H'=H /\ ∀ xs,SqL K H a xs->xs[i]? = some x,fun i H=>∃ xs,SqL K H a xs/\xs.length<=i⟩
noncomputable def Itt (K:ac) (a:Addr):It:=
 ⟨fun i H=>∃ xs x,SqT K H a xs/\xs[i]? = some x,fun i H x H'=>H'=H /\ ∀ xs,SqT K H a xs->xs[i]? = some x,fun i H=>∃ xs,SqT K H a xs/\xs.length<=i⟩
noncomputable def Itr (lo:Int) (n:Nat):It:=⟨fun i _=>i<n,fun i H x H'=>H'=H/\x=.int (lo+i),fun i _=>n<=i⟩
theorem V0 {P:aS} {w:bB} {K:ac} {tg:Expr} (a it:Addr):Im P w K tg (Itl K a) [it] it (fun i h=>h.IsListIter it a i) where
 mem:=by simp
 obj:=fun i h st b hb=>by
  have e:b=it:=by simpa using hb
  subst e
  obtain⟨o,e,c,d⟩:=st
  exact⟨o,e,fun v z=>by rw [d] at z;cases z⟩
 keep:=fun i h h' st k=>st.at fun o e=>k it (by simp) o e
 item:=by
  intro X hP hw hK hc i pins s σ H E I hf st hg
  subst hP hw hK
  obtain⟨xs,x,hq,hx⟩:=hg
  obtain⟨its,rv,p,hz⟩:=I.list hq
  obtain⟨u,hu,ru⟩:=rv.get hx
  obtain⟨f0,f1,f2,f3,f4,f5⟩:=hf it (by simp)
  refine wpAny_pyNext_list_item st p.isList (x:=u) (by simpa using hu) fun h' st' sb=>?_
  have I1:Inv X pins σ H { s with heap:=h' }:=I.turned (t':=s.toks) (fun b o hb e=>(sb.2 b hb).trans e) f0 f1 f3 f4 f5
  obtain⟨o,e,c,d⟩:=id st'
  exact⟨u,rfl,Ha (s:={ s with heap:=h' }) e c d (by decide) ⟨x,H,I1,ru,⟨rfl,fun ys hy=>by rw [I.list_inj hy hq];exact hx⟩,st',fun b hb=>(hf b hb).1⟩⟩
 done:=by
  intro X hP hw hK hc i pins s σ H E I hf st hg
  subst hP hw hK
  obtain⟨xs,hq,hx⟩:=hg
  obtain⟨its,rv,p,hz⟩:=I.list hq
  obtain⟨f0,f1,f2,f3,f4,f5⟩:=hf it (by simp)
  have hl:=rv.length
  exact wpAny_pyNext_list_end (I.ok.hd hc) st p.isList (by simp;omega) fun h' eb=>⟨rfl,I.turned (t':=s.toks) (fun b o hb e=>eb b o hb e) f0 f1 f3 f4 f5⟩
 self:=fun _ _ _ _ _ st h=>wpAny_pyIter_listiter st h
theorem Rm {P:aS} {w:bB} {K:ac} {tg:Expr} (a it:Addr):Im P w K tg (Itt K a) [it] it (fun i h=>h.IsTupleIter it a i) where
 mem:=by simp
 obj:=fun i h st b hb=>by
  have e:b=it:=by simpa using hb
  subst e
  obtain⟨o,e,c,d⟩:=st
  exact⟨o,e,fun v z=>by rw [d] at z;cases z⟩
 keep:=fun i h h' st k=>st.at fun o e=>k it (by simp) o e
 item:=by
  intro X hP hw hK hc i pins s σ H E I hf st hg
  subst hP hw hK
  obtain⟨xs,x,hq,hx⟩:=hg
  obtain⟨its,rv,p,hz⟩:=I.tuple hq
  obtain⟨u,hu,ru⟩:=rv.get hx
  obtain⟨f0,f1,f2,f3,f4,f5⟩:=hf it (by simp)
  refine wpAny_pyNext_tuple_item st (show s.heap.IsTuple a its.toArray from p) (x:=u) (by simpa using hu) fun h' st' sb=>?_
  have I1:Inv X pins σ H { s with heap:=h' }:=I.turned (t':=s.toks) (fun b o hb e=>(sb.2 b hb).trans e) f0 f1 f3 f4 f5
  obtain⟨o,e,c,d⟩:=id st'
  exact⟨u,rfl,Ha (s:={ s with heap:=h' }) e c d (by decide) ⟨x,H,I1,ru,⟨rfl,fun ys hy=>by rw [I.tuple_inj hy hq];exact hx⟩,st',fun b hb=>(hf b hb).1⟩⟩
 done:=by
  intro X hP hw hK hc i pins s σ H E I hf st hg
  subst hP hw hK
  obtain⟨xs,hq,hx⟩:=hg
  obtain⟨its,rv,p,hz⟩:=I.tuple hq
  obtain⟨f0,f1,f2,f3,f4,f5⟩:=hf it (by simp)
  have hl:=rv.length
  exact wpAny_pyNext_tuple_end (I.ok.hd hc) st (show s.heap.IsTuple a its.toArray from p) (by simp;omega) fun h' eb=>⟨rfl,I.turned (t':=s.toks) (fun b o hb e=>eb b o hb e) f0 f1 f3 f4 f5⟩
 self:=fun _ _ _ _ _ st h=>wpAny_pyIter_tupleiter st h
theorem Rl {P:aS} {w:bB} {K:ac} {tg:Expr} (it:Addr) (lo:Int) (n:Nat):Im P w K tg (Itr lo n) [it] it (fun i h=>ky h it (lo+(i:Nat) * 1) ((n:Int) - (i:Nat)) 1) where
 mem:=by simp
 obj:=fun i h st b hb=>by
  have e:b=it:=by simpa using hb
  subst e
  exact⟨_,st,fun v z=>by
   have z':Data.fields _=Data.cell v:=z
   cases z'⟩
 keep:=fun i h h' st k=>k it (by simp) _ st
 item:=by
  intro X hP hw hK hc i pins s σ H E I hf st hg
  subst hP hw hK
  obtain⟨f0,f1,f2,f3,f4,f5⟩:=hf it (by simp)
  have W:=Walks.range (prog:=X.prog) (w:=X.w) (I.ok.hd hc) it lo 1 n
  refine bu (aj _) (W.item i s _ _ hg st fun v h' tk hv st' kk htk=>?_)
  obtain⟨t,rfl⟩:=hv
  have I1:Inv X pins σ H { s with heap:=h',toks:=tk }:=I.turned (fun b o hb e=>kk b o (by simpa using hb) e) f0 f1 f3 f4 f5
  refine⟨_,rfl,Ha (s:={ s with heap:=h',toks:=tk }) (n := "range_iterator") st' rfl rfl (by decide) ⟨.int (lo+i),H,I1,⟨t,?_⟩,⟨rfl,rfl⟩,st',fun b hb=>(hf b hb).1⟩⟩
  rw [Int.mul_one]
 done:=by
  intro X hP hw hK hc i pins s σ H E I hf st hg
  subst hP hw hK
  obtain⟨f0,f1,f2,f3,f4,f5⟩:=hf it (by simp)
  exact jz (I.ok.hd hc) st (by have:n<=i:=hg;omega) fun h' eb=>⟨rfl,I.turned (t':=s.toks) (fun b o hb e=>eb b o hb e) f0 f1 f3 f4 f5⟩
 self:=fun _ _ _ _ _ st h=>jv st h
section
variable {X:Cx} {tg:Expr}
theorem Op {pins:List (Addr×Obj)} {σ:St} {H:Hp} {s:al} {R:It->Hp->Prop} {E:ah->al->Prop} {lo hi:Int} {t u v:Tok} {tk:Nat} (I:Inv X pins σ H s) (htk:s.toks<=tk) (h1:-(2 ^ 62)<=lo) (h2:lo<2 ^ 62) (h3:-(2 ^ 62)<=hi) (h4:hi<2 ^ 62)
  (q:R (Itr lo (hi - lo).toNat) H):aJ (model X.prog X.w) X.A (lR (.ref s.heap.objs.size)) (PIE X pins σ tg R) E { s with heap:=s.heap.push { cls:=.type "range", data:=.fields #[.int lo t,.int hi u,.int 1 v] },toks:=tk }:=by
 refine ll (l6 ..) (small_one h1 h2 h3 h4) ?_
 have I1:Inv X pins σ H { s with heap:=s.heap.push { cls:=.type "range", data:=.fields #[.int lo t,.int hi u,.int 1 v] },toks:=tk }:=I.kept fun b o e=>ai _ e
 refine⟨(s.heap.push { cls:=.type "range", data:=.fields #[.int lo t,.int hi u,.int 1 v] }).objs.size,[(s.heap.push { cls:=.type "range", data:=.fields #[.int lo t,.int hi u,.int 1 v] }).objs.size],_,_,H,rfl,
  I1.kept (t':=tk) fun b o e=>ai _ e,Rl _ lo (hi - lo).toNat,?_,fun b hb=>?_,q⟩
 ·have e1:lo+((0:Nat):Int) * 1=lo:=by simp
  have e2:(((hi - lo).toNat:Nat):Int) - ((0:Nat):Int)=cr lo hi 1:=by rw [rangeSize_one];split <;> omega
  show ky _ _ (lo+((0:Nat):Int) * 1) ((((hi - lo).toNat:Nat):Int) - ((0:Nat):Int)) 1
  rw [e1,e2]
  exact az _ rfl
 ·have e:b=(s.heap.push { cls:=.type "range", data:=.fields #[.int lo t,.int hi u,.int 1 v] }).objs.size:=by simpa using hb
  subst e
  exact I1.fpOk (aj _) (I1.hok.fresh (aj _))
noncomputable def bh5 (wi:TI) (g:TG) (tb:TS):TS:=fun D σ H=>wi σ H fun J H1=>∃ W:Nat->Nat->St->Hp->Prop,(∃ m,W 0 m σ H1) /\ ∀ i m σ H,W i m σ H ->
 (J.stop i H/\D.nx σ H)\/(J.go i H /\ ∃ N:St->Hp->Prop,(∀ σ' H',N σ' H' -> ∃ m',m'<m/\W (i+1) m' σ' H') /\ ∀ x H',J.yld i H x H'->g x σ H' fun σ2 H2=>tb { D with nx:=N,ct:=N,bk:=D.nx } σ2 H2)
noncomputable def Gz (fp:List Addr) (h:Heap):List (Addr×Obj):=fp.filterMap fun b=>(h.get? b).map fun o=>(b,o)
theorem D7 {fp:List Addr} {h:Heap} {b:Addr} {o:Obj} (hb:b∈fp) (e:h.get? b=some o):(b,o)∈Gz fp h:=List.mem_filterMap.mpr ⟨b,hb,by rw [e];rfl⟩
theorem U7 {fp:List Addr} {h:Heap} {p:Addr×Obj} (hp:p∈Gz fp h):p.1∈fp/\h.get? p.1=some p.2:=by
 obtain⟨b,hb,e⟩:=List.mem_filterMap.mp hp
 cases q:h.get? b with
 | none=>rw [q] at e;cases e
 | some o=>
  rw [q] at e
  have e':(b,o)=p:=av e
  subst e'
  exact⟨hb,q⟩
theorem Inv.pinned {pins:List (Addr×Obj)} {σ:St} {H:Hp} {s:al} {fp:List Addr} (I:Inv X pins σ H s) (hf:∀ b∈fp,C9 X pins H b) (ho:∀ b∈fp,∃ o,s.heap.get? b=some o /\ ∀ v,o.data≠.cell v):Inv X (pins++Gz fp s.heap) σ H s:=
 I.pins_of fun p hp=>(List.mem_append.mp hp).elim (fun z=>I.pin p (aR _ z)) fun z=>by
  obtain⟨hb,e⟩:=U7 z
  obtain⟨f0,f1,f2,_⟩:=hf p.1 hb
  obtain⟨o,e',d⟩:=ho p.1 hb
  rw [e] at e';cases e'
  exact⟨e,f0,f1,f2,d⟩
theorem Inv.unpinned {pins pl:List (Addr×Obj)} {σ:St} {H:Hp} {s:al} (I:Inv X (pins++pl) σ H s):Inv X pins σ H s:=I.pins_of fun p hp=>I.pin p (aR _ (c8 _ hp))
theorem ay8 {iter:Expr} {body:List Stmt} {wi:TI} {g:TG} {tb:TS} {pos:Pos} (hp:jM (model X.prog X.w) X.A X.env X.xe) (hc:X.calm=true) (hi:PI X tg iter wi) (hg:PG X tg g) (hb:PSs X body tb)
  (hs:∀ x,eZ iter X.env x=pure x:=by intro _;rfl):PS X (.For tg iter body [] pos) (bh5 wi g tb):=by
 intro pins s σ H D I h
 refine wpAny_For (thn (hi pins s σ H _ I h) fun v s1 h1=>thn h1 fun itv s2 h2=>?_) hs
 obtain⟨it,fp,tn,J,H2,e,I2,T,st2,f2,W,⟨m0,w0⟩,turn⟩:=h2
 subst e
 have stat:∀ {H':Hp},(∀ b∈fp,H' b=none) -> ∀ b∈fp,C9 X pins H' b:=fun hn b hb=>⟨hn b hb,(f2 b hb).2⟩
 refine codeAny_forLoop_any (fun n s'=>∃ i σ' H',Inv X pins σ' H' s'/\tn i s'.heap/\(∀ b∈fp,H' b=none)/\W i n σ' H') ?_ m0 ⟨0,σ,H2,I2,st2,fun b hb=>(f2 b hb).1,w0⟩
 rintro n s3 ⟨i,σ3,H3,I3,st3,fr3,w3⟩
 rcases turn i n σ3 H3 w3 with ⟨stop,qn⟩|⟨go,N,hN,step⟩
 ·refine fM hp (thn (T.done X rfl rfl rfl hc i pins s3 σ3 H3 X.xe I3 (stat fr3) st3 stop) fun r s4 ⟨hr,I4⟩=>?_)
  subst hr
  exact jW ⟨σ3,H3,I4,qn⟩
 ·refine fM hp (thn (T.item X rfl rfl rfl hc i pins s3 σ3 H3 X.xe I3 (stat fr3) st3 go) fun r s4 ⟨u,hr,h4⟩=>?_)
  subst hr
  refine fM hp (thn h4 fun _ s5 ⟨x,H5,I5,r5,y5,st5,fr5⟩=>?_)
  have I5':=I5.pinned (stat fr5) (T.obj _ _ st5)
  refine fM hp (thn (hg _ s5 σ3 H5 x u _ I5' r5 (step x H5 y5)) fun _ s6 ⟨σ6,H6,I6,q6⟩=>?_)
  refine fM hp (thn (hb _ s6 σ6 H6 _ I6 q6) fun f s7 q7=>?_)
  have again:∀ {σ7:St} {H7:Hp},Inv X (pins++Gz fp s5.heap) σ7 H7 s7->N σ7 H7 -> ∃ m,m<n /\ ∃ i σ' H',Inv X pins σ' H' s7/\tn i s7.heap/\(∀ b∈fp,H' b=none)/\W i m σ' H':=fun {σ7 H7} I7 n7=>by
   obtain⟨m',hm,w7⟩:=hN σ7 H7 n7
   refine⟨m',hm,i+1,σ7,H7,I7.unpinned,T.keep _ _ _ st5 fun b hb o e=>(I7.pin (b,o) (aR _ (aR _ (D7 hb e)))).1,fun b hb=>?_,w7⟩
   obtain⟨o,e,d⟩:=T.obj _ _ st5 b hb
   exact (I7.pin (b,o) (aR _ (aR _ (D7 hb e)))).2.1
  cases f with
  | next=>obtain⟨σ7,H7,I7,n7⟩:=q7;exact again I7 n7
  | cont=>obtain⟨σ7,H7,I7,n7⟩:=q7;exact again I7 n7
  | brk=>obtain⟨σ7,H7,I7,q7⟩:=q7;exact⟨σ7,H7,I7.unpinned,q7⟩
  | ret v=>obtain⟨x7,σ7,H7,I7,r7,q7⟩:=q7;exact⟨x7,σ7,H7,I7.unpinned,r7,q7⟩
end
noncomputable abbrev R2:=V->V->Hp->VK->Prop
noncomputable def OpR (X:Cx) (f:ah->ah->Sem ah) (r:R2):Prop:=
 ∀ (pins:List (Addr×Obj)) (s:al) (σ:St) (H:Hp) (x y:V) (v u:ah) (Q:VK),Inv X pins σ H s->RelV x v->RelV y u->r x y H Q ->
  aJ (model X.prog X.w) X.A (f v u) (EP X pins σ Q) X.xe s
noncomputable def UnR (X:Cx) (f:ah->Sem ah) (r:V->Hp->VK->Prop):Prop:=
 ∀ (pins:List (Addr×Obj)) (s:al) (σ:St) (H:Hp) (x:V) (v:ah) (Q:VK),Inv X pins σ H s->RelV x v->r x H Q ->
  aJ (model X.prog X.w) X.A (f v) (EP X pins σ Q) X.xe s
noncomputable def B0 (X:Cx) (f:ah) (r:List V->Hp->VK->Prop):Prop:=
 ∀ (pins:List (Addr×Obj)) (s:al) (σ:St) (H:Hp) (xs:List V) (us:List ah) (Q:VK),Inv X pins σ H s->Vals xs us->r xs H Q ->
  aJ (model X.prog X.w) X.A (call f us) (EP X pins σ Q) X.xe s
noncomputable def a45 (X:Cx) (r:V->Hp->(Bool->Hp->Prop)->Prop):Prop:=
 ∀ (pins:List (Addr×Obj)) (s:al) (σ:St) (H:Hp) (x:V) (v:ah) (Q:Bool->Hp->Prop),Inv X pins σ H s->RelV x v->r x H Q ->
  aJ (model X.prog X.w) X.A (truthy v) (TP X pins σ Q) X.xe s
noncomputable def tOp (r:R2) (ta tb:TE):TE:=fun σ H Q=>ta σ H fun x H1=>tb σ H1 fun y H2=>r x y H2 Q
noncomputable def tUn (r:V->Hp->VK->Prop) (ta:TE):TE:=fun σ H Q=>ta σ H fun x H1=>r x H1 Q
noncomputable def rI (C:Int->Int->Prop) (g:Int->Int->V):R2:=fun x y H Q=>∃ i j,x=.int i/\y=.int j/\C i j/\Q (g i j) H
noncomputable def rI0 (g:Int->Int->V):R2:=fun x y H Q=>∃ i j,x=.int i/\y=.int j/\Q (g i j) H
noncomputable def rU (g:Int->V):V->Hp->VK->Prop:=fun x H Q=>∃ i,x=.int i/\Q (g i) H
section
variable {X:Cx} {a b c:Expr} {ta tb tc:TE} {pos:Pos}
theorem aq1 (ha:PE X a ta) (hb:PE X b tb) {pins:List (Addr×Obj)} {s:al} {σ:St} {H:Hp} {R:V->V->Hp->Prop} (I:Inv X pins σ H s)
  (h:ta σ H fun x H1=>tb σ H1 fun y H2=>R x y H2) {Q:ah->al->Prop} {f:ah->ah->Sem ah}
  (hf:∀ v u s2 x y H2,Inv X pins σ H2 s2->RelV x v->RelV y u->R x y H2->aJ (model X.prog X.w) X.A (f v u) Q X.xe s2) :
  aJ (model X.prog X.w) X.A (eval a X.env) (fun v s₁=>aJ (model X.prog X.w) X.A (eval b X.env) (fun u s₂=>aJ (model X.prog X.w) X.A (f v u) Q X.xe s₂) X.xe s₁) X.xe s:=by
 refine thn (ha pins s σ H _ I h) fun v s1 ⟨x,H1,I1,r1,q1⟩=>?_
 refine thn (hb pins s1 σ H1 _ I1 q1) fun u s2 ⟨y,H2,I2,r2,q2⟩=>?_
 exact hf v u s2 x y H2 I2 r1 r2 q2
theorem a99 {op:lU} {r:R2} (ho:OpR X (dA op) r) (ha:PE X a ta) (hb:PE X b tb):PE X (.BinOp a op b pos) (tOp r ta tb):=by
 intro pins s σ H Q I h
 exact wpAny_BinOp (aq1 ha hb I h fun v u s2 x y H2 I2 rx ry q=>ho pins s2 σ H2 x y v u Q I2 rx ry q)
theorem ak5 {op:UnaryOp} {r:V->Hp->VK->Prop} (ho:UnR X (mF op) r) (ha:PE X a ta):PE X (.UnaryOp op a pos) (tUn r ta):=by
 intro pins s σ H Q I h
 exact UnaryOp_ (thn (ha pins s σ H _ I h) fun v s1 ⟨x,H1,I1,r1,q1⟩=>ho pins s1 σ H1 x v Q I1 r1 q1)
theorem opI {f:ah->ah->Sem ah} {C:Int->Int->Prop} {g:Int->Int->Int}
  (rule:∀ (i j:Int) (t u:Tok) (s:al) (Q:ah->al->Prop) (E:ah->al->Prop),C i j->Q (.int (g i j) s.toks) { s with toks:=s.toks+1 }->aJ (model X.prog X.w) X.A (f (.int i t) (.int j u)) Q E s) :
  OpR X f (rI C fun i j=>.int (g i j)):=by
 intro pins s σ H x y v u Q I rx ry h
 obtain⟨i,j,rfl,rfl,hc,q⟩:=h
 obtain⟨t,rfl⟩:=rx
 obtain⟨t',rfl⟩:=ry
 exact rule i j t t' s _ _ hc ⟨.int (g i j),H,I.tok _,⟨_,rfl⟩,q⟩
theorem Yj {f:ah->ah->Sem ah} {g:Int->Int->Int}
  (rule:∀ (i j:Int) (t u:Tok) (s:al) (Q:ah->al->Prop) (E:ah->al->Prop),Q (.int (g i j) s.toks) { s with toks:=s.toks+1 }->aJ (model X.prog X.w) X.A (f (.int i t) (.int j u)) Q E s) :
  OpR X f (rI0 fun i j=>.int (g i j)):=by
 intro pins s σ H x y v u Q I rx ry h
 obtain⟨i,j,rfl,rfl,q⟩:=h
 obtain⟨t,rfl⟩:=rx
 obtain⟨t',rfl⟩:=ry
 exact rule i j t t' s _ _ ⟨.int (g i j),H,I.tok _,⟨_,rfl⟩,q⟩
theorem ae4 {f:ah->ah->Sem ah} {g:Int->Int->Bool}
  (rule:∀ (i j:Int) (t u:Tok) (s:al) (Q:ah->al->Prop) (E:ah->al->Prop),Q (.bool (g i j)) s->aJ (model X.prog X.w) X.A (f (.int i t) (.int j u)) Q E s) :
  OpR X f (rI0 fun i j=>.bl (g i j)):=by
 intro pins s σ H x y v u Q I rx ry h
 obtain⟨i,j,rfl,rfl,q⟩:=h
 obtain⟨t,rfl⟩:=rx
 obtain⟨t',rfl⟩:=ry
 exact rule i j t t' s _ _ ⟨.bl (g i j),H,I,rfl,q⟩
noncomputable def a41 (i j:Int):Prop:=0<j/\j<1073741824
noncomputable def ab1 (i j:Int):Prop:=0<=j/\j<=1000000/\i.natAbs<2 ^ 64
noncomputable def CMul (i j:Int):Prop:=(-(2 ^ 64)<i/\i<2 ^ 64)\/(-(2 ^ 64)<j/\j<2 ^ 64)
theorem CMul.ok {i j:Int} (h:CMul i j):IntMulOk i j:=by
 rcases h with ⟨h1,h2⟩|⟨h1,h2⟩
 ·exact .of_left (intBits_le_64 h1 h2)
 ·exact .of_right (intBits_le_64 h1 h2)
theorem Rn (k:Nat):(0:Int)<=2 ^ k:=by
 rw [two_pow_cast]
 exact kL _
theorem aw2:OpR X (dA .Add) (rI0 fun i j=>.int (i+j)):=Yj fun _ _ _ _ _ _ _ q=>add_int q
theorem ax6:OpR X (dA .Sub) (rI0 fun i j=>.int (i - j)):=Yj fun _ _ _ _ _ _ _ q=>sub_int q
theorem aw9:OpR X (dA .Mult) (rI CMul fun i j=>.int (i * j)):=opI fun _ _ _ _ _ _ _ hc q=>mul_int q hc.ok
theorem ae6:OpR X (dA .FloorDiv) (rI a41 fun i j=>.int (i / j)):=opI fun i j _ _ _ _ _ hc q=>by
 have h1:(0:Int)<j:=hc.1
 have h2:j<1073741824:=hc.2
 exact floordiv_int (by omega) (by rw [hG i (by omega)];exact q) (.inl (jt (by omega)))
theorem aw8:OpR X (dA .Mod) (rI (fun _ j=>0<j) fun i j=>.int (i % j)):=opI fun i j _ _ _ _ _ hc q=>by
 have h1:(0:Int)<j:=hc
 exact mod_int' (by omega) (by rw [Int.fmod_eq_emod_of_nonneg i (by omega)];exact q)
theorem ax3:OpR X (dA .Pow) (rI ab1 fun i j=>.int (i ^ j.toNat)):=opI fun _ _ _ _ _ _ _ hc q=>pow_int_small hc.1 hc.2.1 hc.2.2 q
theorem ax4:OpR X (dA .LShift) (rI ab1 fun i j=>.int (i * 2 ^ j.toNat)):=opI fun _ _ _ _ _ _ _ hc q=>lshift_int_small hc.1 hc.2.1 hc.2.2 q
theorem ax5:OpR X (dA .RShift) (rI (fun _ j=>0<=j) fun i j=>.int (i / 2 ^ j.toNat)):=opI fun i j _ _ _ _ _ hc q=>
 rshift_int hc (by rw [hG i (Rn _)];exact q)
theorem aw3:OpR X (dA .BitAnd) (rI0 fun i j=>.int (cm i j)):=Yj fun _ _ _ _ _ _ _ q=>and_int q
theorem a95:OpR X (dA .BitOr) (rI0 fun i j=>.int (cS i j)):=Yj fun _ _ _ _ _ _ _ q=>or_int q
theorem ax7:OpR X (dA .BitXor) (rI0 fun i j=>.int (Builtin.bitXor i j)):=Yj fun _ _ _ _ _ _ _ q=>xor_int q
theorem unI {f:ah->Sem ah} {g:Int->Int}
  (rule:∀ (i:Int) (t:Tok) (s:al) (Q:ah->al->Prop) (E:ah->al->Prop),Q (.int (g i) s.toks) { s with toks:=s.toks+1 }->aJ (model X.prog X.w) X.A (f (.int i t)) Q E s) :
  UnR X f (rU fun i=>.int (g i)):=by
 intro pins s σ H x v Q I rx h
 obtain⟨i,rfl,q⟩:=h
 obtain⟨t,rfl⟩:=rx
 exact rule i t s _ _ ⟨.int (g i),H,I.tok _,⟨_,rfl⟩,q⟩
theorem a36:UnR X (mF .USub) (rU fun i=>.int (-i)):=unI fun _ _ _ _ _ q=>neg_int q
theorem a35:UnR X (mF .Invert) (rU fun i=>.int (ce i)):=unI fun _ _ _ _ _ q=>invert_int q
end
noncomputable def a26:V->V->Bool
 | .non,.non=>true | .non,.int _=>true | .int _,.non=>true | .non,.bl _=>true | .bl _,.non=>true | .non,.str _=>true | .str _,.non=>true
 | .int _,.int _=>true | .bl _,.bl _=>true | .str _,.str _=>true | .byt _,.byt _=>true
 | .int _,.str _=>true | .str _,.int _=>true | .bl _,.str _=>true | .str _,.bl _=>true
 | _,_=>false
noncomputable def rEq:R2:=fun x y H Q=>a26 x y=true/\Q (.bl (decide (x=y))) H
noncomputable def rNe:R2:=fun x y H Q=>a26 x y=true/\Q (.bl (!decide (x=y))) H
theorem Hs {i j:Int}:decide (V.int i=V.int j)=(i==j):=by
 rw [bT]
 simp
theorem Ma {i j:Bool}:decide (V.bl i=V.bl j)=(i==j):=by
 rw [bT]
 simp
theorem Ht {i j:Str}:decide (V.str i=V.str j)=(i==j):=by
 rw [bT]
 simp
theorem R6 {i j:Array UInt8}:decide (V.byt i=V.byt j)=(i.toList==j.toList):=by
 rw [bT]
 cases i
 cases j
 simp
section
variable {X:Cx} {a b c:Expr} {ta tb tc:TE} {pos:Pos}
theorem Ar {pins:List (Addr×Obj)} {σ:St} {H:Hp} {s:al} {Q:VK} {k k':Bool} (I:Inv X pins σ H s) (q:Q (.bl k) H) (e:k=k'):EP X pins σ Q (.bool k') s:=by
 subst e
 exact⟨.bl k,H,I,rfl,q⟩
theorem Sr:OpR X (b5 .Eq) rEq:=by
 intro pins s σ H x y v u Q I rx ry h
 obtain⟨hs,q⟩:=h
 cases x with
 | non=>
  cases rx
  cases y with
  | non=>cases ry;exact PySem.EqNone.eq_none_none (Ar I q (by simp))
  | bl j=>cases ry;exact PySem.EqNone.eq_none_bool (Ar I q (by simp))
  | int j=>obtain⟨t',rfl⟩:=ry;exact PySem.EqNone.eq_none_int (Ar I q (by simp))
  | str j=>obtain⟨t',rfl⟩:=ry;exact PySem.EqNone.eq_none_str (Ar I q (by simp))
  | _=>exact absurd (show false=true from hs) au
 | bl i=>
  cases rx
  cases y with
  | non=>cases ry;exact PySem.EqNone.eq_bool_none (Ar I q (by simp))
  | bl j=>cases ry;exact eq_bool (Ar I q Ma)
  | str j=>obtain⟨t',rfl⟩:=ry;exact PySem.EqMixed.eq_bool_str (Ar I q (by simp))
  | _=>exact absurd (show false=true from hs) au
 | int i=>
  obtain⟨t,rfl⟩:=rx
  cases y with
  | non=>cases ry;exact PySem.EqNone.eq_int_none (Ar I q (by simp))
  | int j=>obtain⟨t',rfl⟩:=ry;exact eq_int (Ar I q Hs)
  | str j=>obtain⟨t',rfl⟩:=ry;exact PySem.EqMixed.eq_int_str (Ar I q (by simp))
  | _=>exact absurd (show false=true from hs) au
 | str i=>
  obtain⟨t,rfl⟩:=rx
  cases y with
  | non=>cases ry;exact PySem.EqNone.eq_str_none (Ar I q (by simp))
  | bl j=>cases ry;exact PySem.EqMixed.eq_str_bool (Ar I q (by simp))
  | int j=>obtain⟨t',rfl⟩:=ry;exact PySem.EqMixed.eq_str_int (Ar I q (by simp))
  | str j=>obtain⟨t',rfl⟩:=ry;exact eq_str (Ar I q Ht)
  | _=>exact absurd (show false=true from hs) au
 | byt i=>
  obtain⟨t,rfl⟩:=rx
  cases y with
  | byt j=>obtain⟨t',rfl⟩:=ry;exact PySem.W.eq_bytes (Ar I q R6)
  | _=>exact absurd (show false=true from hs) au
 | _=>cases y <;> exact absurd (show false=true from hs) au
theorem Ss:OpR X (b5 .NotEq) rNe:=by
 intro pins s σ H x y v u Q I rx ry h
 obtain⟨hs,q⟩:=h
 cases x with
 | non=>
  cases rx
  cases y with
  | non=>cases ry;exact PySem.EqNone.ne_none_none (Ar I q (by simp))
  | bl j=>cases ry;exact PySem.EqNone.ne_none_bool (Ar I q (by simp))
  | int j=>obtain⟨t',rfl⟩:=ry;exact PySem.EqNone.ne_none_int (Ar I q (by simp))
  | str j=>obtain⟨t',rfl⟩:=ry;exact PySem.EqNone.ne_none_str (Ar I q (by simp))
  | _=>exact absurd (show false=true from hs) au
 | bl i=>
  cases rx
  cases y with
  | non=>cases ry;exact PySem.EqNone.ne_bool_none (Ar I q (by simp))
  | bl j=>cases ry;exact ne_bool (Ar I q (congrArg not Ma))
  | str j=>obtain⟨t',rfl⟩:=ry;exact PySem.EqMixed.ne_bool_str (Ar I q (by simp))
  | _=>exact absurd (show false=true from hs) au
 | int i=>
  obtain⟨t,rfl⟩:=rx
  cases y with
  | non=>cases ry;exact PySem.EqNone.ne_int_none (Ar I q (by simp))
  | int j=>obtain⟨t',rfl⟩:=ry;exact ne_int (Ar I q (congrArg not Hs))
  | str j=>obtain⟨t',rfl⟩:=ry;exact PySem.EqMixed.ne_int_str (Ar I q (by simp))
  | _=>exact absurd (show false=true from hs) au
 | str i=>
  obtain⟨t,rfl⟩:=rx
  cases y with
  | non=>cases ry;exact PySem.EqNone.ne_str_none (Ar I q (by simp))
  | bl j=>cases ry;exact PySem.EqMixed.ne_str_bool (Ar I q (by simp))
  | int j=>obtain⟨t',rfl⟩:=ry;exact PySem.EqMixed.ne_str_int (Ar I q (by simp))
  | str j=>obtain⟨t',rfl⟩:=ry;exact ne_str (Ar I q (congrArg not Ht))
  | _=>exact absurd (show false=true from hs) au
 | byt i=>
  obtain⟨t,rfl⟩:=rx
  cases y with
  | byt j=>obtain⟨t',rfl⟩:=ry;exact PySem.W.ne_bytes (Ar I q (congrArg not R6))
  | _=>exact absurd (show false=true from hs) au
 | _=>cases y <;> exact absurd (show false=true from hs) au
theorem a94:OpR X (b5 .Lt) (rI0 fun i j=>.bl (decide (i<j))):=ae4 fun _ _ _ _ _ _ _ q=>lt_int q
theorem a93:OpR X (b5 .LtE) (rI0 fun i j=>.bl (decide (i<=j))):=ae4 fun _ _ _ _ _ _ _ q=>le_int q
theorem a92:OpR X (b5 .Gt) (rI0 fun i j=>.bl (decide (j<i))):=ae4 fun _ _ _ _ _ _ _ q=>gt_int q
theorem a91:OpR X (b5 .GtE) (rI0 fun i j=>.bl (decide (j<=i))):=ae4 fun _ _ _ _ _ _ _ q=>ge_int q
theorem Va:OpR X (b5 .Lt) (fun x y H Q=>∃ i j,x=.str i/\y=.str j/\Q (.bl (decide (i.cps.toList<j.cps.toList))) H):=by
 intro pins s σ H x y v u Q I rx ry h
 obtain⟨i,j,rfl,rfl,q⟩:=h
 obtain⟨t,rfl⟩:=rx
 obtain⟨t',rfl⟩:=ry
 exact lt_str (Ar I q rfl)
theorem aw7:OpR X (b5 .Is) (fun x y H Q=>y=.non/\Q (.bl (decide (x=.non))) H):=by
 intro pins s σ H x y v u Q I rx ry h
 obtain⟨rfl,q⟩:=h
 cases ry
 refine is_none_gen (Ar I q ?_)
 cases x <;> first
  | (cases rx;rfl)
  | (obtain⟨t,rfl⟩:=rx;rfl)
  | (obtain⟨t,rfl,_⟩:=rx;rfl)
theorem ae7:OpR X (b5 .IsNot) (fun x y H Q=>y=.non/\Q (.bl (!decide (x=.non))) H):=by
 intro pins s σ H x y v u Q I rx ry h
 obtain⟨rfl,q⟩:=h
 cases ry
 refine isnot_none_gen (Ar I q ?_)
 cases x <;> first
  | (cases rx;rfl)
  | (obtain⟨t,rfl⟩:=rx;rfl)
  | (obtain⟨t,rfl,_⟩:=rx;rfl)
theorem OpR.or {f:ah->ah->Sem ah} {r r':R2} (h:OpR X f r) (h':OpR X f r'):OpR X f (fun x y H Q=>r x y H Q\/r' x y H Q):=by
 intro pins s σ H x y v u Q I rx ry q
 rcases q with q|q
 ·exact h pins s σ H x y v u Q I rx ry q
 ·exact h' pins s σ H x y v u Q I rx ry q
theorem af0 {op:mw} {r:R2} (ho:OpR X (b5 op) r) (ha:PE X a ta) (hb:PE X b tb) (hm:i6 op b=false):PE X (.Compare a [op] [b] pos) (tOp r ta tb):=by
 intro pins s σ H Q I h
 exact wpAny_Compare1 (aq1 ha hb I h fun v u s2 x y H2 I2 rx ry q=>ho pins s2 σ H2 x y v u Q I2 rx ry q) hm
noncomputable def a46 (K:ac) (x:V) (H:Hp) (k:Bool):Prop:=
 match x with
 | .non=>k=false
 | .bl b=>k=b
 | .int i=>k=(i != 0)
 | .str y=>y.length<=sizeLine/\k=((y.length:Int) != 0)
 | .byt y=>y.size<=sizeLine/\k=((y.size:Int) != 0)
 | .ref p=>(∃ xs,SqL K H p xs/\k = !xs.isEmpty)\/(∃ xs,SqT K H p xs/\k = !xs.isEmpty) \/ ∃ kvs,H p=some (.dK kvs)/\k = !kvs.isEmpty
 | _=>False
theorem P6 {κ:Type} {kvs:List (κ×V)} {vs:List (κ×ah)} (r:KV kvs vs):(!vs.isEmpty) = !kvs.isEmpty:=by
 cases r <;> rfl
theorem Jg {xs:List V} {its:List ah} (r:Vals xs its):(!its.toArray.isEmpty) = !xs.isEmpty:=by
 cases r <;> simp
theorem Es:(sizeLine:Nat)<2 ^ 63:=by rw [bz];decide
theorem J9:a45 X (fun x H Q=>∃ k,a46 X.K x H k/\Q k H):=by
 intro pins s σ H x v Q I rx h
 obtain⟨k,e,q⟩:=h
 have hl:=Es
 have hs:sizeLine=16777216:=bz
 cases x with
 | non=>
  cases rx
  have e':k=false:=e
  subst e'
  exact truthy_none ⟨H,I,q⟩
 | bl b=>
  cases rx
  have e':k=b:=e
  subst e'
  exact cR ⟨H,I,q⟩
 | int i=>
  obtain⟨t,rfl⟩:=rx
  have e':k=(i != 0):=e
  subst e'
  exact PySem.P.truthy_int ⟨H,I,q⟩
 | str y=>
  obtain⟨t,rfl⟩:=rx
  obtain⟨hy,e'⟩:y.length<=sizeLine/\k=((y.length:Int) != 0):=e
  subst e'
  exact PySem.P.truthy_str (by omega) ⟨H,I.tok _,q⟩
 | byt y=>
  obtain⟨t,rfl⟩:=rx
  obtain⟨hy,e'⟩:y.size<=sizeLine/\k=((y.size:Int) != 0):=e
  subst e'
  exact PySem.W.truthy_bytes (by omega) ⟨H,I.tok _,q⟩
 | ref p=>
  cases rx
  have e':(∃ xs,SqL X.K H p xs/\k = !xs.isEmpty)\/(∃ xs,SqT X.K H p xs/\k = !xs.isEmpty) \/ ∃ kvs,H p=some (.dK kvs)/\k = !kvs.isEmpty:=e
  rcases e' with ⟨xs,hx,e'⟩|⟨xs,hx,e'⟩|⟨kvs,hx,e'⟩
  ·subst e'
   obtain⟨its,r,pl,hz⟩:=I.list hx
   have hlen:=r.length
   exact wpAny_truthy_list pl.isList (by simp only [aq];omega) ⟨H,I.tok _,by rw [Jg r];exact q⟩
  ·subst e'
   obtain⟨its,r,pl,hz⟩:=I.tuple hx
   have hlen:=r.length
   exact truthy_tuple pl (by simp only [aq];omega) ⟨H,I.tok _,by rw [Jg r];exact q⟩
  ·subst e'
   obtain⟨hz,hS,vs,r,m⟩:kvs.length<=sizeLine/\(p==cI)=false /\ ∃ vs,KV kvs vs/\s.heap.DictOf (A0 X.prog X.w) p vs:=I.hok p _ hx
   have hlen:kvs.length=vs.length:=iW r
   exact wpAny_truthy_dict hS m (by omega) ⟨H,I.tok _,by rw [P6 r];exact q⟩
 | _=>exact (show False from e).elim
theorem Qm:OpR X (dA .Add) (fun x y H Q=>∃ i j,x=.str i/\y=.str j/\i.length+j.length<=sizeLine/\Q (.str (i++j)) H):=by
 intro pins s σ H x y v u Q I rx ry h
 obtain⟨i,j,rfl,rfl,hz,q⟩:=h
 obtain⟨t,rfl⟩:=rx
 obtain⟨t',rfl⟩:=ry
 exact bu (aj _) (add_str (fun t' tk htk=>⟨.str (i++j),H,I.tok _ htk,⟨_,rfl⟩,q⟩) hz)
theorem C8 {x:V} {us:List ah} (r:Vals [x] us):∃ u,us=[u]/\RelV x u:=by
 cases r with
 | cons r1 r2=>cases r2;exact⟨_,rfl,r1⟩
theorem be8 {x y:V} {us:List ah} (r:Vals [x,y] us):∃ u w',us=[u,w']/\RelV x u/\RelV y w':=by
 cases r with
 | cons r1 r2=>
  cases r2 with
  | cons r3 r4=>cases r4;exact⟨_,_,rfl,r1,r3⟩
theorem Kt:B0 X (.type "int") (fun xs H Q=>(∃ i,xs=[.int i]/\Q (.int i) H) \/ ∃ k,xs=[.bl k]/\Q (.int (if k then 1 else 0)) H):=by
 intro pins s σ H xs us Q I r h
 rcases h with ⟨i,rfl,q⟩|⟨k,rfl,q⟩
 ·obtain⟨u,rfl,t,rfl⟩:=C8 r
  exact call_int_int ⟨.int i,H,I,⟨_,rfl⟩,q⟩
 ·obtain⟨u,rfl,r1⟩:=C8 r
  cases r1
  exact call_int_bool ⟨.int (if k then 1 else 0),H,I.tok _,⟨_,rfl⟩,q⟩
end
structure ObjM (h:Heap) (x dx C:Addr) (mA:Str->Option ah):Prop where
 obj:h.get? x=some (bO C dx)
 ns:h.Ns1 dx mA
 ne:dx≠x
theorem Ux {h:Heap} {dx:Addr} {mA:Str->Option ah} (n:h.Ns1 dx mA):∃ od,h.get? dx=some od /\ ∀ name,im name od=some (mA name):=by
 obtain⟨o,es,ep,ho,hd,hk,_,hm⟩:=n
 refine⟨o,ho,fun name=>?_⟩
 have e:=hm name
 unfold nsFind findBy at e
 rw [<- Array.find?_toList] at e
 unfold im
 rw [hd]
 dsimp only
 split
 ·rename_i y q
  rw [q] at e
  exact congrArg some e
 ·rename_i q
  rw [q] at e
  have a:es.toList.any (·.refKey)=false:=by
   rw [iA]
   intro y hy
   obtain⟨z,t,hkey⟩:=hk y (Array.mem_toList_iff.mp hy)
   simp [DictEntry.refKey,hkey]
  have a':¬ es.toList.any (·.refKey)=true:=by rw [a];exact au
  rw [if_neg a']
  exact congrArg some e
theorem ObjM.look {h:Heap} {x dx C:Addr} {mA:Str->Option ah} (I:ObjM h x dx C mA):∃ od,PySem.W.InstAt h x (bO C dx) C (some od) /\ ∀ name,im name od=some (mA name):=
 let ⟨od,ho,hl⟩:=Ux I.ns
 ⟨od,⟨I.obj,rfl,rfl,ho⟩,hl⟩
section
variable {prog:aS} {w:bB} {A:a_} {E:ah->al->Prop} {s:al} {K:ac} {x dx C f:Addr} {mA:Str->Option ah} {name:Str} {v:ah}
theorem Al {expr:Bool} {Q:ah->al->Prop} (X:K.In s.heap) (I:ObjM s.heap x dx C mA) (hg:dv K C name=true) (hh:dL K C=true)
  (ha:aO K (.ref C) name=some none) (hv:mA name=some v) (hv':PySem.W.handedIn v=true) (h:Q v { s with toks:=s.toks+1 }) :
  aJ (model prog w) A (getAttr (.ref x) name expr) Q E s:=by
 obtain⟨od,J,hl⟩:=I.look
 exact PySem.W.get_value X J (gW hg).1 (PySem.W.findObj_own hh ha rfl (by rw [hl,hv])) hv' h
theorem Xp {pl:Sem Bool} {Q:ah×List ah->al->Prop} (X:K.In s.heap) (I:ObjM s.heap x dx C mA) (hg:dv K C name=true)
  (hf:aO K (.ref C) name=some (some (.ref f))) (ht:cE K (.ref f)=true) (hv:mA name=none) (h:Q (.ref f,[.ref x]) s) :
  aJ (model prog w) A (getMethod (.ref x) name pl) Q E s:=by
 obtain⟨od,J,hl⟩:=I.look
 exact PySem.W.method_fn X J (gW hg).1 (gW hg).2 hf (beq_iff_eq.mp ht) (by show (im name od).map (·.isSome)=some false;rw [hl,hv];rfl) h
theorem ai1 {ns:List Str} {Q:Unit->al->Prop} (X:K.In s.heap) (I:ObjM s.heap x dx C mA)
  (hs:aO K (.ref C) "__setattr__" = some (some (.builtin "object.__setattr__"))) (hp:eY K C=true) (ht:jQ K C name=some none) (hh:dL K C=true)
  (hw:jR mA ns) (hsz:ns.length<=sizeLine)
  (h:∀ h',ObjM h' x dx C (fun y=>if y=name then some v else mA y)->bg dx s.heap h'->Q () { s with heap:=h',toks:=s.toks+2 }) :
  aJ (model prog w) A (setAttr (.ref x) name v) Q E s:=by
 obtain⟨od,J,hl⟩:=I.look
 refine PySem.W.set_plain X J hs (PySem.W.osa_open (s:={ s with toks:=s.toks+1 }) (r:=none) X J hp ht fun b=>?_)
 obtain⟨cd,hc,hd'⟩:=PySem.W.any_some hh
 have hx:s.heap.get? x=some ⟨.ref C,some dx,.plain,#[]⟩:=I.obj
 refine ag (ar (ag (ag (wpAny_loadPart hx (ag (PySem.W.Looks.here (s:={ s with toks:=s.toks+1 }) (PySem.W.looks_clsIn X hc) ?_))))))
 rw [hd']
 refine ar (a:=some dx) (ag (ar (ag ?_)))
 refine wpAny_nsSet1 (s:={ s with toks:=s.toks+1 }) I.ns fun h' hn2 hs2=>?_
 obtain⟨oD,esD,epD,hoD,hdD,hcD⟩:=hn2.count (PySem.Within.cons name v hw)
 refine ag (wpAny_lookBehind hoD (by rw [hdD];exact pastItsLine_dict (aT hcD (by rw [aK];omega))) ?_)
 exact ar (h _ ⟨(hs2.2 _ (cB I.ne)).trans I.obj,hn2,I.ne⟩ hs2)
theorem X4 {R:Result->al->Prop} {vs:List ah} {kw:List (Str×ah)} (X:K.In s.heap) (hm:bX K C=true)
  (hi:aO K (.ref C) "__init__" = some (some (.ref f))) (hf:PySem.W.typeIn K (.ref f)=some (.type "function"))
  (h:ip (model prog w) (A.under (.builtin "type.__call__" ⟨.ref C::vs,kw⟩)) (.call (.ref f) ⟨.ref (s.heap.objs.size+1)::vs,kw⟩) (PySem.W.InitBack (s.heap.objs.size+1) R)
   {s with heap:=(s.heap.push bC).push (bO C s.heap.objs.size) }) :
  ip (model prog w) A (.call (.ref C) ⟨vs,kw⟩) R s:=by
 obtain⟨hh,g,d,t,os⟩:=s
 exact PySem.W.make_core (jg X hm) (j7 X hi) (fun self=>PySem.W.bind_fn X self hf) (.inl rfl) h
theorem Uy {R:Result->al->Prop} (X:K.In s.heap) (hm:bX K C=true)
  (hi:aO K (.ref C) "__init__" = some (some (.builtin "object.__init__")))
  (hb:∀ self,gI (model prog w) s.heap (bindSpecial (.builtin "object.__init__") self) (.builtin "object.__init__", [self]))
  (h:ip (model prog w) (A.under (.builtin "type.__call__" ⟨[.ref C],[]⟩)) (.call (.builtin "object.__init__") ⟨[.ref (s.heap.objs.size+1)],[]⟩) (PySem.W.InitBack (s.heap.objs.size+1) R)
   {s with heap:=(s.heap.push bC).push (bO C s.heap.objs.size) }) :
  ip (model prog w) A (.call (.ref C) ⟨[],[]⟩) R s:=by
 obtain⟨hh,g,d,t,os⟩:=s
 exact PySem.W.make_core (jg X hm) (j7 X hi) hb (.inr ⟨rfl,rfl⟩) h
end
noncomputable def Ev (f:Str) (v:V):List (Str×V)->List (Str×V)
 | []=>[(f,v)]
 | (g,x)::r=>if g=f then (g,v)::r else (g,x)::Ev f v r
theorem Hg (f g:Str) (v:V):∀ fs:List (Str×V),(Ev f v fs).lookup g=if g=f then some v else fs.lookup g
 | []=>by
  show fY g [(f,v)]=_
  by_cases h:g=f
  ·have hb:(g==f)=true:=beq_iff_eq.mpr h
   simp only [fY,hb,if_pos h]
  ·have hb:(g==f)=false:=beq_eq_false_iff_ne.mpr h
   simp only [fY,hb,if_neg h]
 | (k,x)::r=>by
  have ih:=Hg f g v r
  rw [show Ev f v ((k,x)::r)=(if k=f then (k,v)::r else (k,x)::Ev f v r) from rfl]
  by_cases hk:k=f
  ·rw [if_pos hk]
   by_cases h:g=k
   ·have hb:(g==k)=true:=beq_iff_eq.mpr h
    simp only [fY,hb,if_pos (h.trans hk)]
   ·have hb:(g==k)=false:=beq_eq_false_iff_ne.mpr h
    simp only [fY,hb,if_neg (fun e:g=f=>h (e.trans hk.symm))]
  ·rw [if_neg hk]
   by_cases h:g=k
   ·have hb:(g==k)=true:=beq_iff_eq.mpr h
    simp only [fY,hb,if_neg (fun e:g=f=>hk (h.symm.trans e))]
   ·have hb:(g==k)=false:=beq_eq_false_iff_ne.mpr h
    simp only [fY,hb]
    exact ih
theorem Gq (f:Str) (v:V):∀ fs:List (Str×V),f∈(Ev f v fs).map (·.1) /\ ∀ g,g∈fs.map (·.1)->g∈(Ev f v fs).map (·.1)
 | []=>⟨by simp [Ev],fun g h=>by simp at h⟩
 | (k,x)::r=>by
  obtain⟨i1,i2⟩:=Gq f v r
  rw [show Ev f v ((k,x)::r)=(if k=f then (k,v)::r else (k,x)::Ev f v r) from rfl]
  by_cases hk:k=f
  ·rw [if_pos hk]
   subst hk
   exact⟨by simp,fun g h=>by simpa using h⟩
  ·rw [if_neg hk]
   refine⟨?_,fun g h=>?_⟩
   ·rw [aY]
    exact ay _ i1
   ·rw [aY] at h ⊢
    rcases List.mem_cons.mp h with e|e
    ·exact List.mem_cons.mpr (.inl e)
    ·exact ay _ (i2 g e)
theorem Hc (f:Str) (v:V):∀ fs:List (Str×V),(Ev f v fs).length<=fs.length+1
 | []=>by simp [Ev]
 | (k,x)::r=>by
  have ih:=Hc f v r
  rw [show Ev f v ((k,x)::r)=(if k=f then (k,v)::r else (k,x)::Ev f v r) from rfl]
  by_cases hk:k=f
  ·rw [if_pos hk,aK,aK];omega
  ·rw [if_neg hk,aK,aK];omega
theorem RelO.some_of {v:V} {o:Option ah} (r:RelO (some v) o):∃ u,o=some u/\RelV v u:=by
 cases o with
 | none=>exact (show False from r).elim
 | some u=>exact⟨u,rfl,r⟩
theorem RelO.none_of {o:Option ah} (r:RelO none o):o=none:=by
 cases o with
 | none=>rfl
 | some u=>exact (show False from r).elim
theorem Ul {v:V} {u:ah} (r:RelV v u):PySem.W.handedIn u=true:=by
 cases v with
 | non=>cases (show u=bw from r);rfl
 | bl b=>cases (show u=gO b from r);rfl
 | int i=>obtain⟨t,e⟩:=(show ∃ t,u=k0 i t from r);cases e;rfl
 | str x=>obtain⟨t,e⟩:=(show ∃ t,u=gX x t from r);cases e;rfl
 | byt b=>obtain⟨t,e⟩:=(show ∃ t,u=Value.bytes b t from r);cases e;rfl
 | stk y n ex=>obtain⟨t,e,_⟩:=(show ∃ t,u=gX y t/\(if ex=true then t=n else n<=t) from r);cases e;rfl
 | ref a=>cases (show u=bG a from r);rfl
 | ty n=>cases (show u=fC n from r);rfl
section
variable {P:aS} {w:bB} {H H':Hp} {h h':Heap} {a C dx:Addr} {fs fs':List (Str×V)}
theorem Hw (hok:HOk P w H h) (e:H a=some (.ins C dx fs)):∃ mA,ObjM h a dx C mA/\(∀ f,RelO (fs.lookup f) (mA f))/\jR mA (fs.map (·.1))/\fs.length<=1000/\H dx=some (.own a):=by
 obtain⟨d,z,ne,ob,mA,n,r,q⟩:=(show ObjOk P w H h a (.ins C dx fs) from hok a _ e)
 exact⟨mA,⟨ob,n,ne⟩,r,q,z,d⟩
end
structure Cls (K:ac) (C:Addr):Prop where
 pg:dv K C dX=true
 hd:dL K C=true
 po:eY K C=true
 sa:aO K (.ref C) "__setattr__" = some (some (.builtin "object.__setattr__"))
theorem Cls.get {K:ac} {C:Addr} (c:Cls K C) (f:Str):dv K C f=true:=c.pg
noncomputable def NoAttr (K:ac) (C:Addr) (f:Str):Prop:=aO K (.ref C) f=some none
theorem NoAttr.taker {K:ac} {C:Addr} {f:Str} (n:NoAttr K C f):jQ K C f=some none:=by
 unfold jQ
 rw [show aO K (.ref C) f=some none from n]
 rfl
structure Il (K:ac) (C:Addr) (m:Str) (f:Addr):Prop where
 at_:aO K (.ref C) m=some (some (.ref f))
 fn:cE K (.ref f)=true
 kp:ba K (.ref f)=true
section
variable {X:Cx} {pins:List (Addr×Obj)} {σ:St} {H:Hp} {s:al} {a C dx:Addr} {fs:List (Str×V)} {f:Str} {v:V} {A:a_} {E:ah->al->Prop}
theorem P3 {b:Bool} {Q:ah->al->Prop} (I:Inv X pins σ H s) (e:H a=some (.ins C dx fs)) (c:Cls X.K C) (n:NoAttr X.K C f) (l:fs.lookup f=some v)
  (h:∀ u s',Inv X pins σ H s'->RelV v u->Q u s'):aJ (model X.prog X.w) A (getAttr (.ref a) f b) Q E s:=by
 obtain⟨mA,O,r,_,_,_⟩:=Hw I.hok e
 obtain⟨u,hu,ru⟩:=RelO.some_of (v:=v) (o:=mA f) (by rw [<- l];exact r f)
 exact Al I.kIn O (c.get f) c.hd n hu (Ul ru) (h u _ (I.tok _) ru)
theorem Jc {m:Str} {g:Addr} {pl:Sem Bool} {Q:ah×List ah->al->Prop} (I:Inv X pins σ H s) (e:H a=some (.ins C dx fs)) (c:Cls X.K C) (k:Il X.K C m g) (l:fs.lookup m=none)
  (h:Q (.ref g,[.ref a]) s):aJ (model X.prog X.w) A (getMethod (.ref a) m pl) Q E s:=by
 obtain⟨mA,O,r,_,_,_⟩:=Hw I.hok e
 have hn:mA m=none:=RelO.none_of (by rw [<- l];exact r m)
 exact Xp I.kIn O (c.get m) k.at_ k.fn hn h
theorem Qy {y:V} {u:ah} {Q:Unit->al->Prop} (I:Inv X pins σ H s) (e:H a=some (.ins C dx fs)) (c:Cls X.K C) (n:NoAttr X.K C f) (hl:fs.length<1000) (ry:RelV y u)
  (h:∀ s',Inv X pins σ (upd H a (.ins C dx (Ev f y fs))) s'->Q () s'):aJ (model X.prog X.w) A (setAttr (.ref a) f u) Q E s:=by
 obtain⟨mA,O,r,wi,_,ho⟩:=Hw I.hok e
 have hz:(fs.map (·.1)).length<=sizeLine:=by rw [ae,bz];omega
 refine ai1 I.kIn O c.sa c.po n.taker c.hd wi hz fun h' O' sb=>h _ ?_
 have hd:∃ o,h'.get? dx=some o:=let ⟨o,_,_,e',_⟩:=O'.ns;⟨o,e'⟩
 refine I.write (x:=a) (e:=dx) (by rw [e];exact aX) (.inr ho) (fun b q hb z=>(sb.2 b hb).trans z) hd ?_
 refine⟨by rw [Ad O.ne];exact ho,?_,O.ne,O'.obj,_,O'.ns,fun g=>?_,fun g hg=>?_⟩
 ·have:=Hc f y fs;omega
 ·show RelO ((Ev f y fs).lookup g) (if g=f then some u else mA g)
  rw [Hg]
  by_cases q:g=f
  ·rw [if_pos q,if_pos q];exact ry
  ·rw [if_neg q,if_neg q];exact r g
 ·by_cases q:g=f
  ·rw [q];exact (Gq f y fs).1
  ·refine (Gq f y fs).2 g (wi g fun z=>hg ?_)
   show (if g=f then some u else mA g)=none
   rw [if_neg q];exact z
theorem Inv.made (I:Inv X pins σ H s):Inv X pins σ (upd (upd H s.heap.objs.size (.own (s.heap.objs.size+1))) (s.heap.objs.size+1) (.ins C s.heap.objs.size []))
  {s with heap:=(s.heap.push bC).push (bO C s.heap.objs.size) }:=by
 have e1:(s.heap.push bC).get? s.heap.objs.size=some bC:=az s.heap rfl
 have e2:((s.heap.push bC).push (bO C s.heap.objs.size)).get? (s.heap.objs.size+1)=some (bO C s.heap.objs.size):=by
  have:=az (s.heap.push bC) (o:=bO C s.heap.objs.size) rfl
  rwa [dD] at this
 have e3:(s.heap.push bC).Ns s.heap.objs.size (fun _=>none):=⟨bC,#[],_,e1,rfl,(fun e he=>absurd he (by simp)),fun _=>rfl⟩
 have I1:=I.laid (a:=s.heap.objs.size) (o:=.own (s.heap.objs.size+1)) (h':=s.heap.push bC) (t':=s.toks) (fun b u q=>ai _ q) (aj _) ⟨_,e1⟩
 refine I1.laid (a:=s.heap.objs.size+1) (o:=.ins C s.heap.objs.size []) (t':=s.toks) (fun b u q=>ai _ q) (lJ (dD _ _)) ?_
 have ne:s.heap.objs.size≠s.heap.objs.size+1:=aN (cn _)
 refine⟨by rw [Ad ne,Aa],bj _,ne,e2,fun _=>none,(Heap.Ns1.of_empty e3).at fun o q=>ai _ q,fun _=>aX,fun y hy=>absurd rfl hy⟩
theorem ab6 {prog:aS} {w:bB} {env:Env} {e:Expr} {f:Str} {pos:Pos} {s:al} {Q:ah->al->Prop} (hb:i5 e f env (eval e env)=eval e env)
  (h:aJ (model prog w) A (eval e env) (fun o s₁=>aJ (model prog w) A (getAttr o f true) Q E s₁) E s):aJ (model prog w) A (eval (.Attribute e f pos) env) Q E s:=
 Attribute_any_ h (by rw [arm_eval_Attribute,hb])
end
section
variable {X:Cx} {o e value:Expr} {f:Str} {pos pos' tpos:Pos} {ta tv:TE}
end
section
variable {X:Cx} {pins:List (Addr×Obj)} {σ:St} {H:Hp} {s:al} {A:a_} {E:ah->al->Prop} {Q:ah->al->Prop} {c:ah} {b:Bool}
inductive TyOf (K:ac) (H:Hp):V->ah->Prop where
 | non:TyOf K H .non (.type "NoneType")
 | bl (x:Bool):TyOf K H (.bl x) (.type "bool")
 | int (i:Int):TyOf K H (.int i) (.type "int")
 | str (x:Str):TyOf K H (.str x) (.type "str")
 | stk (x:Str) (n:Nat) (ex:Bool):TyOf K H (.stk x n ex) (.type "str")
 | lst {a:Addr} {xs:List V} (e:H a=some (.lst xs)):TyOf K H (.ref a) (.type "list")
 | frz {a:Addr} {o:Obj} {xs:List V} (e:H a=some (.frz o (.lst xs))):TyOf K H (.ref a) (.type "list")
 | tup {a:Addr} {xs:List V} (e:H a=some (.tup xs)):TyOf K H (.ref a) (.type "tuple")
 | dK {a:Addr} {kvs:List (Key×V)} (e:H a=some (.dK kvs)):TyOf K H (.ref a) (.type "dict")
 | dT {a:Addr} {kvs:List (TK×V)} (e:H a=some (.dT kvs)):TyOf K H (.ref a) (.type "dict")
 | ins {a C dx:Addr} {fs:List (Str×V)} (e:H a=some (.ins C dx fs)) (cl:Cls K C) (ha:aO K (.ref C) "__class__" = some (some (.builtin "object.__class__")))
   (hn:PySem.W.specialIn K (.builtin "object.__class__") "__get__" = some (some (.builtin "getset_descriptor.__get__"))) (htk:PySem.W.takesIn K (.builtin "object.__class__")=some true)
   (hm:PySem.W.mroIn K C (.type "object")=some true):TyOf K H (.ref a) (.ref C)
theorem K6 {x:V} {u t:ah} (I:Inv X pins σ H s) (rx:RelV x u) (ty:TyOf X.K H x t) (e:fg X.K t c=some b) (h:∀ tk,Q (.bool b) { s with toks:=tk }) :
  aJ (model X.prog X.w) A (call (.builtin "isinstance") [u,c]) Q E s:=by
 cases ty with
 | non=>cases (show u=bw from rx);exact b_ PySem.W.kitx_none I.kIn aX e (fun z=>nomatch z) h
 | bl y=>cases (show u=gO y from rx);exact b_ PySem.W.kitx_bool I.kIn aX e (fun z=>nomatch z) h
 | int i=>obtain⟨t,q⟩:=(show ∃ t,u=k0 i t from rx);cases q;exact b_ PySem.W.kitx_int I.kIn aX e (fun z=>nomatch z) h
 | str y=>obtain⟨t,q⟩:=(show ∃ t,u=gX y t from rx);cases q;exact b_ PySem.W.kitx_str I.kIn aX e (fun z=>nomatch z) h
 | stk y n ex=>obtain⟨t,q,_⟩:=(show ∃ t,u=gX y t/\(if ex=true then t=n else n<=t) from rx);cases q;exact b_ PySem.W.kitx_str I.kIn aX e (fun z=>nomatch z) h
 | @lst a xs ea=>
  cases (show u=bG a from rx)
  obtain⟨_,_,n,_,h1⟩:=(show ObjOk X.prog X.w H s.heap a (.lst xs) from I.hok a _ ea)
  exact b_ iI I.kIn ⟨_,h1,rfl⟩ e (fun z=>nomatch z) h
 | @frz a ob xs ea=>
  cases (show u=bG a from rx)
  obtain⟨_,_,_,n,_,h1⟩:=(show ObjOk X.prog X.w H s.heap a (.frz ob (.lst xs)) from I.hok a _ ea)
  exact b_ iI I.kIn ⟨_,h1,rfl⟩ e (fun z=>nomatch z) h
 | @tup a xs ea=>
  cases (show u=bG a from rx)
  obtain⟨_,_,_,p⟩:=(show ObjOk X.prog X.w H s.heap a (.tup xs) from I.hok a _ ea)
  obtain⟨o,h1,h2,_⟩:=p
  exact b_ kX I.kIn ⟨o,h1,h2⟩ e (fun z=>nomatch z) h
 | @dK a kvs ea=>
  cases (show u=bG a from rx)
  obtain⟨_,_,vs,_,p⟩:=(show ObjOk X.prog X.w H s.heap a (.dK kvs) from I.hok a _ ea)
  obtain⟨o,es,ep,h1,h2,_⟩:=p
  exact b_ PySem.W.kitx_dict I.kIn ⟨o,h1,h2.1⟩ e (fun z=>nomatch z) h
 | @dT a kvs ea=>
  cases (show u=bG a from rx)
  obtain⟨_,_,xs,_,o,es,ep,h1,h2,_⟩:=(show ObjOk X.prog X.w H s.heap a (.dT kvs) from I.hok a _ ea)
  exact b_ PySem.W.kitx_dict I.kIn ⟨o,h1,h2.1⟩ e (fun z=>nomatch z) h
 | @ins a C dx fs ea cl ha hn htk hm=>
  cases (show u=bG a from rx)
  obtain⟨mA,O,_⟩:=Hw I.hok ea
  obtain⟨od,J,_⟩:=O.look
  exact b_ (PySem.W.kitx_own (cl.get _) cl.hd ha hn htk hm) I.kIn J e (fun z=>nomatch z) h
end
structure Room (k:Nat) (A:a_):Prop where
 hd:A.handled=none
 dp:A.depth+3 * k+5<recursionLimit
 un:A.units+16 * k+200<cLine
theorem Room.mono {j k:Nat} {A:a_} (r:Room k A) (h:j<=k):Room j A:=⟨r.hd,by have:=r.dp;omega,by have:=r.un;omega⟩
theorem Room.deeper {k:Nat} {A:a_} (r:Room (k+1) A) (env:Env):Room k (A.deeper env):=
 ⟨r.hd,by have:=r.dp;show A.depth+1+3 * k+5<_;omega,by have:=r.un;show A.units+3+16 * k+200<_;omega⟩
theorem Room.in1 {k:Nat} {A:a_} (r:Room (k+1) A):Room k A.in1:=
 ⟨r.hd,by have:=r.dp;show A.depth+3 * k+5<_;omega,by have:=r.un;show A.units+1+16 * k+200<_;omega⟩
theorem Qc {A:a_} {C:Addr} {us:List ah} {kw:List (Str×ah)}:(A.under (.builtin "type.__call__" ⟨.ref C::us,kw⟩)).depth=A.depth+1:=by
 first|rfl|simp [lE,Code.weight,Code.isCreation,Code.isGuard,Code.isCaller,Code.frames,lF,guardIds]
theorem Qd {A:a_} {C:Addr} {us:List ah} {kw:List (Str×ah)}:(A.under (.builtin "type.__call__" ⟨.ref C::us,kw⟩)).units=A.units+1:=by
 first|rfl|simp [lE,Code.cUnits,Code.frames,lF]
theorem Room.make {k:Nat} {A:a_} (r:Room (k+1) A) (C:Addr) (us:List ah) (kw:List (Str×ah)):Room k (A.under (.builtin "type.__call__" ⟨.ref C::us,kw⟩)):=
 ⟨r.hd,by have:=r.dp;rw [Qc];omega,by have:=r.un;rw [Qd];omega⟩
theorem Room.depth {k:Nat} {A:a_} (r:Room k A):A.depth<recursionLimit:=by have:=r.dp;omega
theorem Room.units {k:Nat} {A:a_} (r:Room k A):A.units+64<cLine:=by have:=r.un;omega
noncomputable def bh8:TA:=fun _ H Q=>Q [] H
noncomputable def bb5 (ta:TE) (tr:TA):TA:=fun σ H Q=>ta σ H fun x H1=>tr σ H1 fun xs H2=>Q (x::xs) H2
section
variable {X:Cx} {e:Expr} {es:List Expr} {te:TE} {t:TA} {pos:Pos}
theorem ax8:PA X [] bh8:=fun _ _ _ _ H Q I h=>eO ⟨[],H,I,.nil,h⟩
theorem ae8 (ha:PE X e te) (hr:PA X es t) (hs:cP (e::es) X.env=(false,eval e X.env)::cP es X.env:=by rfl):PA X (e::es) (bb5 te t):=by
 intro pos pins s σ H Q I h
 rw [hs]
 show aJ _ _ (spliced ((false,eval e X.env)::iL pos (cP es X.env))) _ _ s
 refine d6 (thn (ha pins s σ H _ I h) fun u s1 ⟨x,H1,I1,r1,q1⟩=>?_)
 exact thn (hr pos pins s1 σ H1 _ I1 q1) fun us s2 ⟨xs,H2,I2,r2,q2⟩=>⟨x::xs,H2,I2,.cons r1 r2,q2⟩
noncomputable def bi2 (t:TA):TE:=fun σ H Q=>t σ H fun xs H1=>xs.length<=sizeLine /\ ∀ p,H1 p=none->Q (.ref p) (upd H1 p (.tup xs))
noncomputable def bh7 (t:TA):TE:=fun σ H Q=>t σ H fun xs H1=>xs.length<=sizeLine /\ ∀ p,H1 p=none->Q (.ref p) (upd H1 p (.lst xs))
theorem ay4 {x1} (h:PA X es t):PE X (.Tuple es x1 pos) (bi2 t):=by
 intro pins s σ H Q I hq
 refine wpAny_Tuple_spliced (thn (h pos pins s σ H _ I hq) fun us s1 ⟨xs,H1,I1,r,z,q⟩=>⟨by rw [<- r.length];exact z,?_⟩)
 have hf:H1 s1.heap.objs.size=none:=I1.hok.fresh (aj _)
 refine⟨.ref s1.heap.objs.size,upd H1 s1.heap.objs.size (.tup xs),I1.laid (t':=s1.toks) (fun b u e=>ai _ e) (aj _) ?_,rfl,q _ hf⟩
 exact⟨z,us,r,⟨_,az _ rfl,rfl,_,rfl⟩⟩
theorem ay0 (h:PA X es t):PE X (.List es pos) (bh7 t):=by
 intro pins s σ H Q I hq
 refine wpAny_List_spliced (thn (h pos pins s σ H _ I hq) fun us s1 ⟨xs,H1,I1,r,z,q⟩=>⟨by rw [<- r.length];exact z,?_⟩)
 have hf:H1 s1.heap.objs.size=none:=I1.hok.fresh (aj _)
 refine⟨.ref s1.heap.objs.size,upd H1 s1.heap.objs.size (.lst xs),I1.laid (t':=s1.toks) (fun b u e=>ai _ e) (aj _) ?_,rfl,q _ hf⟩
 exact⟨z,us,0,r,az _ rfl⟩
end
noncomputable abbrev Sp:=List V->Hp->VK->XK->Prop
noncomputable abbrev CXT:=List Env->Hp->al->XK->ah->al->Prop
structure Env0 (P:aS) (w:bB) (K:ac) (mg:Str->Option ah) (base:Heap) (A:a_) (outer:List Env) (s:al) (H:Hp):Prop where
 frames:A.frames=some outer
 mod:Mod K mg base
 bs:∀ b o,base.get? b=some o->s.heap.get? b=some o/\H b=none
 bsz:base.objs.size<=s.heap.objs.size
 funs:s.heap.FunFrames base outer
 frf:∀ b∈frs outer,H b=none
 hok:HOk P w H s.heap
 bare:kr s.gens
 tk:Rt K s.toks
noncomputable def CE (outer:List Env) (P:aS) (w:bB) (H:Hp) (s:al) (Q:VK) (u:ah) (s':al):Prop:=
 ∃ v H',(s'.os=s.os/\s.toks<=s'.toks)/\kr s'.gens/\Un (frs outer) [] H H' s.heap s'.heap/\HOk P w H' s'.heap/\RelV v u/\Q v H'
noncomputable def CR (CX:CXT) (outer:List Env) (P:aS) (w:bB) (H:Hp) (s:al) (Q:VK) (E:XK) (r:Result) (s':al):Prop:=
 match r with
 | .ok (.ret u)=>CE outer P w H s Q u s'
 | .ok _=>False
 | .error e=>CX outer H s E e s'
structure FnOk (P:aS) (w:bB) (K:ac) (mg:Str->Option ah) (base:Heap) (CX:CXT) (k:Nat) (f:Addr) (fd:bo) (ps:List Str) (sp:Sp):Prop where
 len:∀ vs H Q E,sp vs H Q E->vs.length=ps.length
 run:∀ (A:a_) (outer:List Env) (s:al) (H:Hp) (args:Args) (us:List ah) (vs:List V) (Q:VK) (E:XK),Room k A->Env0 P w K mg base A outer s H->lq s fd args (ps.zip us)->Vals vs us->sp vs H Q E ->
  ip (model P w) A (.call (.ref f) args) (CR CX outer P w H s Q E) s
theorem FnOk.imp {P:aS} {w:bB} {K:ac} {mg:Str->Option ah} {base:Heap} {CX:CXT} {k:Nat} {f:Addr} {fd:bo} {ps:List Str} {sp sp':Sp} (F:FnOk P w K mg base CX k f fd ps sp)
  (h:∀ vs H Q E,sp' vs H Q E->sp vs H Q E):FnOk P w K mg base CX k f fd ps sp':=
 ⟨fun vs H Q E q=>F.len vs H Q E (h _ _ _ _ q),fun A outer s H args us vs Q E hr he hb hv hs=>F.run A outer s H args us vs Q E hr he hb hv (h _ _ _ _ hs)⟩
theorem Env0.make {P:aS} {w:bB} {K:ac} {mg:Str->Option ah} {base:Heap} {A:a_} {outer:List Env} {s:al} {H:Hp} (e:Env0 P w K mg base A outer s H) (C:Addr) (us:List ah) (kw:List (Str×ah)) :
  Env0 P w K mg base (A.under (.builtin "type.__call__" ⟨.ref C::us,kw⟩)) outer s H:=⟨by first|exact e.frames|(simpa [lE,Code.envs,lF,pushEnvs] using e.frames),e.mod,e.bs,e.bsz,e.funs,e.frf,e.hok,e.bare,e.tk⟩
theorem Env0.in1 {P:aS} {w:bB} {K:ac} {mg:Str->Option ah} {base:Heap} {A:a_} {outer:List Env} {s:al} {H:Hp} (e:Env0 P w K mg base A outer s H) :
  Env0 P w K mg base A.in1 outer s H:=⟨e.frames,e.mod,e.bs,e.bsz,e.funs,e.frf,e.hok,e.bare,e.tk⟩
section
variable {X:Cx} {pins:List (Addr×Obj)} {σ:St} {H:Hp} {s s':al}
theorem Inv.env0 (I:Inv X pins σ H s):Env0 X.prog X.w X.K X.mg X.base X.A X.stack s H:=
 ⟨I.ok.frames,I.ok.mod,I.bs,aT I.ok.bsz I.sz,I.stack,I.stkFree,I.hok,I.bare,aX⟩
theorem Inv.after {Q:VK} {u:ah} (I:Inv X pins σ H s) (h:CE X.stack X.prog X.w H s Q u s'):EP X pins σ Q u s':=by
 obtain⟨v,H',os,bare,un,hok,r,q⟩:=h
 obtain⟨hh,g,d,t,os'⟩:=s'
 obtain rfl:os'=s.os:=os.1
 exact⟨v,H',I.call (h':=hh) (g':=g) (d':=d) (t':=t) (ch:=[]) un hok bare (fun b z=>absurd z (by simp)) os.2,r,q⟩
end
noncomputable def Binds (K:ac) (fd:bo) (ps:List Str) (ds:List ah):Prop:=
 ∀ (s:al) (us:List ah),K.In s.heap->(us++ds).length=ps.length->lq s fd ⟨us,[]⟩ (ps.zip (us++ds))
theorem Binds.all {K:ac} {fd:bo} {ps:List Str} (h:∀ us:List ah,us.length=ps.length->h_ fd ⟨us,[]⟩=pure (ps.zip us)):Binds K fd ps []:=fun s us _ hl=>by
 rw [dI] at hl ⊢
 exact .of_eq (h us hl)
section
variable {X:Cx} {CX:CXT} {k:Nat} {f C:Addr} {fd:bo} {ps:List Str} {sp:Sp} {dvs:List V} {ds:List ah} {E:XK} {x m:Str} {p pos apos:Pos} {e o:Expr} {es:List Expr} {ta:TE} {t:TA}
structure Mk (K:ac) (C f:Addr):Prop where
 makes:bX K C=true
 init:aO K (.ref C) "__init__" = some (some (.ref f))
 fn:cE K (.ref f)=true
 kp:ba K (.ref C)=true
end
section
variable {X:Cx} {CX:CXT} {k:Nat} {f C:Addr} {fd:bo} {ps ks:List Str} {sp:Sp} {E:XK} {x m:Str} {p pos apos kpos:Pos} {e o:Expr} {es:List Expr} {kws:List l7} {te ta:TE} {t tk:TA} {nm:Option Str}
variable {g:List ah->List ah->List ah} {gV:List V->List V->List V}
end
structure Ch (N P:List Str) (sc:Scope):Prop where
 kind:sc.kind=.function
 co:sc.isCoroutine=false
 gen:sc.isGenerator=false
 nd:N.Nodup
 pre:N.take P.length=P
 par:∀ x∈P,sc.names.lookup x=some .local\/sc.names.lookup x=some .cell
 nofree:∀ y∈sc.names,y.2≠.free
theorem Ks {kindOf:Str->Option cz} {x:Str}:∀ {binds:List (Str×ah)} {m:Str->Option ah},(∀ v,(x,v)∉binds)->bindL kindOf binds m x=m x
 | [],_,_=>rfl
 | (n,v)::r,m,h=>by
  unfold bindL
  rw [Ks fun w hw=>h w (ay _ hw)]
  split
  ·have:x≠n:=by rintro rfl;exact h v aQ
   simp [this]
  ·rfl
theorem Kq {kindOf:Str->Option cz} {x:Str}:∀ {binds:List (Str×ah)} {m:Str->Option ah},(∀ v,(x,v)∉binds)->bindC kindOf binds m x=m x
 | [],_,_=>rfl
 | (n,v)::r,m,h=>by
  unfold bindC
  rw [Kq fun w hw=>h w (ay _ hw)]
  split
  ·rfl
  ·have:x≠n:=by rintro rfl;exact h v aQ
   simp [this]
theorem Kr {kindOf:Str->Option cz} {x:Str} {v:ah}:∀ {P:List Str} {vs:List ah} {i:Nat} {m:Str->Option ah},P.Nodup->P[i]? = some x->vs[i]? = some v->kindOf x=some .local ->
  bindL kindOf (P.zip vs) m x=some v
 | [],_,_,_,_,h,_,_=>by simp at h
 | _::_,[],_,_,_,_,h,_=>by simp at h
 | p::P,w::vs,0,m,nd,h1,h2,hk=>by
  simp at h1 h2;subst h1;subst h2
  show bindL kindOf ((p,w)::P.zip vs) m p=_
  unfold bindL
  rw [Ks fun v hv=>(List.nodup_cons.mp nd).1 (gS hv).1,if_pos hk]
  simp
 | p::P,w::vs,i+1,m,nd,h1,h2,hk=>by
  show bindL kindOf ((p,w)::P.zip vs) m x=_
  unfold bindL
  exact Kr (i:=i) (List.nodup_cons.mp nd).2 (by simpa using h1) (by simpa using h2) hk
theorem Ko {kindOf:Str->Option cz} {x:Str} {v:ah}:∀ {P:List Str} {vs:List ah} {i:Nat} {m:Str->Option ah},P.Nodup->P[i]? = some x->vs[i]? = some v->kindOf x≠some .local ->
  bindC kindOf (P.zip vs) m x=some v
 | [],_,_,_,_,h,_,_=>by simp at h
 | _::_,[],_,_,_,_,h,_=>by simp at h
 | p::P,w::vs,0,m,nd,h1,h2,hk=>by
  simp at h1 h2;subst h1;subst h2
  show bindC kindOf ((p,w)::P.zip vs) m p=_
  unfold bindC
  rw [Kq fun v hv=>(List.nodup_cons.mp nd).1 (gS hv).1,if_neg hk]
  simp
 | p::P,w::vs,i+1,m,nd,h1,h2,hk=>by
  show bindC kindOf ((p,w)::P.zip vs) m x=_
  unfold bindC
  exact Ko (i:=i) (List.nodup_cons.mp nd).2 (by simpa using h1) (by simpa using h2) hk
noncomputable def C7 (N:List Str) (vs:List V):St:=vs.map some++kh (N.length - vs.length) none
noncomputable def Ip (CX:CXT) (P:aS) (w:bB) (K:ac) (mg:Str->Option ah) (base:Heap) (N:List Str) (qual:Str) (scope:Scope) (f:Addr) (cd:ah) (A:a_) (outer:List Env) (s:al) (H:Hp) (E:XK):Cx where
 prog:=P
 w:=w
 K:=K
 mg:=mg
 base:=base
 A:=A.deeper (kl qual scope s.heap.objs.size f cd)
 N:=N
 s₀:=s
 H₀:=H
 env:=kl qual scope s.heap.objs.size f cd
 outer:=outer
 stack:=kl qual scope s.heap.objs.size f cd::outer
 ex:=[]
 calm:=true
 fn:=fun _=>true
 pn:=[]
 xe:=fun e s'=>aJ (model P w) (A.deeper (kl qual scope s.heap.objs.size f cd)) (leaving (kl qual scope s.heap.objs.size f cd) e) (fun _ s''=>CX outer H s E e s'') (fun e' s''=>CX outer H s E e' s'') s'
theorem Fs {sc:Scope} {n:Nat} {x:Str} (h:sc.names.lookup x=some .cell):∃ c,(mf n sc.names []).lookup x=some c:=by
 have q:=fU sc.names n [] (.inl h)
 exact Option.isSome_iff_exists.mp q
theorem K4 {CX:CXT} {P:aS} {w:bB} {K:ac} {mg:Str->Option ah} {base:Heap} {N ps:List Str} {qual:Str} {scope:Scope} {f:Addr} {cd:ah} {A:a_} {outer:List Env} {s s1:al} {H:Hp} {E:XK} {us:List ah} {vs:List V}
  (S:Ch N ps scope) (hd:A.handled=none) (e0:Env0 P w K mg base A outer s H) (htk:s.toks<=s1.toks) (hl:vs.length=ps.length) (r:Vals vs us)
  (x:InCallC s s.heap.objs.size (bindL (kl qual scope s.heap.objs.size f cd).kindOf (ps.zip us) fun _=>none) (mf (s.heap.objs.size+1) scope.names []) (bindC (kl qual scope s.heap.objs.size f cd).kindOf (ps.zip us) fun _=>none) s1) :
  Inv (Ip CX P w K mg base N qual scope f cd A outer s H E) [] (C7 N vs) H s1:=by
 have hpl:ps.length<=N.length:=by have:=congrArg cg S.pre;rw [aH] at this;omega
 obtain⟨h1,tk,rfl,hk⟩:=x.done
 have noA:∀ b:Addr,b∉(Ip CX P w K mg base N qual scope f cd A outer s H E).ex:=fun b z=>absurd (show b∈([]:List Addr) from z) (by simp)
 refine⟨⟨e0.mod,S.kind,rfl,rfl,aj _,fun y z c h1 h2=>?_,fun y hy=>?_,fun y c _ h=>?_,fun _=>hd,Around.frames_deeper e0.frames,.inr ⟨rfl,rfl⟩,fun b z=>absurd z (noA b),e0.bs,e0.bsz,fun b _ _=>noA b,fun b z=>absurd z (noA b),e0.funs,e0.frf,e0.tk⟩,
  ⟨rfl,htk⟩,e0.bare,Un.kept hk,⟨_,x.toInCall.ns,fun i y v h1 h2 h3=>?_⟩,fun y c h=>⟨_,x.cell y c h⟩,e0.hok.fresh (aj _),fun y c h=>?_,fun p hp=>absurd (show p∈([]:List (Addr×Obj)) from hp) (by simp),e0.hok.kept hk,?_⟩
 ·exact name_of_addr x.apart (b7 h1) (b7 h2)
 ·have hy:scope.names.lookup y=some .cell\/scope.names.lookup y=some .free:=hy
  rcases hy with hy|hy
  ·exact Fs hy
  ·exact absurd rfl (S.nofree _ (b7 hy))
 ·exact dy (x.above y c (b7 h))
 ·have hi:i<vs.length:=by
   unfold C7 at h2
   by_cases hi:i<vs.length
   ·exact hi
   ·rw [bx (by simpa using hi)] at h2
    rw [dO] at h2
    split at h2 <;> cases h2
  have ha:vs[i]? = some v:=by
   unfold C7 at h2
   rw [bP (by simpa using hi),ak] at h2
   cases e:vs[i]? with
   | none=>rw [e] at h2;cases h2
   | some a=>rw [e] at h2;cases h2;rfl
  obtain⟨u,hu,rv⟩:=r.get ha
  have hp:ps[i]? = some y:=by
   rw [<- S.pre,List.getElem?_take_of_lt (by omega)];exact h1
  have ndP:ps.Nodup:=by rw [<- S.pre];exact S.nd.sublist (dJ _ _)
  refine⟨u,rv,?_⟩
  rcases S.par y (am hp) with k|k
  ·exact .inl ⟨k,Kr ndP hp hu k⟩
  ·obtain⟨c,e⟩:=Fs (n:=s.heap.objs.size+1) k
   refine .inr ⟨.inl k,c,e,?_⟩
   have q:=x.cell y c e
   rw [Ko ndP hp hu (by show scope.names.lookup y≠_;rw [k];decide)] at q
   exact q
 ·exact e0.hok.fresh (dy (x.above y c (b7 h)))
 ·unfold C7
  show _=N.length
  rw [aZ,ae,List.length_replicate]
  omega
theorem ak2 {CX:CXT} {P:aS} {w:bB} {K:ac} {mg:Str->Option ah} {base:Heap} {k:Nat} {f:Addr} {name qual:Str} {params:Arguments} {body:List Stmt} {scope:Scope} {dV kV doc pm cdv ct oc:ah} {an od:Option Addr}
  {osl:Array (Option ah)} {N ps:List Str} {sp:Sp} (lk:K.lookup f=some ⟨oc,od,.func (cf name qual params body scope dV kV doc pm an cdv ct),osl⟩) (hcd:cU K cdv qual=true) (S:Ch N ps scope)
  (len:∀ vs H Q E,sp vs H Q E->vs.length=ps.length)
  (hbody:∀ (A:a_) (outer:List Env) (s:al) (H:Hp) (vs:List V) (Q:VK) (E:XK),Room k (A.deeper (kl qual scope s.heap.objs.size f cdv))->sp vs H Q E ->
   ∃ t,PSs (Ip CX P w K mg base N qual scope f cdv A outer s H E) body t/\t { nx:=fun _ H'=>Q .non H',rt:=Q } (C7 N vs) H) :
  FnOk P w K mg base CX (k+1) f (cf name qual params body scope dV kV doc pm an cdv ct) ps sp:=by
 refine⟨len,fun A outer s H args us vs Q E hr e0 hb r hsp=>?_⟩
 have hl:=len _ _ _ _ hsp
 have KX:K.In s.heap:=e0.mod.kin.keeps fun b o e=>(e0.bs b o e).1
 have lim:s.heap.NoLimit:=e0.mod.nolimit.keeps fun b o e=>(e0.bs b o e).1
 have hkind:∀ y∈ps.zip us,scope.names.lookup y.1=some .local\/(scope.names.lookup y.1=some .cell/\((mf (s.heap.objs.size+1) scope.names []).lookup y.1).isSome=true):=fun⟨n,v⟩ hy=>by
  rcases S.par n (gS hy).1 with q|q
  ·exact .inl q
  ·exact .inr ⟨q,fU _ _ _ (.inl q)⟩
 refine codeAny_call_function hr.depth (KX _ _ lk) rfl S.co S.gen rfl (PySem.W.codeRec_of KX hcd) (hb _ _ _ _ ?_)
 refine bu (aj _) (hV S.kind hkind fun env he s1 x htk=>?_)
 subst he
 refine⟨lim.keeps x.toInCall.keep,codeAny_func ?_⟩
 obtain⟨t,ht,hq⟩:=hbody A outer s H vs Q E (hr.deeper _) hsp
 have I:Inv (Ip CX P w K mg base N qual scope f cdv A outer s H E) [] (C7 N vs) H s1:=K4 S hr.hd e0 htk hl r x
 refine bR (ht [] s1 (C7 N vs) H _ I hq) (fun fl s' hs=>?_) fun e s' hs=>hs
 have fin:∀ {σ':St} {H':Hp} {v:V} {u:ah},Inv (Ip CX P w K mg base N qual scope f cdv A outer s H E) [] σ' H' s'->RelV v u->Q v H'->CE outer P w H s Q u s':=
  fun {σ' H' v u} J rv q=>⟨v,H',J.os,J.bare,J.base,J.hok,rv,q⟩
 cases fl with
 | ret u=>
  obtain⟨v,σ',H',J,rv,q⟩:=hs
  exact fin J rv q
 | next=>
  obtain⟨σ',H',J,q⟩:=hs
  exact fin (v:=V.non) (u:=bw) J rfl q
 | brk=>
  obtain⟨_,_,_,q⟩:=hs
  exact cu q
 | cont=>
  obtain⟨_,_,_,q⟩:=hs
  exact cu q
section
variable {X:Cx} {x:Str} {p pos:Pos} {e:Expr} {es:List Expr} {t:TA} {id T:String} {r:List V->Hp->VK->Prop}
noncomputable def tCB (r:List V->Hp->VK->Prop) (t:TA):TE:=fun σ H Q=>t σ H fun vs H1=>r vs H1 Q
theorem Yl (hc:B0 X (.builtin id) r) (hg:Gl X x) (hm:X.mg x=none) (hv:cO x=some (.builtin id)) (ha:PA X (e::es) t) (hn:x ≠ "__name__" := by decide) (hdb:(x==("__debug__" : Str))=false:=by decide)
  (he:cP (e::es) X.env=(false,eval e X.env)::cP es X.env:=by rfl) (hpl:(iL pos (cP es X.env)).any (·.1)=false:=by rfl):PE X (.Call (.Name x p) (e::es) [] pos) (tCB r t):=by
 intro pins s σ H Q I h
 refine bZ (C3 I hg hm hv ?_ hn hdb)
 exact gj (thn (ha pos pins s σ H _ I h) fun us s1 ⟨vs,H1,I1,r1,q1⟩=>hc pins s1 σ H1 vs us Q I1 r1 q1) he hpl
theorem Vb (hc:B0 X (.type T) r) (hg:Gl X x) (hm:X.mg x=none) (hv:cO x=some (.type T)) (ha:PA X (e::es) t) (hn:x ≠ "__name__" := by decide) (hdb:(x==("__debug__" : Str))=false:=by decide)
  (he:cP (e::es) X.env=(false,eval e X.env)::cP es X.env:=by rfl) (hpl:(iL pos (cP es X.env)).any (·.1)=false:=by rfl):PE X (.Call (.Name x p) (e::es) [] pos) (tCB r t):=by
 intro pins s σ H Q I h
 refine bZ (C3 I hg hm hv ?_ hn hdb)
 exact bV (thn (ha pos pins s σ H _ I h) fun us s1 ⟨vs,H1,I1,r1,q1⟩=>hc pins s1 σ H1 vs us Q I1 r1 q1) he hpl
end
end L2
namespace HT
open PySem PyProof.Rows
section
open PySem.SeqAt
open PySem.AutoSeq1 (wpAny_loadPart')
open PySem.MeetsSeq PySem.MeetsSeq2 PySem.MeetsSeq3
end
section
variable {prog:aS} {w:bB} {A:a_} {E:ah->al->Prop} {s:al}
theorem cat_tup {t b:Addr} {vs ws:List ah} {Q:ah->al->Prop} (ht:kC s.heap t vs.toArray) (hb:kC s.heap b ws.toArray) (hv:vs≠[])
  (h1:ws=[]->Q (.ref t) s) (h2:ws≠[]->Q (.ref s.heap.objs.size) { s with heap:=s.heap.push { cls:=.type "tuple", data:=.seq (vs++ws).toArray } })
  (hsz:vs.length+ws.length<=sizeLine):aJ (model prog w) A (dA .Add (.ref t) (.ref b)) Q E s:=by
 obtain⟨⟨cls,dd,data,sl⟩,ho,hc,n,hd⟩:=id ht
 obtain⟨⟨cls2,dd2,data2,sl2⟩,ho2,hc2,n2,hd2⟩:=id hb
 simp only at hc hd hc2 hd2
 subst hc hd hc2 hd2
 have e:vs.toArray++ws.toArray=(vs++ws).toArray:=by simp
 by_cases hw:ws=[]
 ·exact lO ⟨_,ho,rfl⟩ ⟨_,ho2,rfl⟩ jh lg fT fL (fB _ _)
   (tuple_addW1 t b vs.toArray ws.toArray n n2 dd dd2 sl sl2 (by simpa using hv) (by simp [hw])) ⟨ho,ho2,h1 hw⟩
 ·refine lO ⟨_,ho,rfl⟩ ⟨_,ho2,rfl⟩ jh lg fT fL (fB _ _)
   (tuple_addW2 t b vs.toArray ws.toArray n n2 dd dd2 sl sl2 (by simpa using hv) (by simpa using hw) (by rw [aq,aq];exact hsz)) ⟨ho,ho2,?_⟩
  rw [e]
  exact h2 hw
noncomputable def sIx (n d:Nat):Option Int->Nat
 | none=>d
 | some v=>if v<0 then (v+(n:Int)).toNat else min v.toNat n
theorem a25 (n d:Nat) (hd:d<=n) (o:Option Int):sIx n d o<=n:=by
 cases o with
 | none=>exact hd
 | some v=>
  show (if v<0 then (v+(n:Int)).toNat else min v.toNat n)<=n
  by_cases hv:v<0
  ·rw [if_pos hv];omega
  ·rw [if_neg hv];exact Nat.min_le_right _ _
theorem R3 (v:Int) (n d:Nat):(if v<0 then max (v+(n:Int)) 0 else min v (n:Int))=((sIx n d (some v):Nat):Int):=by
 show (if v<0 then max (v+(n:Int)) 0 else min v (n:Int))=(((if v<0 then (v+(n:Int)).toNat else min v.toNat n):Nat):Int)
 by_cases hv:v<0
 ·simp only [if_pos hv];omega
 ·simp only [if_neg hv];omega
theorem Pi (lo hi:Option Int) (n:Nat):fe lo hi 1 (n:Int)=(((sIx n 0 lo:Nat):Int),((sIx n n hi:Nat):Int)):=by
 have h1:¬ ((1:Int)<0):=by omega
 unfold fe
 simp only [h1,if_false]
 refine Prod.ext ?_ ?_
 ·cases lo with
  | none=>rfl
  | some v=>exact R3 v n 0
 ·cases hi with
  | none=>rfl
  | some v=>exact R3 v n n
theorem Qp (i j:Nat):dB (i:Int) (j:Int) 1=j - i:=by
 unfold dB
 have h1:(1:Int) > 0:=by omega
 simp only [h1,if_true,Int.ediv_one]
 split <;> omega
theorem J2 {v:ah} {o:Option Int} {Q:Option Int->al->Prop} (p:kM v o) (h:Q o s):aJ (model prog w) A (Builtin.Slice.slicePartIndex v) Q E s:=by
 cases p with
 | none=>exact slicePart_none h
 | int i t=>exact slicePart_int h
theorem sliceApplied_gen {sl:Addr} {vl vu:ah} {lo hi:Option Int} {n:Nat} {Q:Int×Int×Nat->al->Prop} (hs:s.heap.IsSliceOf sl vl vu .none) (pl:kM vl lo) (pu:kM vu hi)
  (h:Q (((sIx n 0 lo:Nat):Int),1,sIx n n hi - sIx n 0 lo) s):aJ (model prog w) A (g9 (.ref sl) (pure (n:Int))) Q E s:=by
 obtain⟨os,hos,hcs,hds⟩:=id hs
 unfold g9 Builtin.Slice.sliceFields
 refine ag (ag (eK hos hds (x:=vl) rfl (ag (eK hos hds (x:=vu) rfl (ag (eK hos hds (x:=.none) rfl (ar ?_)))))))
 refine ag (slicePart_none ?_)
 show aJ _ _ (if ((1:Int)==0)=true then _ else _) _ _ s
 rw [if_neg (by decide)]
 refine ag (J2 pl (ag (J2 pu (ag (ar ?_)))))
 show aJ _ _ (match fe lo hi 1 (n:Int) with|(lo,hi)=>pure (lo,(1:Int),dB lo hi 1)) _ _ s
 rw [Pi lo hi n]
 show aJ _ _ (pure (((sIx n 0 lo:Nat):Int),(1:Int),dB ((sIx n 0 lo:Nat):Int) ((sIx n n hi:Nat):Int) 1)) _ _ s
 rw [Qp]
 exact ar h
theorem Yp (xs:Array ah) (i k:Nat):((aw k).filterMap fun (m:Nat)=>xs[((i:Int)+(m:Int) * 1).toNat]?).toArray=((xs.toList.drop i).take k).toArray:=by
 have e:(fun (m:Nat)=>xs[((i:Int)+(m:Int) * 1).toNat]?)=fun m=>xs[i+m]?:=by
  funext m
  have:((i:Int)+(m:Int) * 1).toNat=i+m:=by omega
  rw [this]
 rw [e]
 have:=pick_run xs i k
 rw [List.filterMap_map] at this
 have e2:((fun x=>xs[x]?)∘fun x=>i+x)=fun m=>xs[i+m]?:=rfl
 rw [e2] at this
 rw [this]
theorem getItem_tuple_cut {t sl:Addr} {items:Array ah} {vl vu:ah} {lo hi:Option Int} {Q:ah->al->Prop} (ht:kC s.heap t items) (hs:s.heap.IsSliceOf sl vl vu .none) (pl:kM vl lo) (pu:kM vu hi)
  (hw:¬ (sIx items.size 0 lo=0/\sIx items.size items.size hi=items.size))
  (h:Q (.ref s.heap.objs.size) { s with heap:=s.heap.push { cls:=.type "tuple", data:=.seq ((items.toList.drop (sIx items.size 0 lo)).take (sIx items.size items.size hi - sIx items.size 0 lo)).toArray } })
  (hsz:items.size<=sizeLine):aJ (model prog w) A (kH (.ref t) (.ref sl)) Q E s:=by
 have htake:sizeOk (.seq ((items.toList.drop (sIx items.size 0 lo)).take (sIx items.size items.size hi - sIx items.size 0 lo)).toArray):=by
  show ((items.toList.drop (sIx items.size 0 lo)).take (sIx items.size items.size hi - sIx items.size 0 lo)).toArray.size<=sizeLine
  rw [aq,aH,jb,bJ]
  omega
 have hj:sIx items.size items.size hi<=items.size:=a25 _ _ (aj _) hi
 obtain⟨os,hos,hcs,hds⟩:=id hs
 have hTs:s.TypeIs (.ref sl) "slice" := ⟨os,hos,hcs⟩
 unfold kH
 try with_reducible refine bE ?_
 first|refine ag (ar ?_)|skip
 refine ag (wpAny_sequenceKey ht.typeIs (by decide) ?_)
 refine ag (cw (name:=cN "__getitem__") ht.typeIs bW
  (cq bW ht.typeIs entry_tuple_getitem ?_ (args_tuple_getitem _ _)))
 show aJ _ _ (e9 (.ref t) >>= _) _ _ s
 refine ag (tupleItemsOf_ ht ?_)
 refine ag (lT hTs ?_)
 rw [if_pos (by decide)]
 refine ag (sliceApplied_gen hs pl pu ?_)
 have hno:¬ ((((sIx items.size 0 lo:Nat):Int)==0&&(1:Int)==1&&(sIx items.size items.size hi - sIx items.size 0 lo)==items.size)=true):=by
  intro q
  rw [aP,aP] at q
  have q1:((sIx items.size 0 lo:Nat):Int)=0:=ck q.1.1
  have q2:sIx items.size items.size hi - sIx items.size 0 lo=items.size:=ck q.2
  exact hw ⟨by omega,by omega⟩
 show aJ _ _ (if (((sIx items.size 0 lo:Nat):Int)==0&&(1:Int)==1&&(sIx items.size items.size hi - sIx items.size 0 lo)==items.size)=true then _ else _) _ _ s
 rw [if_neg hno,Yp]
 first
  | exact ag (m:=dG _) (cx (ar ⟨_,rfl,ar h⟩) htake)
  | exact ag (m:=dG _) (cx (ag (ar (ar ⟨_,rfl,ar h⟩))) htake)
  | exact ag (ag (m:=dG _) (cx (ar (ar ⟨_,rfl,ar h⟩)) htake))
  | exact ag (ag (m:=dG _) (cx (ar ⟨_,rfl,ar h⟩) htake))
end
end HT
namespace L2
open PySem PySem.Spec PyProof.Rows
noncomputable abbrev TO:=St->Hp->(Option Int->Hp->Prop)->Prop
noncomputable def PO (X:Cx) (e:Option Expr) (t:TO):Prop:=
 ∀ (pins:List (Addr×Obj)) (s:al) (σ:St) (H:Hp) (Q:Option Int->Hp->Prop),Inv X pins σ H s->t σ H Q ->
  aJ (model X.prog X.w) X.A (evalPart e X.env) (fun u s'=>∃ o H',Inv X pins σ H' s'/\kM u o/\Q o H') X.xe s
noncomputable def ai8:TO:=fun _ H Q=>Q none H
theorem Jf {ns:List Int}:∀ {us:List ah},Vals (ns.map V.int) us->iU us ns:=by
 induction ns with
 | nil=>intro us r;rw [gg] at r;cases r;exact .nil
 | cons n ns ih=>
  intro us r
  rw [aY] at r
  cases r with
  | cons r1 r2=>
   obtain⟨t,e⟩:=r1
   subst e
   exact .cons n t (ih r2)
section
variable {X:Cx} {e:Expr} {te:TE} {lo hi:Option Expr} {tl th:TO} {pos p2:Pos}
theorem af3:PO X none ai8:=by
 intro pins s σ H Q I h
 rw [evalPart_none]
 exact ar ⟨none,H,I,.none,h⟩
noncomputable def SlR (X:Cx) (r:V->Option Int->Option Int->Hp->VK->Prop):Prop:=
 ∀ (pins:List (Addr×Obj)) (s:al) (σ:St) (H:Hp) (x:V) (v vl vu:ah) (lo hi:Option Int) (sl:Addr) (Q:VK),Inv X pins σ H s->RelV x v->s.heap.IsSliceOf sl vl vu .none->kM vl lo->kM vu hi->r x lo hi H Q ->
  ∃ T id,typeLookup (.type T) "__getitem__" = pure (some (.builtin id))/\s.TypeIs v T/\aJ (model X.prog X.w) X.A (kH v (.ref sl)) (EP X pins σ Q) X.xe s
noncomputable def No (xs:List V) (lo hi:Option Int):List V:=(xs.drop (HT.sIx xs.length 0 lo)).take (HT.sIx xs.length xs.length hi - HT.sIx xs.length 0 lo)
theorem G9 (xs:List V) (lo hi:Option Int):(No xs lo hi).length<=xs.length:=by
 unfold No
 rw [aH,jb]
 omega
noncomputable def bh2 (K:ac):V->Option Int->Option Int->Hp->VK->Prop:=fun x lo hi H Q=>∃ a xs,x=.ref a/\SqT K H a xs /\
 ¬ (HT.sIx xs.length 0 lo=0/\HT.sIx xs.length xs.length hi=xs.length) /\ ∀ p,H p=none->Q (.ref p) (upd H p (.tup (No xs lo hi)))
theorem a28:SlR X (bh2 X.K):=by
 intro pins s σ H x v vl vu lo hi sl Q I rx hs pl pu h
 obtain⟨a,xs,rfl,hx,hw,q⟩:=h
 cases rx
 obtain⟨its,r,ht,hz⟩:=I.tuple hx
 have hlen:its.toArray.size=xs.length:=by rw [aq];exact r.length.symm
 refine⟨"tuple", _,PyProof.Rows.slot_tuple_getitem.lookup,ht.typeIs,?_⟩
 refine HT.getItem_tuple_cut ht hs pl pu (by rw [hlen];exact hw) ?_ (by rw [hlen];exact hz)
 rw [hlen]
 refine⟨.ref s.heap.objs.size,_,I.laid (t':=s.toks) (o:=.tup (No xs lo hi)) (fun b ob q=>ai _ q) (aj _) ?_,rfl,q _ (I.hok.fresh (aj _))⟩
 exact⟨aT (G9 xs lo hi) hz,_,(r.drop (HT.sIx xs.length 0 lo)).take (HT.sIx xs.length xs.length hi - HT.sIx xs.length 0 lo),IsTup.new _ _⟩
noncomputable def ak9 (K:ac):R2:=fun x y H Q=>∃ a b xs ys,x=.ref a/\y=.ref b/\SqT K H a xs/\SqT K H b ys/\xs≠[]/\xs.length+ys.length<=sizeLine /\
 (ys=[]->Q (.ref a) H)/\(ys≠[] -> ∀ p,H p=none->Q (.ref p) (upd H p (.tup (xs++ys))))
theorem Vals.nil_iff {xs:List V} {us:List ah} (r:Vals xs us):us=[] ↔ xs=[]:=by
 cases r with
 | nil=>simp
 | cons _ _=>simp
theorem op_catT:OpR X (dA .Add) (ak9 X.K):=by
 intro pins s σ H x y v u Q I rx ry h
 obtain⟨a,b,xs,ys,rfl,rfl,ha,hb,hx,hz,q1,q2⟩:=h
 cases rx
 cases ry
 obtain⟨its,r1,p1,_⟩:=I.tuple ha
 obtain⟨its2,r2,p2,_⟩:=I.tuple hb
 refine HT.cat_tup p1 p2 (fun z=>hx (r1.nil_iff.mp z)) (fun z=>⟨.ref a,H,I,rfl,q1 (r2.nil_iff.mp z)⟩) (fun z=>?_) (by rw [<- r1.length,<- r2.length];exact hz)
 refine⟨.ref s.heap.objs.size,_,I.laid (t':=s.toks) (o:=.tup (xs++ys)) (fun b ob q=>ai _ q) (aj _) ?_,rfl,q2 (fun w=>z (r2.nil_iff.mpr w)) _ (I.hok.fresh (aj _))⟩
 exact⟨by rw [aZ];exact hz,_,r1.append r2,IsTup.new _ _⟩
end
noncomputable def ixN (n:Nat) (i:Int):Option Nat:=if 0<=i then (if i<n then some i.toNat else none) else if -(n:Int)<=i then some (i+n).toNat else none
noncomputable def atI {α:Type} (xs:List α) (i:Int):Option α:=(ixN xs.length i).bind fun j=>xs[j]?
theorem Si {n:Nat} {i:Int} {j:Nat} (h:ixN n i=some j):seqIndex? i n=some j/\j<n /\ -(n:Int)<=i/\i<n:=by
 unfold ixN at h
 by_cases h0:0<=i
 ·rw [if_pos h0] at h
  by_cases h1:i<n
  ·rw [if_pos h1] at h
   have e:i.toNat=j:=av h
   exact⟨by rw [mn h0 h1,e],by omega,by omega,h1⟩
  ·rw [if_neg h1] at h;cases h
 ·rw [if_neg h0] at h
  by_cases h1:-(n:Int)<=i
  ·rw [if_pos h1] at h
   have e:(i+n).toNat=j:=av h
   exact⟨by rw [lS (by omega) h1,e],by omega,h1,by omega⟩
  ·rw [if_neg h1] at h;cases h
theorem Lu {α:Type} {xs:List α} {i:Int} {v:α} (h:atI xs i=some v):∃ j,seqIndex? i xs.length=some j/\xs[j]? = some v/\j<xs.length /\ -(xs.length:Int)<=i/\i<xs.length:=by
 unfold atI at h
 cases e:ixN xs.length i with
 | none=>rw [e] at h;cases h
 | some j=>
  rw [e] at h
  obtain⟨h1,h2,h3,h4⟩:=Si e
  exact⟨j,h1,h,h2,h3,h4⟩
theorem Bw {α:Type} {xs:List α} {j:Nat} {v:α} (h:xs[j]? = some v):atI xs (j:Int)=some v:=by
 have hj:j<xs.length:=(List.getElem?_eq_some_iff.mp h).1
 have e:ixN xs.length (j:Int)=some j:=by
  unfold ixN
  rw [if_pos (by omega),if_pos (by omega)];simp
 unfold atI;rw [e];exact h
noncomputable def Rr (b:Expr):Prop:=∀ o i,subscripted b false o i=operate [o,i] (kH o i)
noncomputable def IxR (X:Cx) (r:R2):Prop:=
 ∀ (value slice:Expr) (pins:List (Addr×Obj)) (s:al) (σ:St) (H:Hp) (x y:V) (v u:ah) (Q:VK),Inv X pins σ H s->RelV x v->RelV y u->r x y H Q ->
  subscripted slice false v u=operate [v,u] (kH v u)->aJ (model X.prog X.w) X.A (lh value slice v u) (EP X pins σ Q) X.xe s
noncomputable def MtR (X:Cx) (id:String) (r:V->List V->Hp->VK->Prop):Prop:=
 ∀ (pins:List (Addr×Obj)) (s:al) (σ:St) (H:Hp) (x:V) (xs:List V) (v:ah) (us:List ah) (Q:VK),Inv X pins σ H s->RelV x v->Vals xs us->r x xs H Q ->
  aJ (model X.prog X.w) X.A (call (.builtin id) (v::us)) (EP X pins σ Q) X.xe s
section
variable {X:Cx} {a b:Expr} {ta tb:TE} {pos:Pos}
theorem a98 {r:R2} (hr:IxR X r) (ha:PE X a ta) (hb:PE X b tb) (hs:Rr b):PE X (.Subscript a b pos) (tOp r ta tb):=by
 intro pins s σ H Q I h
 exact Subscript_ (aq1 ha hb I h fun v u s2 x y H2 I2 rx ry q=>hr a b pins s2 σ H2 x y v u Q I2 rx ry q (hs _ _))
noncomputable def bg6 (K:ac):R2:=fun x y H Q=>∃ p xs i v,x=.ref p/\y=.int i/\SqL K H p xs/\atI xs i=some v/\Q v H
noncomputable def bg8 (K:ac):R2:=fun x y H Q=>∃ p xs i v,x=.ref p/\y=.int i/\SqT K H p xs/\atI xs i=some v/\Q v H
noncomputable def bg7:R2:=fun x y H Q=>∃ z i c,x=.str z/\y=.int i/\z.length<=sizeLine/\atI z.cps.toList i=some c/\Q (.str ⟨#[c]⟩) H
theorem ad4:IxR X (bg6 X.K):=by
 intro value slice pins s σ H x y v u Q I rx ry h hs
 obtain⟨p,xs,i,z,rfl,rfl,hq,he,q⟩:=h
 cases rx
 obtain⟨t,rfl⟩:=ry
 obtain⟨its,r,pl,hz⟩:=I.list hq
 obtain⟨j,h1,h2,h3,h4,h5⟩:=Lu he
 obtain⟨w,ew,rw'⟩:=r.get h2
 have hl:=r.length
 have hn:=Es
 have fin:EP X pins σ Q w s:=⟨z,H,I,rw',q⟩
 by_cases h0:0<=i
 ·have hj:i.toNat=j:=by
   rw [mn h0 h5] at h1
   exact av h1
  exact item_listR pl.isList h0 (by omega) (by rw [hj];simpa using ew) fin hs
 ·have hj:(i+(its.toArray.size:Int)).toNat=j:=by
   rw [lS (by omega) h4] at h1
   rw [aq,<- hl]
   exact av h1
  exact ju (x:=w) pl.isList.typeIs slot_list_getitem.lookup
   (wpAny_getItem_list_neg (Q:=fun r s'=>r=w/\EP X pins σ Q r s') pl.isList (by omega) (by rw [aq] <;> omega) (by omega) (by rw [hj];simpa using ew) ⟨rfl,fin⟩) hs
theorem as6:IxR X (bg8 X.K):=by
 intro value slice pins s σ H x y v u Q I rx ry h hs
 obtain⟨p,xs,i,z,rfl,rfl,hq,he,q⟩:=h
 cases rx
 obtain⟨t,rfl⟩:=ry
 obtain⟨its,r,pl,hz⟩:=I.tuple hq
 obtain⟨j,h1,h2,h3,h4,h5⟩:=Lu he
 obtain⟨w,ew,rw'⟩:=r.get h2
 have hl:=r.length
 have hn:=Es
 have fin:EP X pins σ Q w s:=⟨z,H,I,rw',q⟩
 exact ju (x:=w) pl.typeIs slot_tuple_getitem.lookup
  (getItem_tuple (j:=j) (Q:=fun r s'=>r=w/\EP X pins σ Q r s') pl (by omega) (by omega) (by rw [aq,<- hl];exact h1) (by simpa using ew) ⟨rfl,fin⟩) hs
theorem as5:IxR X bg7:=by
 intro value slice pins s σ H x y v u Q I rx ry h hs
 obtain⟨z,i,c,rfl,rfl,hz,he,q⟩:=h
 obtain⟨t,rfl⟩:=rx
 obtain⟨t',rfl⟩:=ry
 obtain⟨j,h1,h2,h3,h4,h5⟩:=Lu he
 have hl:z.cps.toList.length=z.length:=by simp [Str.length]
 rw [hl] at h1 h4 h5
 have hn:=Es
 exact tail_any (typeIs_str s z t) slot_str_getitem.lookup (getItem_str (c:=c) (by
  have e1:decide (i < -(2 ^ 63:Int))=false:=decide_eq_false (by omega)
  have e2:decide (i ≥ 2 ^ 63)=false:=decide_eq_false (by omega)
  rw [e1,e2,Bool.or_false]) (by rw [h1];simpa using h2) ⟨.str ⟨#[c]⟩,H,I.tok _,⟨_,rfl⟩,q⟩) hs
theorem Qe (its:List ah) (n j:Nat) (u:ah):aW (·.setIfInBounds j u) { cls:=.type "list", data:=.seq its.toArray n }={ cls:=.type "list", data:=.seq (its.set j u).toArray n }:=by
 simp [aW]
theorem Inv.lst {pins:List (Addr×Obj)} {σ:St} {H:Hp} {s:al} {p:Addr} {xs:List V} (I:Inv X pins σ H s) (h:H p=some (.lst xs)) :
  ∃ (its:List ah) (n:Nat),Vals xs its/\s.heap.get? p=some { cls:=.type "list", data:=.seq its.toArray n }/\xs.length<=sizeLine:=by
 obtain⟨z,its,n,r,e⟩:=I.hok p _ h
 exact⟨its,n,r,e,z⟩
theorem Inv.lstUpd {pins:List (Addr×Obj)} {σ:St} {H:Hp} {s:al} {p:Addr} {xs ys:List V} {its its':List ah} {n n':Nat} {f:Obj->Obj} (I:Inv X pins σ H s) (h:H p=some (.lst xs))
  (ho:s.heap.get? p=some { cls:=.type "list", data:=.seq its.toArray n }) (hf:f { cls:=.type "list", data:=.seq its.toArray n }={ cls:=.type "list", data:=.seq its'.toArray n' }) (r:Vals ys its') (hz:ys.length<=sizeLine) (t:Nat) (ht:s.toks<=t:=by first|exact aj _|exact be _ _|assumption|omega|(dsimp only;omega)) :
  Inv X pins σ (upd H p (.lst ys)) { s with heap:=s.heap.update p f,toks:=t }:=by
 have e:(s.heap.update p f).get? p=some { cls:=.type "list", data:=.seq its'.toArray n' }:=by
  rw [jB f ho (by rw [hf] <;> rfl),hf]
 refine I.write (x:=p) (e:=p) (by rw [h];trivial) (.inl rfl) (fun b u hb q=>(jp _ _ (cB hb)).trans q) ⟨_,e⟩ ?_
 exact⟨hz,its',n',r,e⟩
noncomputable def bb2:V->V->V->Hp->(Hp->Prop)->Prop:=fun o i v H Q=>∃ p xs k j,o=.ref p/\i=.int k/\H p=some (.lst xs)/\ixN xs.length k=some j/\Q (upd H p (.lst (xs.set j v)))
theorem Zl:ap9 X bb2:=by
 intro pins s σ H o i v ov iv u Q I ro ri rv h
 obtain⟨p,xs,k,j,rfl,rfl,hp,hj,q⟩:=h
 cases ro
 obtain⟨t,rfl⟩:=ri
 obtain⟨its,n,r,ho,hz⟩:=I.lst hp
 obtain⟨h1,h2,h3,h4⟩:=Si hj
 have hl:=r.length
 have hn:=Es
 have I':Inv X pins σ (upd H p (.lst (xs.set j v))) { s with heap:=s.heap.update p (aW (·.setIfInBounds j u)) }:=
  I.lstUpd hp ho (Qe its n j u) (r.set rv j) (by rw [jH];exact hz) s.toks
 by_cases h0:0<=k
 ·have hk:k.toNat=j:=by
   rw [mn h0 h4] at h1
   exact av h1
  exact PySem.W.ki_setAt ho h0 (by omega) (by rw [aq,<- hl];exact h4) (by rw [hk];exact⟨_,I',q⟩)
 ·have hk:(k+(its.toArray.size:Int)).toNat=j:=by
   rw [lS (by omega) h3] at h1
   rw [aq,<- hl]
   exact av h1
  exact PySem.W.ki_setBack ho (by omega) (by rw [aq,<- hl];exact h3) (by omega) (by rw [hk];exact⟨_,I',q⟩)
theorem M3 (lo hi:Option Int) (n:Nat):(f6 lo hi none n).1=((HT.sIx n 0 lo:Nat):Int)/\(f6 lo hi none n).2.1=((HT.sIx n n hi:Nat):Int)/\(f6 lo hi none n).2.2=1:=by
 refine⟨?_,?_,rfl⟩
 ·cases lo with
  | none=>simp [f6,HT.sIx]
  | some i=>
   simp only [f6,HT.sIx,Option.getD_none,show (1:Int) > 0 by decide,if_true]
   by_cases h:i<0
   ·simp only [h,if_true] <;> omega
   ·simp only [h,if_false] <;> omega
 ·cases hi with
  | none=>simp [f6,HT.sIx]
  | some i=>
   simp only [f6,HT.sIx,Option.getD_none,show (1:Int) > 0 by decide,if_true]
   by_cases h:i<0
   ·simp only [h,if_true] <;> omega
   ·simp only [h,if_false] <;> omega
theorem Km (its:List ah) (lo hi:Option Int):slicePick its.toArray lo hi none=((its.drop (HT.sIx its.length 0 lo)).take (HT.sIx its.length its.length hi - HT.sIx its.length 0 lo)).toArray:=by
 obtain⟨h1,h2,h3⟩:=M3 lo hi its.toArray.size
 unfold slicePick
 rw [h1,h2,h3]
 simp only [sliceRange_one,pick_run,aq] <;> rfl
noncomputable def bh1 (K:ac):V->Option Int->Option Int->Hp->VK->Prop:=fun x lo hi H Q=>∃ a xs,x=.ref a/\SqL K H a xs /\ ∀ p,H p=none->Q (.ref p) (upd H p (.lst (No xs lo hi)))
theorem ai4:SlR X (bh1 X.K):=by
 intro pins s σ H x v vl vu lo hi sl Q I rx hs pl pu h
 obtain⟨a,xs,rfl,hx,q⟩:=h
 cases rx
 obtain⟨its,r,ht,hz⟩:=I.list hx
 have hlen:=r.length
 refine⟨"list", _,slot_list_getitem.lookup,ht.isList.typeIs,?_⟩
 refine wpAny_getItem_list_slice ht.isList hs pl pu .none (by simp) ?_ (by rw [aq] <;> omega)
 rw [Km,<- hlen]
 refine⟨.ref s.heap.objs.size,_,I.laid (t':=s.toks) (o:=.lst (No xs lo hi)) (fun b ob q=>ai _ q) (aj _) ?_,rfl,q _ (I.hok.fresh (aj _))⟩
 exact⟨aT (G9 xs lo hi) hz,_,0,(r.drop (HT.sIx xs.length 0 lo)).take (HT.sIx xs.length xs.length hi - HT.sIx xs.length 0 lo),az _ rfl⟩
noncomputable def eqU (x:V) (u:ah):Bool:=match u with
 | .none=>eqV .non x
 | .bool b=>eqV (.bl b) x
 | .int i _=>eqV (.int i) x
 | .str z _=>eqV (.str z) x
 | _=>false
theorem Xm {x y:V} {u:ah} (r:RelV y u) (f:Bu y=true):eqU x u=eqV y x:=by
 cases y with
 | non=>cases r;rfl
 | bl b=>cases r;rfl
 | int i=>obtain⟨t,rfl⟩:=r;rfl
 | str z=>obtain⟨t,rfl⟩:=r;rfl
 | _=>exact absurd (show false=true from f) au
theorem Fp {x:V}:∀ {xs:List V} {us:List ah},Vals xs us->xs.all Bu=true->us.any (eqU x)=xs.any fun y=>eqV y x
 | _,_,.nil,_=>rfl
 | y::xs,u::us,.cons r t,f=>by
  rw [bS,aP] at f
  rw [fH,fH,Xm r f.1,Fp t f.2]
theorem Et {A:a_} {s:al} {x:V} {v:ah} (rx:RelV x v) (fx:Bu x=true):∀ {xs:List V} {us:List ah},Vals xs us->xs.all Bu=true -> ∀ u∈us,bq A s u v (eqU x u)
 | _,_,.nil,_=>fun u hu=>by cases hu
 | y::xs,u::us,.cons r t,f=>fun u' hu=>by
  rw [bS,aP] at f
  rcases List.mem_cons.mp hu with rfl|hu
  ·rw [Xm r f.1];exact Me r rx f.1 fx
  ·exact Et rx fx t f.2 u' hu
noncomputable def inV (x:V) (xs:List V):Bool:=xs.any fun y=>eqV y x
noncomputable def rIn (K:ac) (neg:Bool):R2:=fun x y H Q=>∃ p xs,y=.ref p/\(SqL K H p xs\/SqT K H p xs)/\Bu x=true/\xs.all Bu=true/\Q (.bl (if neg then !inV x xs else inV x xs)) H
theorem U8:OpR X (b5 .In) (rIn X.K false):=by
 intro pins s σ H x y v u Q I rx ry h
 obtain⟨p,xs,rfl,hq,fx,fs,q⟩:=h
 cases ry
 rcases hq with hq|hq
 ·obtain⟨its,r,pl,hz⟩:=I.list hq
  refine SeqAt.in_listAt (eqU x) pl.isList (fun w hw=>Et rx fx r fs w (by simpa using hw)) ⟨.bl _,H,I,rfl,?_⟩
  rw [show its.toArray.any (eqU x)=its.any (eqU x) by simp,Fp r fs]
  exact q
 ·obtain⟨its,r,pl,hz⟩:=I.tuple hq
  refine SeqAt.in_tupleAt (eqU x) pl (fun w hw=>Et rx fx r fs w (by simpa using hw)) ⟨.bl _,H,I,rfl,?_⟩
  rw [show its.toArray.any (eqU x)=its.any (eqU x) by simp,Fp r fs]
  exact q
theorem Ms:OpR X (b5 .NotIn) (rIn X.K true):=by
 intro pins s σ H x y v u Q I rx ry h
 obtain⟨p,xs,rfl,hq,fx,fs,q⟩:=h
 cases ry
 rcases hq with hq|hq
 ·obtain⟨its,r,pl,hz⟩:=I.list hq
  refine SeqAt.notIn_listAt (eqU x) pl.isList (fun w hw=>Et rx fx r fs w (by simpa using hw)) ⟨.bl _,H,I,rfl,?_⟩
  rw [show its.toArray.any (eqU x)=its.any (eqU x) by simp,Fp r fs]
  exact q
 ·obtain⟨its,r,pl,hz⟩:=I.tuple hq
  refine SeqAt.notIn_tupleAt (eqU x) pl (fun w hw=>Et rx fx r fs w (by simpa using hw)) ⟨.bl _,H,I,rfl,?_⟩
  rw [show its.toArray.any (eqU x)=its.any (eqU x) by simp,Fp r fs]
  exact q
theorem Lx:B0 X (.builtin "len") (fun xs H Q=>∃ p ys,xs=[.ref p]/\(SqL X.K H p ys\/SqT X.K H p ys)/\Q (.int ys.length) H):=by
 intro pins s σ H xs us Q I r h
 obtain⟨p,ys,rfl,hq,q⟩:=h
 obtain⟨u,rfl,rx⟩:=C8 r
 cases rx
 have hn:=Es
 rcases hq with hq|hq
 ·obtain⟨its,r',pl,hz⟩:=I.list hq
  have hlen:=r'.length
  exact Calls.call_len_list pl.isList (by simp only [aq] <;> omega) ⟨.int ys.length,H,I.tok _,⟨s.toks+1,by rw [aq,hlen]⟩,q⟩
 ·obtain⟨its,r',pl,hz⟩:=I.tuple hq
  have hlen:=r'.length
  exact len_tuple pl (by simp only [aq] <;> omega) ⟨.int ys.length,H,I.tok _,⟨s.toks+1,by rw [aq,hlen]⟩,q⟩
theorem Ly:B0 X (.builtin "len") (fun xs H Q=>∃ z,xs=[.str z]/\z.length<=sizeLine/\Q (.int z.length) H):=by
 intro pins s σ H xs us Q I r h
 obtain⟨z,rfl,hz,q⟩:=h
 obtain⟨u,rfl,t,rfl⟩:=C8 r
 have hn:=Es
 exact len_str (by omega) ⟨.int z.length,H,I.tok _,⟨_,rfl⟩,q⟩
theorem Lz:B0 X (.type "list") (fun xs H Q=>∃ p ys,xs=[.ref p]/\(SqL X.K H p ys\/SqT X.K H p ys) /\ ∀ l,H l=none->Q (.ref l) (upd H l (.lst ys))):=by
 intro pins s σ H xs us Q I r h
 obtain⟨p,ys,rfl,hq,q⟩:=h
 obtain⟨u,rfl,rx⟩:=C8 r
 cases rx
 have fin:∀ (its:List ah),Vals ys its->ys.length<=sizeLine -> ∀ (h':Heap) (c':Nat),(∀ b o',s.heap.get? b=some o'->h'.get? b=some o') ->
   h'.get? s.heap.objs.size=some { cls:=.type "list", dict:=none,data:=.seq its.toArray c',slots:=#[] }->EP X pins σ Q (.ref s.heap.objs.size) { s with heap:=h' }:=fun its r' hz h' c' kp e=>
  ⟨.ref s.heap.objs.size,_,I.laid (t':=s.toks) kp (aj _) (show ObjOk X.prog X.w _ h' _ (.lst ys) from⟨hz,its,c',r',e⟩),rfl,q _ (I.hok.fresh (aj _))⟩
 rcases hq with hq|hq
 ·obtain⟨its,r',pl,hz⟩:=I.list hq
  have hlen:=r'.length
  obtain⟨o,ho,hc,n,hd⟩:=pl.isList
  exact call_list_seq p (.inl rfl) ho hc hd (fun h' c' kp e=>fin its r' hz h' c' kp e) (by simp only [aq] <;> omega)
 ·obtain⟨its,r',pl,hz⟩:=I.tuple hq
  have hlen:=r'.length
  obtain⟨o,ho,hc,n,hd⟩:=pl
  exact call_list_seq p (.inr rfl) ho hc hd (fun h' c' kp e=>fin its r' hz h' c' kp e) (by simp only [aq] <;> omega)
theorem Kf:B0 X (.type "tuple") (fun xs H Q=>∃ p ys,xs=[.ref p]/\((SqL X.K H p ys /\ ∀ l,H l=none->Q (.ref l) (upd H l (.tup ys)))\/(SqT X.K H p ys/\Q (.ref p) H))):=by
 intro pins s σ H xs us Q I r h
 obtain⟨p,ys,rfl,h⟩:=h
 obtain⟨u,rfl,rx⟩:=C8 r
 cases rx
 rcases h with ⟨hq,q⟩|⟨hq,q⟩
 ·obtain⟨its,r',pl,hz⟩:=I.list hq
  have hlen:=r'.length
  refine call_tuple_list pl.isList (fun h' kp=>?_) (by simp only [aq] <;> omega)
  have I1:Inv X pins σ H { s with heap:=h' }:=I.kept (t':=s.toks) kp
  have I2:Inv X pins σ (upd H h'.objs.size (.tup ys)) { s with heap:=h'.push { cls:=.type "tuple", data:=.seq its.toArray } }:=
   I1.laid (t':=s.toks) (fun b o e=>ai _ e) (aj _) (show ObjOk X.prog X.w _ _ _ (.tup ys) from⟨hz,its,r',IsTup.new _ _⟩)
  exact⟨.ref h'.objs.size,_,I2,rfl,q _ (I1.hok.fresh (aj _))⟩
 ·obtain⟨its,r',pl,hz⟩:=I.tuple hq
  exact call_tuple_same pl ⟨.ref p,H,I,rfl,q⟩
noncomputable def tyV (K:ac) (T:String) (x:V) (H:Hp):Prop:=match x with
 | .str _=>T = "str"
 | .int _=>T = "int"
 | .ref p=>(T = "list" /\ ∃ xs,SqL K H p xs)\/(T = "tuple" /\ ∃ o,K.lookup p=some o/\o.cls=.type "tuple" /\ o.dict=none) \/
   (T = "dict" /\ ((∃ kvs,H p=some (.dK kvs)) \/ ∃ kvs,H p=some (.dT kvs)))\/(T = "set" /\ ∃ S n,H p=some (.set S n))
 | _=>False
theorem aa1 {pins:List (Addr×Obj)} {σ:St} {H:Hp} {s:al} {T:String} {x:V} {v:ah} (I:Inv X pins σ H s) (r:RelV x v) (ty:tyV X.K T x H) :
  s.TypeIs v T /\ ∀ a,v=.ref a -> ∃ ob,s.heap.get? a=some ob/\ob.dict=none:=by
 cases x with
 | str z=>
  obtain⟨t,rfl⟩:=r
  cases (show T = "str" from ty)
  exact⟨typeIs_str s z t,fun _ e=>nomatch e⟩
 | int i=>
  obtain⟨t,rfl⟩:=r
  cases (show T = "int" from ty)
  exact⟨typeIs_int s i t,fun _ e=>nomatch e⟩
 | ref p=>
  cases r
  rcases ty with ⟨rfl,xs,hq⟩|⟨rfl,o,hk,hc,hd⟩|⟨rfl,hk⟩|⟨rfl,S,n,hk⟩
  ·obtain⟨its,_,pl,_⟩:=I.list hq
   refine⟨pl.isList.typeIs,fun a e=>?_⟩
   cases e
   obtain⟨o,n,e,c,hd,_⟩:=pl
   exact⟨o,e,hd⟩
  ·refine⟨⟨o,I.kIn p o hk,hc⟩,fun a e=>?_⟩
   cases e
   exact⟨o,I.kIn _ o hk,hd⟩
  ·have z:∃ o,s.heap.get? p=some o/\o.ExactDict:=by
    rcases hk with ⟨kvs,hk⟩|⟨kvs,hk⟩
    ·obtain⟨_,_,_,_,o,_,_,e,ex,_⟩:=I.hok p _ hk
     exact⟨o,e,ex⟩
    ·obtain⟨_,_,_,_,o,_,_,e,ex,_⟩:=I.hok p _ hk
     exact⟨o,e,ex⟩
   obtain⟨o,e,ex⟩:=z
   refine⟨⟨o,e,ex.1⟩,fun a e2=>?_⟩
   cases e2
   exact⟨o,e,ex.2.1⟩
  ·obtain⟨o,_,_,_,e,ex,_⟩:=I.hok p _ hk
   refine⟨⟨o,e,ex.1⟩,fun a e2=>?_⟩
   cases e2
   exact⟨o,e,ex.2.1⟩
 | _=>exact cu ty
variable {o e:Expr} {es:List Expr} {to:TE} {t:TA} {name:Str} {apos cpos:Pos} {T id:String} {r:V->List V->Hp->VK->Prop}
end
noncomputable def MtM (X:Cx) (id:String) (r:V->List V->Hp->VK->Prop):Prop:=
 ∀ (pins:List (Addr×Obj)) (s:al) (σ:St) (H:Hp) (x:V) (xs:List V) (v:ah) (us:List ah) (Q:VK),Inv X pins σ H s->RelV x v->Vals xs us->r x xs H Q ->
  aJ (model X.prog X.w) X.A (call (.builtin id) (v::us)) (EP X pins σ Q) X.xe s
theorem Vals.one:∀ {x:V} {us:List ah},Vals [x] us -> ∃ u,us=[u]/\RelV x u
 | _,_,.cons r .nil=>⟨_,rfl,r⟩
theorem Vals.two:∀ {x y:V} {us:List ah},Vals [x,y] us -> ∃ u v,us=[u,v]/\RelV x u/\RelV y v
 | _,_,_,.cons r (.cons q .nil)=>⟨_,_,rfl,r,q⟩
theorem Vals.zero:∀ {us:List ah},Vals [] us->us=[]
 | _,.nil=>rfl
section
variable {X:Cx} {pins:List (Addr×Obj)} {σ:St} {H:Hp} {s:al} {l b:Addr} {xs ys zs:List V}
theorem Inv.lset {its its':List ah} {n:Nat} {f:Array ah->Array ah} {t':Nat} (I:Inv X pins σ H s) (hH:H l=some (.lst xs))
  (e:s.heap.get? l=some { cls:=.type "list", data:=.seq its.toArray n }) (hf:f its.toArray=its'.toArray) (hv:Vals ys its') (hz:ys.length<=sizeLine) (ht:s.toks<=t':=by first|exact aj _|exact be _ _|assumption|omega|(dsimp only;omega)) :
  Inv X pins σ (upd H l (.lst ys)) { s with heap:=s.heap.update l (aW f),toks:=t' }:=by
 have q:=PySem.IsL.update e f
 rw [hf] at q
 refine I.write (x:=l) (e:=l) (by rw [hH];exact trivial) (.inl rfl) (fun b' u hb hu=>(jp s.heap (aW f) (cB hb)).trans hu) ⟨_,q⟩ ?_
 exact⟨hz,its',_,hv,q⟩
theorem Inv.lnew {its:List ah} {t':Nat} (I:Inv X pins σ H s) (hv:Vals ys its) (hz:ys.length<=sizeLine) (ht:s.toks<=t':=by first|exact aj _|exact be _ _|assumption|omega|(dsimp only;omega)) :
  Inv X pins σ (upd H s.heap.objs.size (.lst ys)) { s with heap:=s.heap.push { cls:=.type "list", data:=.seq its.toArray },toks:=t' }:=
 I.laid (fun _ _ q=>ai _ q) (aj _) ⟨hz,its,0,hv,az _ rfl⟩ ht
theorem Inv.fresh (I:Inv X pins σ H s):H s.heap.objs.size=none:=I.hok.fresh (aj _)
theorem Inv.lstM (I:Inv X pins σ H s) (hH:H l=some (.lst xs)):xs.length<=sizeLine /\ ∃ (its:List ah) (n:Nat),Vals xs its/\xs.length=its.length/\s.heap.get? l=some { cls:=.type "list", data:=.seq its.toArray n }:=by
 obtain⟨z,its,n,r,e⟩:=I.hok l _ hH
 exact⟨z,its,n,r,r.length,e⟩
theorem Ye {n:Nat} (h:n<=sizeLine):fw n=false:=by
 unfold fw
 exact decide_eq_false (by omega)
end
section
variable {X:Cx}
noncomputable def Cl:V->List V->Hp->VK->Prop:=fun x vs H Q=>∃ l xs y,x=.ref l/\vs=[y]/\H l=some (.lst xs)/\xs.length<sizeLine/\Q .non (upd H l (.lst (xs++[y])))
theorem Lc:MtM X "list.append" Cl:=by
 intro pins s σ H x vs v us Q I rx rv h
 obtain⟨l,xs,y,rfl,rfl,hH,hz,q⟩:=h
 cases rx
 obtain⟨u,rfl,ru⟩:=rv.one
 obtain⟨z,its,n,r,hl,e⟩:=I.lstM hH
 refine ly F.slot_list_append ⟨_,e,rfl⟩ F.entry_list_append (F.args_list_append_2 _ _) (PySem.list_append l its.toArray n u (by rw [aq];omega)) ⟨e,?_⟩
 refine⟨.non,_,I.lset (its':=its++[u]) hH e (by simp) (r.append (.cons ru .nil)) ?_,rfl,q⟩
 rw [aZ,eC]
 omega
noncomputable def Ig:V->List V->Hp->VK->Prop:=fun x vs H Q=>∃ l b xs zs,x=.ref l/\vs=[.ref b]/\H l=some (.lst xs)/\H b=some (.lst zs)/\xs.length+zs.length<=sizeLine/\Q .non (upd H l (.lst (xs++zs)))
theorem U3:MtM X "list.extend" Ig:=by
 intro pins s σ H x vs v us Q I rx rv h
 obtain⟨l,b,xs,zs,rfl,rfl,hH,hB,hz,q⟩:=h
 cases rx
 obtain⟨u,rfl,ru⟩:=rv.one
 cases ru
 obtain⟨z,its,n,r,hl,e⟩:=I.lstM hH
 obtain⟨z2,its2,n2,r2,hl2,e2⟩:=I.lstM hB
 have hsz:its.toArray.size+its2.toArray.size<=sizeLine:=by rw [aq,aq];omega
 have hlong:¬ (!its.toArray.isEmpty&&fw (its.toArray.size+its2.toArray.size))=true:=by
  rw [Ye hsz,f9]
  exact au
 refine ly F.slot_list_extend ⟨_,e,rfl⟩ F.entry_list_extend (F.args_list_extend_2 _ _)
  (AutoSeq1.list_extend_list_list_0 l its.toArray n b its2.toArray n2 hlong (by rw [aq];omega) (by omega)) ⟨e,e2,?_⟩
 refine⟨.non,_,I.lset (its':=its++its2) hH e (by simp) (r.append r2) ?_,rfl,q⟩
 rw [aZ]
 omega
noncomputable def Qt:V->List V->Hp->VK->Prop:=fun x vs H Q=>∃ l xs,x=.ref l/\vs=[]/\H l=some (.lst xs)/\Q .non (upd H l (.lst []))
theorem X8:MtM X "list.clear" Qt:=by
 intro pins s σ H x vs v us Q I rx rv h
 obtain⟨l,xs,rfl,rfl,hH,q⟩:=h
 cases rx
 have hus:=rv.zero
 subst hus
 obtain⟨z,its,n,r,hl,e⟩:=I.lstM hH
 refine ly F.slot_list_clear ⟨_,e,rfl⟩ F.entry_list_clear (F.args_list_clear_1 _) (AutoSeq1.list_clear_list_0 l its.toArray n (by rw [aq];omega)) ⟨e,?_⟩
 exact⟨.non,_,I.lset (its':=[]) (ys:=[]) hH e rfl .nil (bj _),rfl,q⟩
noncomputable def bb0:R2:=fun x y H Q=>∃ l b xs zs,x=.ref l/\y=.ref b/\H l=some (.lst xs)/\H b=some (.lst zs)/\xs.length+zs.length<=sizeLine /\ ∀ p,H p=none->Q (.ref p) (upd H p (.lst (xs++zs)))
theorem op_cat:OpR X (dA .Add) bb0:=by
 intro pins s σ H x y v u Q I rx ry h
 obtain⟨l,b,xs,zs,rfl,rfl,hH,hB,hz,q⟩:=h
 cases rx
 cases ry
 obtain⟨z,its,n,r,hl,e⟩:=I.lstM hH
 obtain⟨z2,its2,n2,r2,hl2,e2⟩:=I.lstM hB
 refine PySem.P.add_list e e2 ?_ (by rw [aq,aq];omega)
 have ea:its.toArray++its2.toArray=(its++its2).toArray:=by simp
 rw [ea]
 exact⟨.ref _,_,I.lnew (t':=s.toks) (r.append r2) (by rw [aZ];omega),rfl,q _ I.fresh⟩
end
section
variable {prog:aS} {w:bB} {A:a_} {E:ah->al->Prop} {s:al}
set_option maxRecDepth 100000 in
end
section
variable {X:Cx}
end
end L2
namespace Att
open PySem PySem.W PySem.Calls PyProof.Rows
theorem Hl {P:Params} {h:Heap}:∀ (ns:List Int) (vs:List ah),WellAll P h vs (ns.map WData.int)->iU vs ns:=by
 intro ns
 induction ns with
 | nil=>
  intro vs w
  rw [gg] at w
  cases w
  exact .nil
 | cons n ns ih=>
  intro vs w
  rw [aY] at w
  cases w with
  | cons a b=>
   cases a
   exact .cons _ _ (ih _ b)
theorem Vo {l:OpenLaw} {n:Nat} (hn:l.most=some n) {P:Params} {h:Heap} {args:List WData} {vals:List ah}
  (hpre:l.row.toRowW.claim.pre args=true) (hwl:WellAll P h vals args) :
  ∃ a vs ns,vals=[bG a]/\args=[WData.list (ns.map WData.int)]/\h.get? a=some { cls:=.type "list", data:=.seq vs.toArray }/\iU vs ns/\ns.length<=n:=by
 have hsh:WShape.hasAll [] args [.list .int]=true:=(pre_splitW hpre).1
 have hc:l.pre.holds [] { args:=args }=true:=(pre_splitW hpre).2
 obtain⟨d,r,rfl,h1,h2⟩:=hasAllW_cons hsh
 obtain rfl:=hasAllW_nil h2
 obtain⟨xs,rfl,h3⟩:=hasW_list h1
 obtain⟨ns,rfl⟩:=items_int h3
 have hlen:ns.length<=n:=by
  unfold OpenLaw.pre at hc
  have h4:(WTm.not (.lt (.lit (.int (n:Int))) (.len (.arg 0)))).holds [] { args:=[.list (ns.map .int)] }=true:=by
   have h4:=(holds_andW hc).1
   rw [hn] at h4
   exact h4
  have h5:=condW_of h4 (w_not (w_lt w_lit (w_len_list (w_arg rfl))))
  rw [ae] at h5
  refine Nat.le_of_not_lt fun q=>?_
  have q':(n:Int)<((ns.length:Nat):Int):=by omega
  first
   | (rw [decide_eq_true q'] at h5;exact absurd h5 (by decide))
   | (simp at h5;omega)
 cases hwl with
 | cons w1 w2=>
  cases w2
  cases w1 with
  | list ho hall=>exact⟨_,_,ns,rfl,rfl,ho,Hl ns _ hall,hlen⟩
theorem Vd (l:OpenLaw) (args:List WData):l.row.toRowW.claim.post args (.bool true) args=true:=
 postW_of (r:=l.row.toRowW) (X:=(true==true))
  (show WShape.has [] (.bool true) .bool=true by first|rfl|decide|simp [WShape.has,WShape.arms,WShape.armsAll])
  (show (WTm.eq .res (.lit (.bool true))).value [] { args:=args,res:=some (.bool true),after:=args }=some (.bool (true==true)) from w_eq_bool (w_res rfl) w_lit) rfl
theorem attach_call {l:OpenLaw} {n:Nat} {q:aS} {loose:List Str} {XP:(Str->Option ah)->Heap->Prop} {YP:bB->Heap->Prop} {d:DefRec}
  (hn:l.most=some n) (hdf:d.params.defaults=[])
  (call:∀ (w:bB) (s₀ s₁:al) (mg mb:Str->Option ah) (fa:Addr) (o:Obj) (pm cd doc:ah) (a:Addr) (vs:List ah) (ns:List Int),
   Ground q loose [] XP w s₀ mg mb s₁.heap->YP w s₁.heap ->
   s₁.heap.get? fa=some o->o.data=.func (docDef d.name d.params d.body d.scope pm cd doc)->s₁.heap.CodeRec cd d.name->mg d.name=some (.ref fa) ->
   s₁.heap.get? a=some { cls:=.type "list", data:=.seq vs.toArray }->iU vs ns->ns.length<=n->s₁.gens = #[] ->
   ip (model l.prog w) me (.call (.ref fa) ⟨[.ref a],[]⟩) (fun r s'=>r=.ok (.ret (.bool true))/\OldK s₁.heap s'.heap/\s'.os=s₁.os/\kr s'.gens) s₁) :
  WalkO q loose XP YP l.row.toRowW d [] (fun f vs=>PySem.call f vs):=by
 intro w s₀ s₁ mg mb G Y fa o pm cd doc dV kV ho hd hcd hD hmg hg args vals as hpre hlay hrd hwl hlo
 obtain rfl:dV=.none:=Dflts.none hD hdf
 obtain rfl:kV=.none:=Dflts.noKw hD
 obtain⟨a,vs,ns,rfl,rfl,hobj,hints,hlen⟩:=Vo hn hpre hwl
 refine enter_call (fE (call w s₀ s₁ mg mb fa o pm cd doc a vs ns G Y ho (fd_plain hd) hcd hmg hobj hints hlen hg) fun r s' hq=>?_)
 obtain⟨rfl,h2,h3,h4⟩:=hq
 exact⟨.inl ⟨.bool true,.bool true,[],rfl,fun _=>rfl,.bool true,Vd l _,fun _=>⟨iz,fun _ hm=>(nomatch hm)⟩⟩,h2,h3,h4⟩
section
variable {prog:aS} {w:bB} {A:a_} {E:ah->al->Prop} {s:al} {K:Frag}
end
end Att
namespace L2
open PySem PySem.Spec PyProof.Rows
theorem Lm:∀ {vs:List ah} {ns:List Int},iU vs ns->Vals (ns.map V.int) vs
 | _,_,.nil=>.nil
 | _,_,.cons n t h=>.cons ⟨t,rfl⟩ (Lm h)
end L2
namespace L2
open PySem PySem.Spec PyProof.Rows
noncomputable def Bk (s:Stmt) (j:Nat):Stmt:=match s with
 | .ClassDef _ _ _ body _ _ _ _ _ _ _=>body.getD j (.Pass ⟨0,0,0,0⟩)
 | _=>.Pass ⟨0,0,0,0⟩
noncomputable def Bq (s:Stmt):Arguments:=match s with
 | .FunctionDef _ a _ _ _ _ _ _ _ _=>a
 | _=>{ posonlyargs:=[],args:=[],vararg:=none,kwonlyargs:=[],kw_defaults:=[],kwarg:=none,defaults:=[] }
noncomputable def A8 (s:Stmt):List Stmt:=match s with
 | .FunctionDef _ _ b _ _ _ _ _ _ _=>b
 | _=>[]
noncomputable def Am (s:Stmt):Scope:=match s with
 | .FunctionDef _ _ _ _ _ _ sc _ _ _=>sc
 | _=>{ kind:=.function,names:=[],isGenerator:=false,isCoroutine:=false }
noncomputable abbrev CX0:CXT:=fun _ _ _ _ _ _=>False
structure Fun (K:ac) (x qual:Str) (st:Stmt) (f:Addr) (fd:bo):Prop where
 ex:∃ (oc:ah) (od:Option Addr) (kV doc pm:ah) (an:Option Addr) (cdv ct:ah) (osl:Array (Option ah)),
  fd=cf x qual (Bq st) (A8 st) (Am st) .none kV doc pm an cdv ct/\K.lookup f=some ⟨oc,od,.func fd,osl⟩/\cU K cdv qual=true
 kp:ba K (.ref f)=true
section
variable {P:aS} {w:bB} {K:ac} {mg:Str->Option ah} {base:Heap}
theorem Fun.binds {x qual:Str} {st:Stmt} {f:Addr} {fd:bo} {ps:List Str} (F:Fun K x qual st f fd)
  (h:∀ (kV doc pm:ah) (an:Option Addr) (cdv ct:ah) (us:List ah),us.length=ps.length->h_ (cf x qual (Bq st) (A8 st) (Am st) .none kV doc pm an cdv ct) ⟨us,[]⟩=pure (ps.zip us)):Binds K fd ps []:=by
 obtain⟨oc,od,kV,doc,pm,an,cdv,ct,osl,rfl,lk,hcd⟩:=F.ex
 exact .all (h kV doc pm an cdv ct)
theorem Mf {x qual:Str} {st:Stmt} {f:Addr} {oc:ah} {od an:Option Addr} {osl:Array (Option ah)} {kV doc pm cdv ct:ah} (l:K.lookup f=some ⟨oc,od,.func (cf x qual (Bq st) (A8 st) (Am st) .none kV doc pm an cdv ct),osl⟩)
  (c:cU K cdv qual=true) (k:ba K (.ref f)=true):Fun K x qual st f (cf x qual (Bq st) (A8 st) (Am st) .none kV doc pm an cdv ct):=⟨⟨oc,od,kV,doc,pm,an,cdv,ct,osl,rfl,l,c⟩,k⟩
end
section
variable {X:Cx}
end
theorem Xx {A B:Prop} (h:B):if false=true then A else B:=by
 rw [if_neg au]
 exact h
theorem P7 {A B:Prop} (h:A):if true=true then A else B:=by
 rw [if_pos rfl]
 exact h
theorem Ji {c A B:Prop} [Decidable c] (h1:c->A) (h2:¬ c->B):if c then A else B:=by
 by_cases h:c
 ·rw [if_pos h]
  exact h1 h
 ·rw [if_neg h]
  exact h2 h
noncomputable def Same (H H':Hp):Prop:=∀ b o,H b=some o->H' b=some o
theorem Same.refl (H:Hp):Same H H:=fun _ _ h=>h
theorem Same.trans {H H1 H2:Hp} (a:Same H H1) (b:Same H1 H2):Same H H2:=fun c o h=>b c o (a c o h)
theorem Same.free {H H':Hp} (e:Same H H') {l:Addr} (h:H' l=Option.none):H l=Option.none:=by
 cases q:H l with
 | none=>rfl
 | some o=>
  rw [e l o q] at h
  cases h
noncomputable def Cx.comp (X:Cx) (N':List Str) (scope:Scope) (cl:List (Str×Addr)) (fp:List Addr) (C:Addr) (s:al) (H:Hp) (xe:ah->al->Prop):Cx:=
 {prog:=X.prog,w:=X.w,K:=X.K,mg:=X.mg,base:=X.base,A:=X.A,N:=N',s₀:=s,H₀:=H,env:=compEnvC scope cl C X.env,outer:=X.stack,stack:=X.stack,
  ex:=fp,fn:=fun x=>(cl.lookup x).isNone,calm:=X.calm,pn:=[],xe:=xe }
noncomputable def Pu (srcs:List (Option Nat)) (σ:St):St:=srcs.map fun o=>o.bind fun j=>(σ[j]?).join
structure Ik (X:Cx) (N':List Str) (srcs:List (Option Nat)) (scope:Scope) (cl:List (Str×Addr)):Prop where
 clos:jZ scope X.env=pure cl
 nocell:∀ y∈scope.names,y.2≠.cell
 kind:scope.kind=.function
 names:∀ y∈scope.names,y.2=.local->scope.names.lookup y.1=some .local
 sub:∀ x c,cl.lookup x=some c->X.env.cells.lookup x=some c
 has:∀ x,((ir scope X.env).names.lookup x=some .cell\/(ir scope X.env).names.lookup x=some .free) -> ∃ c,cl.lookup x=some c
 len:srcs.length=N'.length
 src:∀ (k j:Nat) (x:Str),N'[k]? = some x->srcs[k]? = some (some j)->X.N[j]? = some x/\(X.env.scope.names.lookup x=some .cell\/X.env.scope.names.lookup x=some .free) /\
  ((ir scope X.env).names.lookup x=some .cell\/(ir scope X.env).names.lookup x=some .free)
noncomputable def Tz (X:Cx) (ifs:List Expr) (t:TT):Prop:=
 ∀ (pins:List (Addr×Obj)) (s:al) (σ:St) (H:Hp) (Q:Bool->Hp->Prop),Inv X pins σ H s->t σ H Q ->
  aJ (model X.prog X.w) X.A (forIn ifs true fun c r=>if r=true then do let ok <- isTrue c X.env (eval c X.env);pure (eo ok) else pure (eo r)) (TP X pins σ Q) X.xe s
noncomputable def bi4:TT:=fun _ H Q=>Q true H
theorem Yq {X:Cx}:Tz X [] bi4:=fun _ _ _ H _ I h=>wpAny_tests_nil ⟨H,I,h⟩
theorem Yr {X:Cx} {c:Expr} {t:TT} (h:PT X c t):Tz X [c] t:=fun pins s σ H Q I q=>wpAny_tests_one (h pins s σ H Q I q)
noncomputable def Z4 (srcs:List (Option Nat)) (wi:TI) (g:TG) (tc:TT) (te:TE):TE:=fun σ H Q=>wi σ H fun J H1=>∀ D,H1 D=none ->
 ∃ W:Nat->Nat->St->Hp->Prop,(∃ m,W 0 m (Pu srcs σ) (upd H1 D (.lst []))) /\ ∀ i m σ' H',W i m σ' H' ->
  (J.stop i H'/\Q (.ref D) H')\/(J.go i H' /\ ∃ N:St->Hp->Prop,(∀ σ2 H2,N σ2 H2 -> ∃ m',m'<m/\W (i+1) m' σ2 H2) /\ ∀ x H2,J.yld i H' x H2->g x σ' H2 fun σ3 H3=>tc σ3 H3 fun b H4=>if b=true then
    te σ3 H4 fun v H5=>∃ ys,H5 D=some (.lst ys)/\ys.length<sizeLine/\N σ3 (upd H5 D (.lst (ys++[v])))
   else N σ3 H4)
section
variable {g:TG} {tc:TT} {te:TE} {D:Addr} {R:Hp->Prop} {σ:St} {H:Hp}
end
section
variable {prog:aS} {w:bB} {A:a_} {E:ah->al->Prop} {R:Result->al->Prop} {s:al}
theorem L6 {elt target iter:Expr} {ifs:List Expr} {scope:Scope} {pos:Pos} {it acc:ah} {env:Env} (I:Nat->al->Prop)
  (turn:∀ n s,I n s->aJ (model prog w) A (ic it) (fun r s₁=>match r with
   | none=>R (.ok .next) s₁
   | some v=>aJ (model prog w) A (gZ target it v) (fun _ s₀=>aJ (model prog w) A (lN target env v) (fun _ s₂=>
     aJ (model prog w) A (forIn ifs true fun c r=>if r=true then do let ok <- isTrue c env (eval c env);pure (eo ok) else pure (eo r)) (fun ok s₃=>
      if ok=true then aJ (model prog w) A (eval elt env) (fun x s₄=>
       aJ (model prog w) A (call (.builtin "list.append") [acc,x]) (fun _ s₅=>∃ m,m<n/\I m s₅) (lA (model prog w) A env fun e s'=>R (.error e) s') s₄) (lA (model prog w) A env fun e s'=>R (.error e) s') s₃
      else ∃ m,m<n/\I m s₃) (lA (model prog w) A env fun e s'=>R (.error e) s') s₂) (lA (model prog w) A env fun e s'=>R (.error e) s') s₀) (lA (model prog w) A env fun e s'=>R (.error e) s') s₁) (lA (model prog w) A env fun e s'=>R (.error e) s') s)
  (n:Nat) (h:I n s) :
  ip (model prog w) A (.compLoop (.ListComp elt [⟨target,iter,ifs,0⟩] scope pos) 0 it acc env) R s:=by
 refine codeAny_loop rfl I (fun n s hI=>?_) n h
 show aJ _ A ((compTurn (.ListComp elt [⟨target,iter,ifs,0⟩] scope pos) 0 it acc env).onRaise (fun x=>do noteFrame x env;theTreesLotGoes x)) _ _ s
 refine wpAny_noted ?_
 rw [compTurn_list]
 refine ag (fN (ag (bR (turn n s hI) (fun r s₁ h₁=>?_) fun _ _ h'=>h')))
 cases r with
 | none=>exact ar h₁
 | some v=>
  refine ag (bR h₁ (fun _ s₀ h₀=>?_) fun _ _ h'=>h')
  refine ag (bR h₀ (fun _ s₂ h₂=>ag (bR h₂ (fun ok s₃ h₃=>?_) fun _ _ h'=>h')) fun _ _ h'=>h')
  cases ok with
  | false=>exact ar ⟨rfl,h₃⟩
  | true=>
   exact ag (ag (bR h₃ (fun x s₄ h₄=>ag (bR h₄ (fun _ s₅ h₅=>ar (ar ⟨rfl,h₅⟩)) fun _ _ h'=>h')) fun _ _ h'=>h'))
end
section
variable {X:Cx} {elt tg iter:Expr} {ifs:List Expr} {scope:Scope} {pos:Pos} {N':List Str} {srcs:List (Option Nat)} {cl:List (Str×Addr)} {wi:TI} {g:TG} {tc:TT} {te:TE}
theorem Pw {xe:ah->al->Prop} {pins:List (Addr×Obj)} {σ:St} {H:Hp} {s:al} {fp:List Addr} {C D:Addr} {h₁:Heap} {tk:Nat} (S:Ik X N' srcs scope cl) (I:Inv X pins σ H s) (f:∀ b∈fp,C9 X pins H b) (fo:∀ b∈fp,b<s.heap.objs.size)
  (hD:s.heap.objs.size<=D) (hC:s.heap.objs.size<=C) (hDC:C≠D) (hns:∃ m,h₁.Ns C m) (old:∀ b o,s.heap.get? b=some o->h₁.get? b=some o) (hacc:∃ n,h₁.get? D=some { cls:=.type "list", data:=.seq ([]:List ah).toArray n }) (ht:s.toks<=tk:=by first|exact aj _|exact be _ _|assumption|omega|(dsimp only;omega)) :
  Inv (X.comp N' scope cl fp C s H xe) [] (Pu srcs σ) (upd H D (.lst [])) { s with heap:=h₁,toks:=tk }:=by
 have hfD:=I.hok.fresh hD
 have ok:(X.comp N' scope cl fp C s H xe).Ok:=by
  refine⟨I.ok.mod,S.kind,I.ok.glob,I.ok.blt,hC,fun x y c a b=>I.ok.inj x y c (S.sub x c a) (S.sub y c b),S.has,fun x c hf hl=>?_,I.ok.hd,I.ok.frames,.inl rfl,fun b hb=>⟨?_,fun x c hl=>?_⟩,I.bs,aT I.ok.bsz I.sz,fun b o e hb=>?_,fun b hb hfs=>?_,I.stack,I.stkFree,aX⟩
  ·have hl':cl.lookup x=some c:=hl
   have hf':(cl.lookup x).isNone=true:=hf
   rw [hl'] at hf'
   cases hf'
  ·exact aN (aD (fo b hb) hC)
  ·exact (f b hb).2.2.2.2.1 x c (S.sub x c hl)
  ·rcases (f b hb).2.2.2.1 with z|z
   ·exact I.ok.noex b o e z
   ·exact absurd (aD (aC e) (aT I.ok.bsz z)) (eV _)
  ·rcases List.mem_cons.mp (I.stkSub b hfs) with z|z
   ·exact (f b hb).2.1 z
   ·exact (f b hb).2.2.1 z
 obtain⟨m0,hns⟩:=hns
 obtain⟨nn,hacc⟩:=hacc
 refine⟨ok,⟨rfl,ht⟩,I.bare,Un.laid old hD hfD,⟨m0,hns,fun k x v e1 e2 e3=>?_⟩,fun x c hl=>?_,?_,fun x c hl=>?_,fun p hp=>absurd (show p∈([]:List (Addr×Obj)) from hp) (by simp),I.hok.laid old hD ⟨bj _,[],nn,.nil,hacc⟩,?_⟩
 ·-- the captured names
  have e1:N'[k]? = some x:=e1
  have e2:(srcs.map fun o=>o.bind fun j=>(σ[j]?).join)[k]? = some (some v):=e2
  rw [ak] at e2
  cases hk:srcs[k]? with
  | none=>rw [hk] at e2;cases e2
  | some o=>
   rw [hk] at e2
   cases o with
   | none=>cases e2
   | some j=>
    have e2':(σ[j]?).join=some v:=av e2
    have e3':σ[j]? = some (some v):=by
     cases hj:σ[j]? with
     | none=>rw [hj] at e2';cases e2'
     | some y=>rw [hj] at e2';exact congrArg some e2'
    obtain⟨a1,a2,a3⟩:=S.src k j x e1 hk
    obtain⟨m,hn,hl⟩:=I.loc
    obtain⟨u,r,l⟩:=hl j x v a1 e3' (a2.elim (fun z=>.inr (.inl z)) fun z=>.inr (.inr z))
    refine⟨u,r,.inr ⟨a3,?_⟩⟩
    obtain⟨c,hc⟩:=S.has x a3
    refine⟨c,hc,?_⟩
    rcases l with ⟨z,_⟩|⟨_,c',hc',o,ho,hd⟩
    ·have z':X.env.scope.names.lookup x=some .local:=z
     rcases a2 with q|q <;> rw [q] at z' <;> cases z'
    ·have e:=S.sub x c hc
     rw [hc'] at e
     cases e
     exact⟨o,old _ o ho,hd⟩
 ·obtain⟨v,o,ho,hd⟩:=I.cell x c (S.sub x c hl)
  exact⟨v,o,old _ o ho,hd⟩
 ·show upd H D (.lst []) C=none
  rw [Ad hDC]
  exact I.hok.fresh hC
 ·have hx:=S.sub x c hl
  obtain⟨v,o,ho,hd⟩:=I.cell x c hx
  rw [Ad (aN (aD (aC ho) hD))]
  exact I.freeC x c hx
 ·show (Pu srcs σ).length=N'.length
  unfold Pu
  rw [ae,S.len]
noncomputable def Bl (X:Cx) (scope:Scope) (cl:List (Str×Addr)) (use:Option (ah->Sem Unit)) (Q2:ah->al->Prop) (D C:Addr):ah->al->Prop:=
 lA (model X.prog X.w) X.A (compEnvC scope cl C X.env) fun e s'=>compPost (model X.prog X.w) X.A X.xe use Q2 (.ref D) C (.error e) s'
theorem Kx {pins:List (Addr×Obj)} {s:al} {σ:St} {H:Hp} {Q:VK} {use:Option (ah->Sem Unit)} {Q2:ah->al->Prop} (hc:X.calm=true) (S:Ik X N' srcs scope cl) (hi:PI X tg iter wi)
  (hb:∀ fp C D s2 H2,Inv X pins σ H2 s2->(∀ b∈fp,C9 X pins H2 b)->s2.heap.objs.size<=C->PG (X.comp N' scope cl fp C s2 H2 (Bl X scope cl use Q2 D C)) tg g/\Tz (X.comp N' scope cl fp C s2 H2 (Bl X scope cl use Q2 D C)) ifs tc/\PE (X.comp N' scope cl fp C s2 H2 (Bl X scope cl use Q2 D C)) elt te)
  (I:Inv X pins σ H s) (h:Z4 srcs wi g tc te σ H Q)
  (fin:∀ (D C:Addr) (H':Hp) (s':al),Inv X pins σ H' s'->(∃ m,s'.heap.Ns C m)->C9 X pins H' C->Q (.ref D) H'->compPost (model X.prog X.w) X.A X.xe use Q2 (.ref D) C (.ok .next) s')
  (hs:∀ x,eZ iter X.env x=pure x) :
  aJ (model X.prog X.w) X.A (comprehension (.ListComp elt [⟨tg,iter,ifs,0⟩] scope pos) scope X.env (firstIterPos [⟨tg,iter,ifs,0⟩] pos) (newList []) false (eval iter X.env) use) Q2 X.xe s:=by
 refine wpAny_comprehension_free rfl hs S.clos S.kind S.names (thn (hi pins s σ H _ I h) fun v s1 h1=>thn h1 fun itv s2 h2=>?_)
 obtain⟨it,fp,tn,J,H2,e,I2,T,st2,f2,q2⟩:=h2
 subst e
 refine cx (wpAny_newFunctionEnv S.nocell (by intro y hy;simp at hy) (fun h₁ hns₁ hsb₁=>?_) S.kind)
 dsimp only at hns₁ hsb₁ ⊢
 generalize hH2:s2.heap.push { cls:=.type "list", dict:=none,data:=.seq ([]:List ah).toArray }=G2 at hns₁ hsb₁ ⊢
 have hCe:G2.objs.size=s2.heap.objs.size+1:=by rw [<- hH2,dD]
 have hDC:G2.objs.size≠s2.heap.objs.size:=by rw [hCe];exact gh (cn _)
 have hCle:s2.heap.objs.size<=G2.objs.size:=by rw [hCe];exact cQ _
 have old:∀ b o,s2.heap.get? b=some o->h₁.get? b=some o:=fun b o e=>
  hsb₁.extBut b o (aN (aD (aC e) hCle)) (ai _ (hH2▸ai _ e))
 have hacc:∃ n,h₁.get? s2.heap.objs.size=some { cls:=.type "list", data:=.seq ([]:List ah).toArray n }:=⟨_,hsb₁.extBut _ _ (cB hDC) (ai _ (hH2▸az _ rfl))⟩
 have fo:∀ b∈fp,b<s2.heap.objs.size:=fun b hb=>by
  obtain⟨o,ho,_⟩:=T.obj _ _ st2 b hb
  exact aC ho
 have st3:tn 0 h₁:=T.keep _ _ _ st2 fun b _ o e=>old b o e
 obtain⟨hg,ht,he⟩:=hb fp G2.objs.size s2.heap.objs.size s2 H2 I2 f2 hCle
 obtain⟨W,⟨m0,w0⟩,turn⟩:=q2 s2.heap.objs.size (I2.hok.fresh (aj _))
 have loop:∀ s3:al,s3={ s2 with heap:=h₁,toks:=s2.toks+([]:List (Str×ah)).length } ->
   ip (model X.prog X.w) X.A (.compLoop (.ListComp elt [⟨tg,iter,ifs,0⟩] scope pos) 0 (.ref it) (.ref s2.heap.objs.size) (compEnvC scope cl G2.objs.size X.env))
    (compPost (model X.prog X.w) X.A X.xe use Q2 (.ref s2.heap.objs.size) G2.objs.size) s3:=by
  rintro s3 rfl
  have I3:Inv (X.comp N' scope cl fp G2.objs.size s2 H2 (Bl X scope cl use Q2 s2.heap.objs.size G2.objs.size)) [] (Pu srcs σ) (upd H2 s2.heap.objs.size (.lst [])) { s2 with heap:=h₁,toks:=s2.toks+([]:List (Str×ah)).length }:=
   Pw S I2 f2 fo (aj _) hCle hDC ⟨_,hns₁⟩ old hacc
  have stat:∀ {H':Hp},(∀ b∈fp,H' b=none) -> ∀ b∈fp,C9 (X.comp N' scope cl fp G2.objs.size s2 H2 (Bl X scope cl use Q2 s2.heap.objs.size G2.objs.size)) [] H' b:=fun hn b hb=>
   ⟨hn b hb,aN (aD (fo b hb) hCle),(fun z=>(List.mem_cons.mp (I2.stkSub b z)).elim (f2 b hb).2.1 (f2 b hb).2.2.1),.inl hb,fun x c hl=>(f2 b hb).2.2.2.2.1 x c (S.sub x c hl),fun p hp=>absurd (show p∈([]:List (Addr×Obj)) from hp) (by simp)⟩
  refine L6 (fun n s'=>∃ i σ' H',Inv (X.comp N' scope cl fp G2.objs.size s2 H2 (Bl X scope cl use Q2 s2.heap.objs.size G2.objs.size)) [] σ' H' s'/\tn i s'.heap/\(∀ b∈fp,H' b=none)/\W i n σ' H') ?_ m0
   ⟨0,_,_,I3,st3,fun b hb=>by rw [Ad (aN (fo b hb))];exact (f2 b hb).1,w0⟩
  rintro n s4 ⟨i,σ4,H4,I4,st4,fr4,w4⟩
  rcases turn i n σ4 H4 w4 with ⟨stop,qn⟩|⟨go,NN,hNN,step⟩
  ·refine thn (T.done (X.comp N' scope cl fp G2.objs.size s2 H2 (Bl X scope cl use Q2 s2.heap.objs.size G2.objs.size)) rfl rfl rfl hc i [] s4 σ4 H4 _ I4 (stat fr4) st4 stop) fun r s5 ⟨hr,I5⟩=>?_
   subst hr
   obtain⟨m5,hn5,_⟩:=id I5.loc
   have I6:Inv X pins σ H4 s5:=I2.call' (ch:=fp) I5.os I5.base I5.hok I5.bare fun b hb=>⟨(f2 b hb).2.2.2.1,(f2 b hb).2.1,(f2 b hb).2.2.2.2.1,(f2 b hb).2.2.2.2.2⟩
   exact fin _ _ H4 s5 I6 ⟨m5,hn5⟩ (I2.fpOk hCle I5.free) qn
  ·refine thn (T.item (X.comp N' scope cl fp G2.objs.size s2 H2 (Bl X scope cl use Q2 s2.heap.objs.size G2.objs.size)) rfl rfl rfl hc i [] s4 σ4 H4 _ I4 (stat fr4) st4 go) fun r s5 ⟨u,hr,h5⟩=>?_
   subst hr
   refine thn h5 fun _ s6 ⟨x,H6,I6,r6,y6,st6,fr6⟩=>?_
   have I6':=I6.pinned (stat fr6) (T.obj _ _ st6)
   refine thn (hg _ s6 σ4 H6 x u _ I6' r6 (step x H6 y6)) fun _ s7 ⟨σ7,H7,I7,q7⟩=>?_
   have again:∀ {s9:al} {H9:Hp},Inv (X.comp N' scope cl fp G2.objs.size s2 H2 (Bl X scope cl use Q2 s2.heap.objs.size G2.objs.size)) ([]++Gz fp s6.heap) σ7 H9 s9->NN σ7 H9 ->
     ∃ m,m<n /\ ∃ i σ' H',Inv (X.comp N' scope cl fp G2.objs.size s2 H2 (Bl X scope cl use Q2 s2.heap.objs.size G2.objs.size)) [] σ' H' s9/\tn i s9.heap/\(∀ b∈fp,H' b=none)/\W i m σ' H':=fun {s9 H9} I9 n9=>by
    obtain⟨m',hm,w9⟩:=hNN σ7 H9 n9
    refine⟨m',hm,i+1,σ7,H9,I9.unpinned,T.keep _ _ _ st6 fun b hb o e=>(I9.pin (b,o) (aR _ (aR _ (D7 hb e)))).1,fun b hb=>?_,w9⟩
    obtain⟨o,e,d⟩:=T.obj _ _ st6 b hb
    exact (I9.pin (b,o) (aR _ (aR _ (D7 hb e)))).2.1
   refine thn (ht _ s7 σ7 H7 _ I7 q7) fun b s8 ⟨H8,I8,q8⟩=>?_
   cases b with
   | false=>
    rw [if_neg au] at q8
    exact again I8 q8
   | true=>
    rw [if_pos rfl] at q8
    refine thn (he _ s8 σ7 H8 _ I8 q8) fun y s9 ⟨v9,H9,I9,r9,ys,hD,hlen,w9⟩=>?_
    refine thn (Lc (X:=X.comp N' scope cl fp G2.objs.size s2 H2 (Bl X scope cl use Q2 s2.heap.objs.size G2.objs.size)) ([]++Gz fp s6.heap) s9 σ7 H9 (.ref s2.heap.objs.size) [v9] (.ref s2.heap.objs.size) [y] (fun _ H'=>H'=upd H9 s2.heap.objs.size (.lst (ys++[v9]))) I9 rfl (.cons r9 .nil)
     ⟨_,ys,v9,rfl,rfl,hD,hlen,rfl⟩) fun _ s10 ⟨_,H10,I10,_,e10⟩=>?_
    subst e10
    exact again I10 w9
 exact codeAny_compStart_list (loop _ rfl) (T.self X.A 0 _ _ _ st3 (loop _ rfl))
theorem Xf {pins:List (Addr×Obj)} {s:al} {σ:St} {H:Hp} {Q:VK} (hc:X.calm=true) (S:Ik X N' srcs scope cl) (hi:PI X tg iter wi)
  (hb:∀ Q2 fp C D s2 H2,Inv X pins σ H2 s2->(∀ b∈fp,C9 X pins H2 b)->s2.heap.objs.size<=C->PG (X.comp N' scope cl fp C s2 H2 (Bl X scope cl none Q2 D C)) tg g/\Tz (X.comp N' scope cl fp C s2 H2 (Bl X scope cl none Q2 D C)) ifs tc/\PE (X.comp N' scope cl fp C s2 H2 (Bl X scope cl none Q2 D C)) elt te)
  (I:Inv X pins σ H s) (h:Z4 srcs wi g tc te σ H Q) (hs:∀ x,eZ iter X.env x=pure x) :
  aJ (model X.prog X.w) X.A (eval (.ListComp elt [⟨tg,iter,ifs,0⟩] scope pos) X.env) (EP X pins σ Q) X.xe s:=by
 rw [eval_ListComp]
 refine Kx (use:=none) hc S hi (fun fp C D s2 H2=>hb _ fp C D s2 H2) I h (fun D C H' s' I' ns fo q=>?_) hs
 obtain⟨m,hn⟩:=ns
 obtain⟨f0,f1,f2,f3,f4,f5⟩:=fo
 exact⟨m,hn,fun h' sb=>⟨.ref D,H',I'.turned (t':=s'.toks) (fun b o hb e=>(sb.2 b hb).trans e) f0 f1 f3 f4 f5,rfl,q⟩⟩
theorem Xe {i:Nat} {x:Str} {pos' spos:Pos} {pins:List (Addr×Obj)} {s:al} {σ:St} {H:Hp} {D:Nf} (hc:X.calm=true) (hN:X.N.Nodup) (hx:X.N[i]? = some x) (hl:X.env.scope.names.lookup x=some .local) (S:Ik X N' srcs scope cl) (hi:PI X tg iter wi)
  (hb:∀ us Q2 fp C D s2 H2,Inv X pins σ H2 s2->(∀ b∈fp,C9 X pins H2 b)->s2.heap.objs.size<=C->PG (X.comp N' scope cl fp C s2 H2 (Bl X scope cl us Q2 D C)) tg g/\Tz (X.comp N' scope cl fp C s2 H2 (Bl X scope cl us Q2 D C)) ifs tc/\PE (X.comp N' scope cl fp C s2 H2 (Bl X scope cl us Q2 D C)) elt te)
  (I:Inv X pins σ H s) (h:a29 (Z4 srcs wi g tc te) (Xo i) D σ H)
  (hsw:iO (.ListComp elt [⟨tg,iter,ifs,0⟩] scope pos) (some (.Name x pos')) spos.line X.env=pure true) (hs:∀ x,eZ iter X.env x=pure x) :
  aJ (model X.prog X.w) X.A (exec (.Assign [.Name x pos'] (.ListComp elt [⟨tg,iter,ifs,0⟩] scope pos) spos) X.env) (SP X pins D) X.xe s:=by
 rw [exec_Assign_Name_used _ _ _ _ hsw]
 refine ag (fN (ag ?_))
 show aJ _ X.A (do let _ <- comprehension (.ListComp elt [⟨tg,iter,ifs,0⟩] scope pos) scope X.env _ (newList []) false (eval iter X.env) (some (lN (.Name x pos') X.env))) _ _ s
 refine ag (thn (Kx (use:=some (lN (.Name x pos') X.env)) (Q:=fun v H'=>D.nx (σ.set i (some v)) H') (Q2:=fun _ s'=>SP X pins D .next s') hc S hi (fun fp C D s2 H2=>hb _ _ fp C D s2 H2) I h (fun L C H' s' I' ns fo q=>?_) hs) fun _ s' hq=>ar (ar hq))
 obtain⟨m,hn⟩:=ns
 obtain⟨f0,f1,f2,f3,f4,f5⟩:=fo
 obtain⟨oC,es,ep,hoC,hd,hr⟩:=id hn
 have I2:Inv X (pins++[(C,oC)]) σ H' s':=I'.pins_of fun p hp=>(List.mem_append.mp hp).elim (fun z=>I'.pin p (aR _ z)) fun z=>by
  have z':p=(C,oC):=by simpa using z
  subst z'
  exact⟨hoC,f0,f1,f2,fun v e=>by rw [hd] at e;cases e⟩
 refine wpAny_assign_Name (J5 (i:=i) (v:=.ref L) I2 hN hx (.inl hl) rfl (fun s2 I3=>?_) (.inr hl))
 have hoC':=(I3.pin (C,oC) (aR _ (aR _ (by simp)))).1
 refine⟨m,⟨oC,es,ep,hoC',hd,hr⟩,fun h' sb=>?_⟩
 exact⟨_,H',(I3.unpinned).turned (t':=s2.toks) (fun b o hb e=>(sb.2 b hb).trans e) f0 f1 f3 f4 f5,q⟩
end
noncomputable def Its (x:Str):It:=⟨fun i _=>i<x.cps.size,fun i H v H'=>H'=H /\ ∃ c,x.cps[i]? = some c/\v=.str ⟨#[c]⟩,fun i _=>i=x.cps.size⟩
theorem Z9 {P:aS} {w:bB} {K:ac} {tg:Expr} (it:Addr) (x:Str) (t:Tok) (ty:String) (hty:ty = "str_ascii_iterator" \/ ty = "str_iterator") :
  Im P w K tg (Its x) [it] it (fun i h=>h.IsStrIter it ty x t i) where
 mem:=by simp
 obj:=fun i h st b hb=>by
  have e:b=it:=by simpa using hb
  subst e
  obtain⟨o,e,c,d⟩:=st
  exact⟨o,e,fun v z=>by rw [d] at z;cases z⟩
 keep:=fun i h h' st k=>by
  obtain⟨o,e,r⟩:=st
  exact⟨o,k it (by simp) o e,r⟩
 item:=by
  intro X hP hw hK hc i pins s σ H E I hf st hg
  subst hP hw hK
  obtain⟨f0,f1,f2,f3,f4,f5⟩:=hf it (by simp)
  have W:my X.prog X.w X.A it [it] [it] x.cps.size (SignAt x) (fun i h=>h.IsStrIter it ty x t i):=by
   rcases hty with rfl|rfl
   ·exact Walks.strAscii (I.ok.hd hc) it x t
   ·exact Walks.strWide (I.ok.hd hc) it x t
  refine bu (aj _) (W.item i s _ _ hg st fun v h' tk hv st' kk htk=>?_)
  obtain⟨c,u,hcp,rfl⟩:=hv
  have I1:Inv X pins σ H { s with heap:=h',toks:=tk }:=I.turned (fun b o hb e=>kk b o (by simpa using hb) e) f0 f1 f3 f4 f5
  obtain⟨o,e,cc,d⟩:=id st'
  exact⟨_,rfl,Ha (s:={ s with heap:=h',toks:=tk }) e cc d (by rcases hty with rfl|rfl <;> decide) ⟨.str ⟨#[c]⟩,H,I1,⟨_,rfl⟩,⟨rfl,c,hcp,rfl⟩,st',fun b hb=>(hf b hb).1⟩⟩
 done:=by
  intro X hP hw hK hc i pins s σ H E I hf st hg
  subst hP hw hK
  obtain⟨f0,f1,f2,f3,f4,f5⟩:=hf it (by simp)
  have hg:i=x.cps.size:=hg
  subst hg
  have W:my X.prog X.w X.A it [it] [it] x.cps.size (SignAt x) (fun i h=>h.IsStrIter it ty x t i):=by
   rcases hty with rfl|rfl
   ·exact Walks.strAscii (I.ok.hd hc) it x t
   ·exact Walks.strWide (I.ok.hd hc) it x t
  exact bu (aj _) (W.done s _ _ st fun h' tk kk htk=>⟨rfl,I.turned (fun b o hb e=>kk b o (by simpa using hb) e) f0 f1 f3 f4 f5⟩)
 self:=by
  intro A i s Q E st h
  rcases hty with rfl|rfl
  ·exact wpAny_pyIter_striter_ascii st h
  ·exact wpAny_pyIter_striter_wide st h
section
variable {X:Cx} {tg:Expr}
end
section
variable {X:Cx} {pins:List (Addr×Obj)} {σ:St} {H:Hp} {s:al} {h':Heap} {ch:List Addr} {t':Nat}
theorem Inv.turnedL (I:Inv X pins σ H s) (hf:∀ b∈ch,C9 X pins H b) (k:∀ b o,b∉ch->s.heap.get? b=some o->h'.get? b=some o) (ht:s.toks<=t':=by first|exact aj _|exact be _ _|assumption|omega|(dsimp only;omega)):Inv X pins σ H { s with heap:=h',toks:=t' }:=by
 have tr:∀ b ob,H b=some ob->b∉ch:=fun b ob e hb=>by rw [(hf b hb).1] at e;cases e
 refine I.step (g':=s.gens) (d':=s.drawn) (ch:=ch) (fun b hb=>⟨(hf b hb).2.2.2.1,(hf b hb).2.1,(hf b hb).2.2.2.2.1,(hf b hb).2.2.2.2.2⟩) (fun b o _ _ hb e _=>k b o hb e) (fun b o _ _ hb e _=>⟨o.slots,k b o hb e⟩) (fun _ _ _ _ n=>n) (fun b o hb e=>⟨o,k b o hb e⟩)
  (fun _ _ e=>e) (fun _ _ _ e=>e) (fun b ps e=>⟨#[],by rw [e];simp⟩) (fun m hm=>?_) (fun b ob e=>?_) I.bare
 ·obtain⟨o,es,ep,ho,r⟩:=hm
  exact⟨o,es,ep,k _ o (fun z=>(hf _ z).2.1 rfl) ho,r⟩
 ·refine (I.hok b ob e).stay (fun b' w' hc' q=>k b' w' ?_ q) (fun _ q=>q) fun _ _ q=>q
  rcases hc' with rfl|hc'
  ·exact tr _ _ e
  ·exact tr _ _ hc'
theorem Inv.turnedN {T:Addr} {o:HO} (I:Inv X pins σ H s) (hf:∀ b∈ch,C9 X pins H b) (k:∀ b o,b∉ch->s.heap.get? b=some o->h'.get? b=some o) (hT:s.heap.objs.size<=T) (new:ObjOk X.prog X.w (upd H T o) h' T o) (ht:s.toks<=t':=by first|exact aj _|exact be _ _|assumption|omega|(dsimp only;omega)) :
  Inv X pins σ (upd H T o) { s with heap:=h',toks:=t' }:=by
 have tr:∀ b ob,H b=some ob->b∉ch:=fun b ob e hb=>by rw [(hf b hb).1] at e;cases e
 have hn:=I.hok.fresh hT
 have nT:∀ {b o},s.heap.get? b=some o->b≠T:=fun e=>aN (aD (aC e) hT)
 refine I.step (g':=s.gens) (d':=s.drawn) (ch:=ch) (fun b hb=>⟨(hf b hb).2.2.2.1,(hf b hb).2.1,(hf b hb).2.2.2.2.1,(hf b hb).2.2.2.2.2⟩) (fun b o _ _ hb e _=>k b o hb e) (fun b o _ _ hb e _=>⟨o.slots,k b o hb e⟩) (fun b o _ e n=>by rw [Ad (nT e)];exact n) (fun b o hb e=>⟨o,k b o hb e⟩)
  (fun b zs e=>by rw [Ad (Ai e hn)];exact e) (fun b o zs e=>by rw [Ad (Ai e hn)];exact e) (fun b ps e=>⟨#[],by rw [Ad (Ai e hn),e];simp⟩) (fun m hm=>?_) (fun b ob e=>?_) I.bare
 ·obtain⟨o,es,ep,ho,r⟩:=hm
  exact⟨o,es,ep,k _ o (fun z=>(hf _ z).2.1 rfl) ho,r⟩
 ·by_cases hb:b=T
  ·subst hb
   rw [Aa] at e
   cases e
   exact new
  ·rw [Ad hb] at e
   refine (I.hok b ob e).stay (fun b' w' hc' q=>k b' w' ?_ q) (fun b' q=>by rw [Ad (Ai q hn)];exact q) fun b' zs q=>by rw [Ad (Ai q hn)];exact q
   rcases hc' with rfl|hc'
   ·exact tr _ _ e
   ·exact tr _ _ hc'
end
section
variable {X:Cx}
end
theorem Vl {bs:List Bool}:(aw bs.length).all (fun i=>bs.getD i true)=bs.all fun b=>b:=by
 rw [bT,bb,bb]
 constructor
 ·intro h b hb
  obtain⟨i,hi,e⟩:=List.mem_iff_getElem.mp hb
  have q:=h i (List.mem_range.mpr hi)
  rw [ao,af hi,e] at q
  exact q
 ·intro h i hi
  have hi:=List.mem_range.mp hi
  rw [ao,af hi]
  exact h _ (cK hi)
section
variable {X:Cx}
theorem Xa (hc:X.calm=true):B0 X (.builtin "all") (fun xs H Q=>∃ (p:Addr) (bs:List Bool),xs=[.ref p]/\SqL X.K H p (bs.map V.bl)/\Q (.bl (bs.all fun b=>b)) H):=by
 intro pins s σ H xs us Q I r h
 obtain⟨p,bs,rfl,hq,q⟩:=h
 obtain⟨u,rfl,ru⟩:=r.one
 cases ru
 obtain⟨its,rv,pl,hz⟩:=I.list hq
 have hlen:=rv.length
 rw [ae] at hlen
 obtain⟨o,n,e,c,hd,ds⟩:=id pl
 have plt:=aC e
 refine bu (aj _) (call_all_walk (iP pl.isList ?_))
 refine⟨s.heap.objs.size,_,_,_,_,_,(fun i=>bs.getD i true),rfl,Walks.list (A:=X.A.in1) (show X.A.in1.handled=none from I.ok.hd hc) s.heap.objs.size p (aN plt) its.toArray,⟨⟨_,az _ rfl,rfl,rfl⟩,pl.isList.push _⟩,?_,fun h' tk kk htk=>?_⟩
 ·intro i v s' Q' E' hv hq'
  have hv:its[i]? = some v:=by simpa using hv
  have hi:i<bs.length:=by rw [hlen];exact (List.getElem?_eq_some_iff.mp hv).1
  have e1:(bs.map V.bl)[i]? = some (.bl bs[i]):=by simp [hi]
  obtain⟨u',hu',ru'⟩:=rv.get e1
  rw [hv] at hu'
  cases hu'
  cases ru'
  have e2:bs.getD i true=bs[i]:=by simp [ao,hi]
  have hq':Q' (bs.getD i true) s':=hq'
  rw [e2] at hq'
  exact cR hq'
 ·have e3:(aw its.toArray.size).all (fun i=>bs.getD i true)=bs.all fun b=>b:=by
   rw [aq,<- hlen]
   exact Vl
  rw [e3]
  refine⟨.bl _,H,I.kept (t':=tk) fun b o' eb=>kk b o' ?_ (ai _ eb),rfl,q⟩
  have hb:b≠s.heap.objs.size:=aN (aC eb)
  simpa using hb
theorem Xb:B0 X (.builtin "isinstance") (fun xs H Q=>∃ x T t b,xs=[x,.ty T]/\TyOf X.K H x t/\fg X.K t (.type T)=some b/\Q (.bl b) H):=by
 intro pins s σ H xs us Q I r h
 obtain⟨x,T,t,b,rfl,ty,e,q⟩:=h
 obtain⟨u,v,rfl,ru,rv⟩:=r.two
 cases rv
 exact bu (aj _) (K6 I ru ty e fun tk htk=>⟨.bl b,H,I.tok tk htk,rfl,q⟩)
theorem U9:OpR X (b5 .LtE) (fun x y H Q=>∃ i j,x=.str i/\y=.str j/\Q (.bl (!decide (j.cps.toList<i.cps.toList))) H):=by
 intro pins s σ H x y v u Q I rx ry h
 obtain⟨i,j,rfl,rfl,q⟩:=h
 obtain⟨t,rfl⟩:=rx
 obtain⟨t',rfl⟩:=ry
 exact PySem.P.le_str ⟨.bl _,H,I,rfl,q⟩
theorem ad9:MtR X "int.bit_length" (fun x xs H Q=>∃ i,x=.int i/\xs=[]/\Q (.int (gQ i:Nat)) H):=by
 intro pins s σ H x xs v us Q I rx rs h
 obtain⟨i,rfl,rfl,q⟩:=h
 obtain⟨t,rfl⟩:=rx
 cases rs
 exact call_gives F.slot_int_bit_length (typeIs_int s i t) F.entry_int_bit_length (F.args_int_bit_length_1 _) (AutoIntG2.int_bit_length_int_0 i t) ⟨.int _,H,I.tok _,⟨_,rfl⟩,q⟩
end
noncomputable def Ki (xs ys:List V):Bool:=decide (xs.length=ys.length)&&(aw xs.length).all fun j=>eqV (xs.getD j .non) (ys.getD j .non)
theorem Er {xs ys:List V} (h:xs.length≠ys.length):Ki xs ys=false:=by
 unfold Ki
 rw [decide_eq_false h]
 rfl
noncomputable def a21 (K:ac) (neg:Bool):R2:=fun x y H Q=>∃ a b xs ys,x=.ref a/\y=.ref b/\SqL K H a xs/\SqL K H b ys/\xs.all Bu=true/\ys.all Bu=true/\Q (.bl (if neg then !Ki xs ys else Ki xs ys)) H
section
variable {X:Cx}
theorem Jj {A:a_} {s:al} {xs ys:List V} {us ws:List ah} (rx:Vals xs us) (ry:Vals ys ws) (fx:xs.all Bu=true) (fy:ys.all Bu=true) (j:Nat) (h1:j<us.toArray.size) (h2:j<ws.toArray.size) :
  bq A s us.toArray[j] ws.toArray[j] (eqV (xs.getD j .non) (ys.getD j .non)):=by
 have e1:=rx.length
 have e2:=ry.length
 have h1':j<us.length:=by simpa using h1
 have h2':j<ws.length:=by simpa using h2
 have a1:xs[j]? = some (xs[j]'(by omega)):=by simp
 have a2:ys[j]? = some (ys[j]'(by omega)):=by simp
 obtain⟨u,hu,ru⟩:=rx.get a1
 obtain⟨v,hv,rv⟩:=ry.get a2
 have b1:us.toArray[j]=u:=by
  have:us[j]? = some us[j]:=by simp
  rw [this] at hu
  simpa using av hu
 have b2:ws.toArray[j]=v:=by
  have:ws[j]? = some ws[j]:=by simp
  rw [this] at hv
  simpa using av hv
 have c1:xs.getD j .non=xs[j]'(by omega):=by rw [ao,a1];rfl
 have c2:ys.getD j .non=ys[j]'(by omega):=by rw [ao,a2];rfl
 rw [b1,b2,c1,c2]
 exact Me ru rv (List.all_eq_true.mp fx _ (cK _)) (List.all_eq_true.mp fy _ (cK _))
theorem aw5 (hu:X.A.units<cLine):OpR X (b5 .Eq) (a21 X.K false):=by
 intro pins s σ H x y v u Q I rx ry h
 obtain⟨a,b,xs,ys,rfl,rfl,qa,qb,fx,fy,q⟩:=h
 cases rx
 cases ry
 obtain⟨its,r,pl,hz⟩:=I.list qa
 obtain⟨its2,r2,pl2,hz2⟩:=I.list qb
 have e1:=r.length
 have e2:=r2.length
 by_cases hl:xs.length=ys.length
 ·refine SeqAt.eq_listAt (e:=fun j=>eqV (xs.getD j .non) (ys.getD j .non)) pl.isList pl2.isList (by simp;omega) hu (fun j h1 h2=>Jj r r2 fx fy j h1 h2) ⟨.bl _,H,I,rfl,?_⟩
  have e:Ki xs ys=(aw its.toArray.size).all fun j=>eqV (xs.getD j .non) (ys.getD j .non):=by
   unfold Ki
   rw [decide_eq_true hl,aq,<- e1]
   rfl
  rw [<- e]
  exact q
 ·refine SeqAt.eq_list_lengthsAt pl.isList pl2.isList (by simp;omega) hu ⟨.bl _,H,I,rfl,?_⟩
  rw [Er hl] at q
  exact q
theorem ax1 (hu:X.A.units<cLine):OpR X (b5 .NotEq) (a21 X.K true):=by
 intro pins s σ H x y v u Q I rx ry h
 obtain⟨a,b,xs,ys,rfl,rfl,qa,qb,fx,fy,q⟩:=h
 cases rx
 cases ry
 obtain⟨its,r,pl,hz⟩:=I.list qa
 obtain⟨its2,r2,pl2,hz2⟩:=I.list qb
 have e1:=r.length
 have e2:=r2.length
 by_cases hl:xs.length=ys.length
 ·refine SeqAt.RcNeAt.lists (e:=fun j=>eqV (xs.getD j .non) (ys.getD j .non)) pl.isList pl2.isList (by simp;omega) hu (fun j h1 h2=>Jj r r2 fx fy j h1 h2) _ _ _ _ ⟨.bl _,H,I,rfl,?_⟩
  have e:Ki xs ys=(aw its.toArray.size).all fun j=>eqV (xs.getD j .non) (ys.getD j .non):=by
   unfold Ki
   rw [decide_eq_true hl,aq,<- e1]
   rfl
  rw [<- e]
  exact q
 ·refine hO pl.isList pl2.isList (by simp;omega) hu _ _ _ _ ⟨.bl _,H,I,rfl,?_⟩
  rw [Er hl] at q
  exact q
end
theorem X5 {cl:List (Str×Addr)} {x:Str} (h:x∈cl.map (·.1)):∃ c,cl.lookup x=some c:=by
 induction cl with
 | nil=>simp at h
 | cons p r ih=>
  obtain⟨n,a⟩:=p
  rw [gp]
  cases e:x==n with
  | true=>exact⟨a,rfl⟩
  | false=>
   refine ih ?_
   rcases List.mem_cons.mp h with q|q
   ·rw [show x=n from q] at e;simp at e
   ·exact q
section
variable {X:Cx} {e:Expr} {te:TE} {lo hi:Option Expr} {tl th:TO} {pos p2:Pos}
theorem J6 {ys:List Str}:∀ {us:List ah},Vals (ys.map V.str) us->StrsAre us ys:=by
 induction ys with
 | nil=>intro us r;rw [gg] at r;cases r;exact .nil
 | cons y ys ih=>
  intro us r
  rw [aY] at r
  cases r with
  | cons r1 r2=>
   obtain⟨t,e⟩:=r1
   subst e
   exact .cons y t (ih r2)
theorem ae1:MtR X "str.join" (fun x xs H Q=>∃ z p ys,x=.str z/\xs=[.ref p]/\SqL X.K H p (ys.map V.str)/\(ys.map (·.length)).sum+ys.length * z.length<=16777216/\Q (.str (Txt.join z ys)) H):=by
 intro pins s σ H x xs v us Q I rx rs h
 obtain⟨z,p,ys,rfl,rfl,hq,hz,q⟩:=h
 obtain⟨t,rfl⟩:=rx
 obtain⟨u,rfl,ru⟩:=rs.one
 cases ru
 obtain⟨its,rv,pl,_⟩:=I.list hq
 exact bu (aj _) (PyProof.Rows.join_list pl.isList (by simpa using J6 rv) hz fun t' k htk=>⟨.str _,H,I.tok k htk,⟨_,rfl⟩,q⟩)
end
end L2
set_option maxHeartbeats 4000000
namespace L2
open PySem PySem.Spec PyProof.Rows
section
variable {κ:Type} [DecidableEq κ]
noncomputable def Bs (kvs:List (κ×V)) (k:κ):Option V:=(kvs.find? fun kv=>decide (kv.1=k)).map (·.2)
noncomputable def Cq (kvs:List (κ×V)) (k:κ) (v:V):List (κ×V):=
 if (kvs.any fun kv=>decide (kv.1=k))=true then kvs.map (fun kv=>if kv.1=k then (kv.1,v) else kv) else kvs++[(k,v)]
theorem aa2 {k:κ}:Bs ([]:List (κ×V)) k=none:=rfl
theorem Dx {p:κ×V} {r:List (κ×V)} {k:κ} (e:p.1=k):Bs (p::r) k=some p.2:=by simp [Bs,ez,e]
theorem Cp {p:κ×V} {r:List (κ×V)} {k:κ} (e:¬ p.1=k):Bs (p::r) k=Bs r k:=by simp [Bs,ez,e]
theorem Ke (k:κ):∀ kvs:List (κ×V),(kvs.any fun kv=>decide (kv.1=k))=(Bs kvs k).isSome
 | []=>rfl
 | p::r=>by
  rw [fH]
  by_cases e:p.1=k
  ·simp only [Dx e,decide_eq_true e,Bool.true_or,Option.isSome_some]
  ·rw [Cp e,decide_eq_false e,iQ];exact Ke k r
theorem Hd (kvs:List (κ×V)) (k:κ) (v:V):(Cq kvs k v).length<=kvs.length+1:=by
 unfold Cq
 split
 ·rw [ae];omega
 ·rw [aZ,aK,List.length_nil];omega
theorem Ds {kvs:List (κ×V)} {k:κ} (v:V) (h:Bs kvs k=none):Cq kvs k v=kvs++[(k,v)]:=by
 unfold Cq
 rw [Ke,h]
 exact if_neg (by decide)
theorem RelO.isSome_eq {o:Option V} {u:Option ah} (r:RelO o u):o.isSome=u.isSome:=by
 cases o with
 | none=>cases u with
  | none=>rfl
  | some _=>exact (show False from r).elim
 | some _=>cases u with
  | none=>exact (show False from r).elim
  | some _=>rfl
theorem RelO.getD {o:Option V} {u:Option ah} {d:V} {d':ah} (r:RelO o u) (rd:RelV d d'):RelV (o.getD d) (u.getD d'):=by
 cases o with
 | none=>cases u with
  | none=>exact rd
  | some _=>exact (show False from r).elim
 | some _=>cases u with
  | none=>exact (show False from r).elim
  | some _=>exact r
theorem KV.val {kvs:List (κ×V)} {vs:List (κ×ah)} (r:KV kvs vs) (k:κ):RelO (Bs kvs k) (g6 vs k):=by
 unfold KV at r
 induction r with
 | nil=>exact aX
 | @cons p q ps qs h t ih=>
  obtain⟨h1,h2⟩:=h
  by_cases e:p.1=k
  ·have e':q.1=k:=h1.symm.trans e
   have b:g6 (q::qs) k=some q.2:=by simp [g6,ez,e']
   rw [Dx e,b];exact h2
  ·have e':¬ q.1=k:=fun z=>e (h1.trans z)
   have b:g6 (q::qs) k=g6 qs k:=by simp [g6,ez,e']
   rw [Cp e,b];exact ih
theorem KV.any {kvs:List (κ×V)} {vs:List (κ×ah)} (r:KV kvs vs) (k:κ):(kvs.any fun kv=>decide (kv.1=k))=vs.any fun kv=>decide (kv.1=k):=by
 unfold KV at r
 induction r with
 | nil=>rfl
 | cons h t ih=>rw [fH,fH,ih,h.1]
theorem KV.repl {kvs:List (κ×V)} {vs:List (κ×ah)} (r:KV kvs vs) (k:κ) {y:V} {u:ah} (ry:RelV y u) :
  KV (kvs.map fun kv=>if kv.1=k then (kv.1,y) else kv) (vs.map fun kv=>if kv.1=k then (kv.1,u) else kv):=by
 unfold KV at r ⊢
 induction r with
 | nil=>exact .nil
 | @cons p q ps qs h t ih=>
  rw [aY,aY]
  refine .cons ?_ ih
  obtain⟨h1,h2⟩:=h
  by_cases e:p.1=k
  ·rw [if_pos e,if_pos (h1.symm.trans e)];exact⟨h1,ry⟩
  ·rw [if_neg e,if_neg (fun z=>e (h1.trans z))];exact⟨h1,h2⟩
theorem KV.put {kvs:List (κ×V)} {vs:List (κ×ah)} (r:KV kvs vs) (k:κ) {y:V} {u:ah} (ry:RelV y u):KV (Cq kvs k y) (stored vs k u):=by
 unfold Cq stored
 rw [r.any k]
 by_cases e:(vs.any fun kv=>decide (kv.1=k))=true
 ·rw [if_pos e,if_pos e];exact r.repl k ry
 ·rw [if_neg e,if_neg e];exact Paired.snoc r ⟨rfl,ry⟩
theorem KV.keys {kvs:List (κ×V)} {vs:List (κ×ah)} (r:KV kvs vs):kvs.map (·.1)=vs.map (·.1):=by
 unfold KV at r
 induction r with
 | nil=>rfl
 | cons h t ih=>rw [aY,aY,ih,h.1]
theorem KV.length {kvs:List (κ×V)} {vs:List (κ×ah)} (r:KV kvs vs):kvs.length=vs.length:=iW r
end
theorem Jk {P:aS} {w:bB} {k:Key} {u:ah} (r:RelV (kV k) u):(A0 P w).is k u=true:=by
 cases k with
 | inl i=>obtain⟨t,e⟩:=(show ∃ t,u=k0 i t from r);subst e;exact N9 P w i t
 | inr x=>obtain⟨t,e⟩:=(show ∃ t,u=gX x t from r);subst e;exact Oa P w x t
noncomputable abbrev KT (H:Hp):List (TK×V)->List (TK×Addr×ah)->Prop:=gC fun p q=>p.1=q.1/\(Ap p.1<=8/\TkAt H p.1 (.ref q.2.1))/\RelV p.2 q.2.2
theorem KT.val {H:Hp} {kvs:List (TK×V)} {xs:List (TK×Addr×ah)} (r:KT H kvs xs) (k:TK):RelO (Bs kvs k) ((mG xs k).map (·.2)):=by
 induction r with
 | nil=>exact aX
 | @cons p q ps qs h t ih=>
  obtain⟨h1,_,h2⟩:=h
  by_cases e:p.1=k
  ·have e':q.1=k:=h1.symm.trans e
   have b:mG (q::qs) k=some q.2:=by simp [mG,ez,e']
   rw [Dx e,b];exact h2
  ·have e':¬ q.1=k:=fun z=>e (h1.trans z)
   have b:mG (q::qs) k=mG qs k:=by simp [mG,ez,e']
   rw [Cp e,b];exact ih
theorem KT.repl {H:Hp} {kvs:List (TK×V)} {xs:List (TK×Addr×ah)} (r:KT H kvs xs) (k:TK) {y:V} {u:ah} (ry:RelV y u) :
  KT H (kvs.map fun kv=>if kv.1=k then (kv.1,y) else kv) (xs.map (putAt k u)):=by
 induction r with
 | nil=>exact .nil
 | @cons p q ps qs h t ih=>
  rw [aY,aY]
  refine .cons ?_ ih
  obtain⟨h1,h2,h3⟩:=h
  unfold putAt
  by_cases e:p.1=k
  ·rw [if_pos e,if_pos (h1.symm.trans e)];exact⟨h1,h2,ry⟩
  ·rw [if_neg e,if_neg (fun z=>e (h1.trans z))];exact⟨h1,h2,h3⟩
theorem KT.put {H:Hp} {kvs:List (TK×V)} {xs:List (TK×Addr×ah)} (r:KT H kvs xs) (k:TK) {b:Addr} {y:V} {u:ah} (hb:(Ap k<=8/\TkAt H k (.ref b))) (ry:RelV y u) :
  KT H (Cq kvs k y) (storedH xs k b u):=by
 have e:(kvs.any fun kv=>decide (kv.1=k))=(mG xs k).isSome:=by
  rw [Ke,(r.val k).isSome_eq,iG]
 unfold Cq storedH
 rw [e]
 by_cases q:(mG xs k).isSome=true
 ·rw [if_pos q,if_pos q];exact r.repl k ry
 ·rw [if_neg q,if_neg q];exact Paired.snoc r ⟨rfl,hb,ry⟩
theorem KT.keeps {H H':Hp} {kvs:List (TK×V)} {xs:List (TK×Addr×ah)} (r:KT H kvs xs) (ht:∀ b ys,H b=some (.tup ys)->H' b=some (.tup ys)):KT H' kvs xs:=
 Paired.mapP r fun _ _ z=>⟨z.1,⟨z.2.1.1,z.2.1.2.up ht _⟩,z.2.2⟩
section
variable {P:aS} {w:bB} {H:Hp} {h:Heap} {a:Addr}
theorem al1 {u:HO} (ok:HOk P w H h) (e:Rd H a u):ObjOk P w H h a u:=e.ok ok
theorem B1 {kvs:List (Key×V)} (ok:HOk P w H h) (e:Rd H a (.dK kvs)):kvs.length<=sizeLine/\(a==cI)=false /\ ∃ vs,KV kvs vs/\h.DictOf (A0 P w) a vs:=
 show ObjOk P w H h a (.dK kvs) from al1 ok e
theorem ak1 {kvs:List (Key×V)} (ok:HOk P w H h) (e:H a=some (.dK kvs)):kvs.length<=sizeLine/\(a==cI)=false /\ ∃ vs,KV kvs vs/\h.DictOf (A0 P w) a vs:=B1 ok (.inl e)
theorem be6 (ok:HOk P w H h) (x:TK):∀ {v:V} {u:ah},TkAt H x v->RelV v u->TkIs P w h x u:=by
 refine TK.rec (motive_1:=fun x=>∀ {v:V} {u:ah},TkAt H x v->RelV v u->TkIs P w h x u) (motive_2:=fun l=>∀ {vs:List V} {us:List ah},As H l vs->Vals vs us->TksAre P w h l us) ?_ ?_ ?_ ?_ x
 ·intro k v u q r
  unfold TkAt at q
  unfold TkIs
  subst q
  exact Jk r
 ·intro l ih v u q r
  unfold TkAt at q
  unfold TkIs
  obtain⟨a,xs,rfl,e,i⟩:=q
  cases r
  obtain⟨_,its,r,t⟩:=(show ObjOk P w H h a (.tup xs) from ok a _ e)
  exact⟨a,its.toArray,rfl,t,by simpa using ih i r⟩
 ·intro vs us q r
  unfold As at q
  unfold TksAre
  subst q
  cases r
  rfl
 ·intro x l h1 h2 vs us q r
  unfold As at q
  unfold TksAre
  obtain⟨v,r',rfl,q1,q2⟩:=q
  cases r with
  | cons r1 r2=>exact⟨_,_,rfl,h1 q1 r1,h2 q2 r2⟩
theorem Fi {k:TK} (ok:HOk P w H h) (e:Ap k<=8/\TkAt H k (.ref a)):(Co P w).is h k a:=⟨e.1,be6 ok k e.2 rfl⟩
theorem Ix {kvs:List (TK×V)} (ok:HOk P w H h) (e:Rd H a (.dT kvs)):kvs.length<=sizeLine/\(a==cI)=false /\
  ∃ xs,KT H kvs xs/\h.DictOfH (Co P w) a xs:=by
 obtain⟨z,y,xs,r,o,es,ep,h1,h2,h3,h4,h5⟩:=(show ObjOk P w H h a (.dT kvs) from al1 ok e)
 refine⟨z,y,xs,r,o,es,ep,h1,h2,h3,h4,fun x hx=>?_,h5⟩
 have all:∀ {l:List (TK×V)} {m:List (TK×Addr×ah)},KT H l m -> ∀ x∈m,(Co P w).is h x.1 x.2.1:=by
  intro l m q
  induction q with
  | nil=>intro x hx;exact nomatch hx
  | @cons p q ps qs hq t ih=>
   intro x hx
   rcases List.mem_cons.mp hx with e|hx
   ·subst e
    exact Fi ok (by rw [<- hq.1];exact hq.2.1)
   ·exact ih x hx
 exact all r x hx
theorem a53 {kvs:List (TK×V)} (ok:HOk P w H h) (e:H a=some (.dT kvs)):kvs.length<=sizeLine/\(a==cI)=false /\
  ∃ xs,KT H kvs xs/\h.DictOfH (Co P w) a xs:=Ix ok (.inl e)
end
noncomputable def DGet (H:Hp) (a:Addr) (y:V) (r:Option V):Prop:=
 (∃ kvs k,Rd H a (.dK kvs)/\y=kV k/\r=Bs kvs k) \/ ∃ kvs k b,Rd H a (.dT kvs)/\y=.ref b/\(Ap k<=8/\TkAt H k (.ref b))/\r=Bs kvs k
noncomputable def DPut (H:Hp) (a:Addr) (y v:V) (H':Hp):Prop:=
 (∃ kvs k,H a=some (.dK kvs)/\y=kV k/\kvs.length<sizeLine/\H'=upd H a (.dK (Cq kvs k v))) \/
 ∃ kvs k b,H a=some (.dT kvs)/\y=.ref b/\(Ap k<=8/\TkAt H k (.ref b))/\kvs.length<sizeLine/\H'=upd H a (.dT (Cq kvs k v))
theorem DGet.k {H:Hp} {a:Addr} {kvs:List (Key×V)} {k:Key} (e:H a=some (.dK kvs)):DGet H a (kV k) (Bs kvs k):=.inl ⟨kvs,k,.inl e,rfl,rfl⟩
theorem DGet.t {H:Hp} {a b:Addr} {kvs:List (TK×V)} {k:TK} (e:H a=some (.dT kvs)) (eb:(Ap k<=8/\TkAt H k (.ref b))):DGet H a (.ref b) (Bs kvs k):=.inr ⟨kvs,k,b,.inl e,rfl,eb,rfl⟩
theorem DPut.k {H:Hp} {a:Addr} {kvs:List (Key×V)} {k:Key} {v:V} (e:H a=some (.dK kvs)) (hl:kvs.length<sizeLine):DPut H a (kV k) v (upd H a (.dK (Cq kvs k v))):=.inl ⟨kvs,k,e,rfl,hl,rfl⟩
theorem DPut.t {H:Hp} {a b:Addr} {kvs:List (TK×V)} {k:TK} {v:V} (e:H a=some (.dT kvs)) (eb:(Ap k<=8/\TkAt H k (.ref b))) (hl:kvs.length<sizeLine) :
  DPut H a (.ref b) v (upd H a (.dT (Cq kvs k v))):=.inr ⟨kvs,k,b,e,rfl,eb,hl,rfl⟩
section
variable {X:Cx} {pins:List (Addr×Obj)} {σ:St} {H:Hp} {s:al} {a:Addr} {y v:V} {u r:ah} {o:Option V} {A:a_} {E:ah->al->Prop}
theorem Inv.big (I:Inv X pins σ H s):cI<s.heap.objs.size:=by
 have h:mainGlobals<s.heap.objs.size:=(I.mod.glob.keeps I.bk).lt
 exact Nat.lt_trans (by decide) h
theorem Ue {Q:ah->al->Prop} (hu:A.units+9<cLine) (I:Inv X pins σ H s) (g:DGet H a y (some v)) (ry:RelV y u) (h:∀ w' s',Inv X pins σ H s'->RelV v w'->Q w' s') :
  aJ (model X.prog X.w) A (kH (.ref a) u) Q E s:=by
 rcases g with ⟨kvs,k,e,ey,l⟩|⟨kvs,k,b,e,ey,eb,l⟩
 ·subst ey
  obtain⟨z,hd,vs,rel,dd⟩:=B1 I.hok e
  obtain⟨w',hw,rw'⟩:=RelO.some_of (v:=v) (o:=g6 vs k) (by rw [l];exact rel.val k)
  exact wpAny_getItem_of (Jk ry) dd.mapOf hw (h w' _ (I.tok _) rw')
 ·subst ey
  cases (show u=bG b from ry)
  obtain⟨z,hd,xs,rel,dd⟩:=Ix I.hok e
  obtain⟨w',hw,rw'⟩:=RelO.some_of (v:=v) (o:=(mG xs k).map (·.2)) (by rw [l];exact rel.val k)
  obtain⟨p,hp,hp2⟩:=Option.map_eq_some_iff.mp hw
  refine wpAny_getItem_heap (show A.units+1+8<cLine by omega) (Fi I.hok eb) dd hp ?_
  rw [hp2]
  exact h w' _ (I.tok _) rw'
theorem bf6 {Q:ah->al->Prop} (hu:A.units+9<cLine) (I:Inv X pins σ H s) (g:DGet H a y o) (ry:RelV y u) (h:∀ s',Inv X pins σ H s'->Q (.bool o.isSome) s') :
  aJ (model X.prog X.w) A (b5 .In u (.ref a)) Q E s:=by
 rcases g with ⟨kvs,k,e,ey,l⟩|⟨kvs,k,b,e,ey,eb,l⟩
 ·subst ey
  obtain⟨z,hd,vs,rel,dd⟩:=B1 I.hok e
  refine wpAny_in_of (Jk ry) hd dd.mapOf ?_
  rw [<- (rel.val k).isSome_eq,<- l]
  exact h _ (I.tok _)
 ·subst ey
  cases (show u=bG b from ry)
  obtain⟨z,hd,xs,rel,dd⟩:=Ix I.hok e
  refine wpAny_in_heap (show A.units+1+8<cLine by omega) (Fi I.hok eb) hd dd ?_
  have q:=(rel.val k).isSome_eq
  rw [iG] at q
  rw [<- q,<- l]
  exact h _ (I.tok _)
theorem ac2 {Q:ah->al->Prop} (hu:A.units+9<cLine) (I:Inv X pins σ H s) (g:DGet H a y o) (ry:RelV y u) (h:∀ s',Inv X pins σ H s'->Q (.bool (!o.isSome)) s') :
  aJ (model X.prog X.w) A (b5 .NotIn u (.ref a)) Q E s:=by
 rcases g with ⟨kvs,k,e,ey,l⟩|⟨kvs,k,b,e,ey,eb,l⟩
 ·subst ey
  obtain⟨z,hd,vs,rel,dd⟩:=B1 I.hok e
  refine wpAny_notIn_of (Jk ry) hd dd.mapOf ?_
  rw [<- (rel.val k).isSome_eq,<- l]
  exact h _ (I.tok _)
 ·subst ey
  cases (show u=bG b from ry)
  obtain⟨z,hd,xs,rel,dd⟩:=Ix I.hok e
  refine wpAny_notIn_heap (show A.units+1+8<cLine by omega) (Fi I.hok eb) hd dd ?_
  have q:=(rel.val k).isSome_eq
  rw [iG] at q
  rw [<- q,<- l]
  exact h _ (I.tok _)
theorem L9 {h':Heap} {t':Nat} {ob:HO} (I:Inv X pins σ H s) (mu:Mut (H a)) (hs:bg a s.heap h') (he:∃ q,h'.get? a=some q) (new:ObjOk X.prog X.w (upd H a ob) h' a ob) (ht:s.toks<=t':=by first|exact aj _|exact be _ _|assumption|omega|(dsimp only;omega)) :
  Inv X pins σ (upd H a ob) { s with heap:=h',toks:=t' }:=
 I.write (x:=a) (e:=a) mu (.inl rfl) (fun b q hb z=>(hs.2 b hb).trans z) he new
theorem Py {P:aS} {w:bB} {H':Hp} {h':Heap} {kvs:List (Key×V)} {vs:List (Key×ah)} (z:kvs.length<=sizeLine) (hd:(a==cI)=false) (rel:KV kvs vs) (dd:h'.DictOf (A0 P w) a vs) :
  ObjOk P w H' h' a (.dK kvs):=⟨z,hd,vs,rel,dd⟩
theorem Uf {H':Hp} {Q:Unit->al->Prop} (hu:A.units+9<cLine) (I:Inv X pins σ H s) (g:DPut H a y v H') (ry:RelV y u) (rv:RelV v r) (h:∀ s',Inv X pins σ H' s'->Q () s') :
  aJ (model X.prog X.w) A (setItem (.ref a) u r) Q E s:=by
 rcases g with ⟨kvs,k,e,ey,l,eH⟩|⟨kvs,k,b,e,ey,eb,l,eH⟩
 ·subst ey eH
  obtain⟨z,hd,vs,rel,dd⟩:=ak1 I.hok e
  have hz:vs.length<=sizeLine:=by rw [<- rel.length];exact z
  have hl:(Cq kvs k v).length<=sizeLine:=by have:=Hd kvs k v;omega
  refine wpAny_setItem_pairs (hsz:=hz) (Jk ry) dd fun h' dd' hs=>h _ ?_
  have he:∃ q,h'.get? a=some q:=let ⟨q,_,_,hq,_⟩:=dd';⟨q,hq⟩
  exact L9 I (by rw [e];exact aX) hs he (Py hl hd (rel.put k rv) dd')
 ·subst ey eH
  cases (show u=bG b from ry)
  obtain⟨z,hd,xs,rel,dd⟩:=a53 I.hok e
  have hz:xs.length<=sizeLine:=by rw [<- iW rel];exact z
  have hl:(Cq kvs k v).length<=sizeLine:=by have:=Hd kvs k v;omega
  refine wpAny_setItem_heap (hsz:=hz) (show A.units+1+8<cLine by omega) (Fi I.hok eb) dd fun h' dd' hs=>h _ ?_
  obtain⟨q,es,ep,hq,h2,h3,h4,_,h5⟩:=dd'
  refine L9 I (by rw [e];exact aX) hs ⟨q,hq⟩ ⟨hl,hd,_,(rel.put k eb rv).keeps fun c ys ec=>?_,q,es,ep,hq,h2,h3,h4,h5⟩
  rw [Ad (a62 ec e (fun z=>nomatch z))]
  exact ec
end
section
variable {X:Cx} {pins:List (Addr×Obj)} {σ:St} {H:Hp} {s:al} {a:Addr} {kvs:List (Key×V)} {k:Key} {u:ah} {A:a_} {E:ah->al->Prop}
theorem ac1 {Q:ah->al->Prop} (I:Inv X pins σ H s) (e:H a=some (.dK kvs)) (h:∀ s',Inv X pins σ (upd H a (.dK [])) s'->Q .none s'):aJ (model X.prog X.w) A (call (.builtin "dict.clear") [.ref a]) Q E s:=by
 obtain⟨z,hd,vs,rel,dd⟩:=ak1 I.hok e
 refine eJ i3 dd.typeIs PySem.F.entry_dict_clear (PySem.F.args_dict_clear_1 _) (meets_dict_clear (A0 X.prog X.w) a) ⟨vs,dd,by rw [<- rel.length];exact z,fun h' dd' hs=>h _ ?_⟩
 have he:∃ q,h'.get? a=some q:=let ⟨q,_,_,hq,_⟩:=dd';⟨q,hq⟩
 exact L9 (t':=s.toks) I (by rw [e];exact aX) hs he (Py (bj _) hd .nil dd')
theorem a51 {Q:ah->al->Prop} (I:Inv X pins σ H s) (e:Rd H a (.dK kvs)) (h:∀ t s',Inv X pins σ H s'->Q (.int kvs.length t) s'):aJ (model X.prog X.w) A (call (.builtin "len") [.ref a]) Q E s:=by
 obtain⟨z,hd,vs,rel,dd⟩:=B1 I.hok e
 refine call_len_dict hd dd (by rw [<- rel.length];rw [bz] at z;omega) ?_
 rw [<- rel.length]
 exact h _ _ (I.tok _)
end
theorem Nw {X:Cx} {pins:List (Addr×Obj)} {σ:St} {H:Hp} {s:al} {a:Addr} {y:V} {o:Option V} (I:Inv X pins σ H s) (g:DGet H a y o):s.TypeIs (.ref a) "dict" := by
 rcases g with ⟨kvs,k,e,_,_⟩|⟨kvs,k,b,e,_,_,_⟩
 ·obtain⟨_,_,vs,_,dd⟩:=B1 I.hok e
  exact dd.typeIs
 ·obtain⟨_,_,xs,_,dd⟩:=Ix I.hok e
  exact dd.typeIs
section
variable {X:Cx} {o i e value:Expr} {pos pos' tpos:Pos} {td ty tv:TE}
end
theorem Xi {P:aS} {w:bB} {H:Hp} (h:Heap) (hb:cI<h.objs.size):ObjOk P w H (h.push { cls:=.type "dict", data:=.dict #[] }) h.objs.size (.dK []):=
 ⟨bj _,beq_eq_false_iff_ne.mpr (cB (aN hb)),[],.nil,Heap.DictOf.new h⟩
theorem Xj {P:aS} {w:bB} {H:Hp} (h:Heap) (hb:cI<h.objs.size):ObjOk P w H (h.push { cls:=.type "dict", data:=.dict #[] }) h.objs.size (.dT []):=
 ⟨bj _,beq_eq_false_iff_ne.mpr (cB (aN hb)),[],.nil,_,#[],0,az _ rfl,⟨rfl,rfl,rfl⟩,rfl,rfl,kg⟩
section
variable {X:Cx} {pos:Pos}
end
section
variable {X:Cx} {pins:List (Addr×Obj)} {σ:St} {H:Hp} {s:al} {a:Addr} {y d:V} {u r:ah} {o:Option V} {A:a_} {E:ah->al->Prop}
theorem aq8 {Q:ah->al->Prop} (hu:A.units+9<cLine) (I:Inv X pins σ H s) (g:DGet H a y o) (ry:RelV y u) (h:∀ w' s',Inv X pins σ H s'->RelV (o.getD .non) w'->Q w' s') :
  aJ (model X.prog X.w) A (call (.builtin "dict.get") [.ref a,u]) Q E s:=by
 rcases g with ⟨kvs,k,e,ey,l⟩|⟨kvs,k,b,e,ey,eb,l⟩
 ·subst ey
  obtain⟨z,hd,vs,rel,dd⟩:=B1 I.hok e
  refine eJ dz dd.typeIs dY (iY _ _) (meets_dict_get (A0 X.prog X.w) a (Jk ry) hd) ⟨_,dd.mapOf,h _ _ (I.tok _) ?_⟩
  rw [l]
  exact (rel.val k).getD rfl
 ·subst ey
  cases (show u=bG b from ry)
  obtain⟨z,hd,xs,rel,dd⟩:=Ix I.hok e
  refine eJ dz dd.typeIs dY (iY _ _) (meetsH_dict_get (Co X.prog X.w) a b hd) ⟨show A.units+1+8<cLine by omega,k,xs,Fi I.hok eb,dd,h _ _ (I.tok _) ?_⟩
  rw [l]
  exact (rel.val k).getD rfl
theorem aq9 {Q:ah->al->Prop} (hu:A.units+9<cLine) (I:Inv X pins σ H s) (g:DGet H a y o) (ry:RelV y u) (rd:RelV d r) (h:∀ w' s',Inv X pins σ H s'->RelV (o.getD d) w'->Q w' s') :
  aJ (model X.prog X.w) A (call (.builtin "dict.get") [.ref a,u,r]) Q E s:=by
 rcases g with ⟨kvs,k,e,ey,l⟩|⟨kvs,k,b,e,ey,eb,l⟩
 ·subst ey
  obtain⟨z,hd,vs,rel,dd⟩:=B1 I.hok e
  refine eJ dz dd.typeIs dY (iZ _ _ _) (meets_dict_get_default (A0 X.prog X.w) a (Jk ry) hd r) ⟨_,dd.mapOf,h _ _ (I.tok _) ?_⟩
  rw [l]
  exact (rel.val k).getD rd
 ·subst ey
  cases (show u=bG b from ry)
  obtain⟨z,hd,xs,rel,dd⟩:=Ix I.hok e
  refine eJ dz dd.typeIs dY (iZ _ _ _) (meetsH_dict_get_default (Co X.prog X.w) a b hd r) ⟨show A.units+1+8<cLine by omega,k,xs,Fi I.hok eb,dd,h _ _ (I.tok _) ?_⟩
  rw [l]
  exact (rel.val k).getD rd
end
section
variable {X:Cx} {o e f:Expr} {apos cpos:Pos} {td ty tx:TE}
end
section
variable {X:Cx} {pins:List (Addr×Obj)} {σ:St} {H:Hp} {s:al} {a:Addr} {kvs:List (Key×V)} {A:a_} {E:ah->al->Prop}
end
section
variable {X:Cx} {pins:List (Addr×Obj)} {σ:St} {H:Hp} {s:al} {a:Addr} {y:V} {u:ah} {A:a_} {E:ah->al->Prop}
end
noncomputable abbrev EK:=Addr->Hp->Prop
noncomputable abbrev DE:=St->Hp->VK->EK->Prop
noncomputable abbrev DT:=St->Hp->(Bool->Hp->Prop)->EK->Prop
noncomputable abbrev DA:=St->Hp->(List V->Hp->Prop)->EK->Prop
structure Wx where
 nx:St->Hp->Prop
 rt:VK
 bk:St->Hp->Prop
 ct:St->Hp->Prop
 ex:St->EK
noncomputable abbrev DS:=Wx->St->Hp->Prop
noncomputable def Meets (_:Cx) (Ex:St->EK):Prop:=∀ (σ:St) (a:Addr) (H:Hp),¬ Ex σ a H
noncomputable def QE (X:Cx) (e:Expr) (t:DE):Prop:=∀ Ex,Meets X Ex->PE X e (fun σ H Q=>t σ H Q (Ex σ))
noncomputable def QT (X:Cx) (e:Expr) (t:DT):Prop:=∀ Ex,Meets X Ex->PT X e (fun σ H Q=>t σ H Q (Ex σ))
noncomputable def QW (X:Cx) (e:Expr) (t:DT):Prop:=∀ Ex,Meets X Ex->PW X e (fun σ H Q=>t σ H Q (Ex σ))
noncomputable def QA (X:Cx) (es:List Expr) (t:DA):Prop:=∀ Ex,Meets X Ex->PA X es (fun σ H Q=>t σ H Q (Ex σ))
noncomputable def a96 (Ex:St->EK) (D:Nf):Wx:=⟨D.nx,D.rt,D.bk,D.ct,Ex⟩
noncomputable def QS (X:Cx) (st:Stmt) (t:DS):Prop:=∀ Ex,Meets X Ex->PS X st (fun D σ H=>t (a96 Ex D) σ H)
noncomputable def QSs (X:Cx) (st:List Stmt) (t:DS):Prop:=∀ Ex,Meets X Ex->PSs X st (fun D σ H=>t (a96 Ex D) σ H)
noncomputable def dNo:DE:=fun _ _ _ _=>False
noncomputable def Ab (i:Nat):DE:=fun σ H Q _=>match σ[i]? with
 | some (some v)=>Q v H
 | _=>False
noncomputable def dC (v:V):DE:=fun _ H Q _=>Q v H
noncomputable def Ah (r:R2) (a b:DE):DE:=fun σ H Q E=>a σ H (fun x H1=>b σ H1 (fun y H2=>r x y H2 Q) E) E
noncomputable def dUn (r:V->Hp->VK->Prop) (a:DE):DE:=fun σ H Q E=>a σ H (fun x H1=>r x H1 Q) E
noncomputable def Dz (r r':R2) (a b c:DE):DE:=fun σ H Q E=>a σ H (fun x H1=>b σ H1 (fun y H2=>r x y H2 fun z H3=>match z with
 | .bl k=>if k=true then c σ H3 (fun w H4=>r' y w H4 Q) E else Q (.bl false) H3
 | _=>False) E) E
noncomputable def Np (a b:DT):DT:=fun σ H Q E=>a σ H (fun k H1=>if k=true then b σ H1 Q E else Q false H1) E
noncomputable def dOr (a b:DT):DT:=fun σ H Q E=>a σ H (fun k H1=>if k=true then Q true H1 else b σ H1 Q E) E
noncomputable def Dj (a:DT):DT:=fun σ H Q E=>a σ H (fun k H1=>Q (!k) H1) E
noncomputable def a49 (t:DT) (a b:DE):DE:=fun σ H Q E=>t σ H (fun k H1=>if k=true then a σ H1 Q E else b σ H1 Q E) E
noncomputable def Z7 (K:ac) (x:V) (H:Hp) (Q:Bool->Hp->Prop):Prop:=match x with
 | .bl k=>Q k H
 | .non=>Q false H
 | .int i=>Q (i != 0) H
 | .str y=>y.length<=sizeLine/\Q ((y.length:Int) != 0) H
 | .ref p=>∃ k,a46 K (.ref p) H k/\Q k H
 | _=>False
noncomputable def Nq (K:ac) (a b:DE):DE:=fun σ H Q E=>a σ H (fun x H1=>Z7 K x H1 fun k H2=>if k=true then b σ H2 Q E else Q x H2) E
noncomputable def a50 (K:ac) (a b:DE):DE:=fun σ H Q E=>a σ H (fun x H1=>Z7 K x H1 fun k H2=>if k=true then Q x H2 else b σ H2 Q E) E
noncomputable def aj8 (K:ac) (a:DE):DE:=fun σ H Q E=>a σ H (fun x H1=>Z7 K x H1 fun k H2=>Q (.bl (!k)) H2) E
noncomputable def Da (K:ac) (a:DE):DT:=fun σ H Q E=>a σ H (fun x H1=>Z7 K x H1 Q) E
noncomputable def Bp (a:DE):DT:=fun σ H Q E=>a σ H (fun x H1=>match x with
 | .bl k=>Q k H1
 | _=>False) E
noncomputable def Af:DA:=fun _ H Q _=>Q [] H
noncomputable def Ac (a:DE) (r:DA):DA:=fun σ H Q E=>a σ H (fun x H1=>r σ H1 (fun xs H2=>Q (x::xs) H2) E) E
noncomputable def Fg (t:DA):DE:=fun σ H Q E=>t σ H (fun xs H1=>xs.length<=sizeLine /\ ∀ p,H1 p=none->Q (.ref p) (upd H1 p (.tup xs))) E
noncomputable def B9 (t:DA):DE:=fun σ H Q E=>t σ H (fun xs H1=>xs.length<=sizeLine /\ ∀ p,H1 p=none->Q (.ref p) (upd H1 p (.lst xs))) E
noncomputable def dFn (r:List V->Hp->VK->EK->Prop) (t:DA):DE:=fun σ H Q E=>t σ H (fun vs H1=>r vs H1 Q E) E
noncomputable def dMt (r:V->Hp->(Hp->(List V->Hp->Prop)->Prop)->VK->Prop) (o:DE) (t:DA):DE:=fun σ H Q E=>o σ H (fun x H1=>r x H1 (fun H2 R=>t σ H2 R E) Q) E
noncomputable def Ag:DS:=fun D σ H=>D.nx σ H
noncomputable def Bd:DS:=fun _ _ _=>False
noncomputable def Ae (t u:DS):DS:=fun D σ H=>t { D with nx:=u D } σ H
noncomputable def Aw (e:DE):DS:=fun D σ H=>e σ H D.rt (D.ex σ)
noncomputable def aj9:DS:=fun D _ H=>D.rt .non H
noncomputable def Dc (e:DE):DS:=fun D σ H=>e σ H (fun _ H1=>D.nx σ H1) (D.ex σ)
noncomputable def dIf (c:DT) (t u:DS):DS:=fun D σ H=>c σ H (fun b H1=>if b=true then t D σ H1 else u D σ H1) (D.ex σ)
noncomputable def a47:DS:=fun D σ H=>D.bk σ H
noncomputable def a48:DS:=fun D σ H=>D.ct σ H
noncomputable def Ao (i:Nat) (e:DE):DS:=fun D σ H=>e σ H (fun v H1=>D.nx (σ.set i (some v)) H1) (D.ex σ)
noncomputable abbrev DG:=TG
noncomputable def Ej (e:DE) (g:DG):DS:=fun D σ H=>e σ H (fun v H1=>g v σ H1 D.nx) (D.ex σ)
noncomputable abbrev DI:=St->Hp->(It->Hp->Prop)->EK->Prop
noncomputable def Gg (J:It) (g:DG) (tb:DS) (D:Wx) (σ:St) (H:Hp):Prop:=∃ W:Nat->Nat->St->Hp->Prop,(∃ m,W 0 m σ H) /\ ∀ i m σ H,W i m σ H ->
 (J.stop i H/\D.nx σ H)\/(J.go i H /\ ∃ N:St->Hp->Prop,(∀ σ' H',N σ' H' -> ∃ m',m'<m/\W (i+1) m' σ' H') /\ ∀ x H',J.yld i H x H'->g x σ H' (fun σ2 H2=>tb { D with nx:=N,ct:=N,bk:=D.nx } σ2 H2))
noncomputable def Thaw (H0 H:Hp) (P:Hp->Prop):Prop:=P H \/ ∃ p o kvs,H0 p=some (.dK kvs)/\H p=some (.frz o (.dK kvs))/\P (upd H p (.dK kvs))
noncomputable def Ce (wi:DI) (g:DG) (tb:DS):DS:=fun D σ H=>wi σ H (fun J H1=>Gg J g tb { D with nx:=fun σ' H'=>Thaw H H' (D.nx σ') } σ H1) (D.ex σ)
noncomputable def El (J:It) (g:DG) (tc:DT) (te:DE) (D:Addr) (R:Hp->Prop) (σ:St) (H:Hp) (E:EK):Prop:=
 ∃ W:Nat->Nat->St->Hp->Prop,(∃ m,W 0 m σ H) /\ ∀ i m σ' H',W i m σ' H' ->
  (J.stop i H'/\R H')\/(J.go i H' /\ ∃ N:St->Hp->Prop,(∀ σ2 H2,N σ2 H2 -> ∃ m',m'<m/\W (i+1) m' σ2 H2) /\ ∀ x H2,J.yld i H' x H2->g x σ' H2 (fun σ3 H3=>tc σ3 H3 (fun b H4=>if b=true then
    te σ3 H4 (fun v H5=>∃ ys,H5 D=some (.lst ys)/\ys.length<sizeLine/\N σ3 (upd H5 D (.lst (ys++[v])))) E
   else N σ3 H4) E))
noncomputable def Bc (srcs:List (Option Nat)) (wi:DI) (g:DG) (tc:DT) (te:DE):DE:=fun σ H Q E=>wi σ H (fun J H1=>∀ D,H1 D=none->El J g tc te D (fun H'=>Q (.ref D) H') (Pu srcs σ) (upd H1 D (.lst [])) E) E
noncomputable def B3:DT:=fun _ H Q _=>Q true H
noncomputable def gdN (i:Nat):DG:=fun v σ H Q=>Q (σ.set i (some v)) H
end L2
namespace L2
open PySem PySem.Spec PySem.W PyProof.Rows
section
variable {prog:aS} {w:bB} {A:a_} {E:ah->al->Prop} {s:al} {K:ac} {x C:Addr} {ox:Obj} {od:Option Obj} {name:Str}
end
inductive TyX (K:ac) (H:Hp) (x:V) (t:ah):Prop where
 | of (h:TyOf K H x t)
 | sqT {a:Addr} {xs:List V} (ex:x=.ref a) (e:SqT K H a xs) (et:t=.type "tuple")
 | sqL {a:Addr} {xs:List V} (ex:x=.ref a) (e:SqL K H a xs) (et:t=.type "list")
section
variable {X:Cx} {pins:List (Addr×Obj)} {σ:St} {H:Hp} {s:al} {A:a_} {E:ah->al->Prop} {a C:Addr} {fs:List (Str×V)}
theorem Jh {Q:ah->al->Prop} {c:ah} {b:Bool} {x:V} {u t:ah} (I:Inv X pins σ H s) (rx:RelV x u) (ty:TyX X.K H x t) (e:fg X.K t c=some b) (h:∀ tk,Q (.bool b) { s with toks:=tk }) :
  aJ (model X.prog X.w) A (call (.builtin "isinstance") [u,c]) Q E s:=by
 cases ty with
 | of ty=>exact K6 I rx ty e h
 | @sqT a xs ex q et=>
  subst ex et
  cases (show u=bG a from rx)
  obtain⟨_,_,⟨o,h1,h2,_⟩,_⟩:=I.tuple q
  exact b_ kX I.kIn ⟨o,h1,h2⟩ e (fun z=>nomatch z) h
 | @sqL a xs ex q et=>
  subst ex et
  cases (show u=bG a from rx)
  obtain⟨_,_,⟨o,_,h1,h2,_⟩,_⟩:=I.list q
  exact b_ iI I.kIn ⟨o,h1,h2⟩ e (fun z=>nomatch z) h
variable {CX:CXT} {k:Nat} {f:Addr} {fd:bo} {ps:List Str} {sp:Sp} {dvs:List V} {ds us:List ah} {vs:List V} {Q:VK}
end
end L2
namespace L2
open PySem PySem.Spec PyProof.Rows
noncomputable def Ite (K:ac) (l:Addr):It:=
  ⟨fun i H=>∃ xs x,SqL K H l xs/\xs[i]? = some x,
   fun i H v H'=>∃ T x,H T=none/\v=.ref T/\(∀ xs,SqL K H l xs->xs[i]? = some x)/\H'=upd H T (.tup [.int i,x]),
   fun i H=>∃ xs,SqL K H l xs/\xs.length<=i⟩
theorem Vz {P:aS} {w:bB} {K:ac} {elts:List Expr} {kt:Nat} {pt:Pos} {e it l:Addr} (ne:e≠it) :
  Im P w K (.Tuple elts kt pt) (Ite K l) [e,it] e (fun i h=>(∃ old,jE h e it (i:Int) old)/\h.IsListIter it l i) where
 mem:=by simp
 obj:=fun i h st b hb=>by
  obtain⟨⟨old,he⟩,⟨o1,e1,c1,d1⟩⟩:=st
  have hb:b=e\/b=it:=by simpa using hb
  rcases hb with rfl|rfl
  ·exact⟨_,he,fun v q=>nomatch q⟩
  ·exact⟨o1,e1,fun v q=>by rw [d1] at q;cases q⟩
 keep:=fun i h h' st k=>by
  obtain⟨⟨old,he⟩,h1⟩:=st
  exact⟨⟨old,k e (by simp) _ he⟩,h1.at fun o q=>k it (by simp) o q⟩
 item:=by
  intro X hP hw hK hc i pins s σ H E I hf st hg
  subst hP hw hK
  obtain⟨xs,x,q1,hx⟩:=hg
  obtain⟨its1,r1,p1,z1⟩:=I.list q1
  obtain⟨u,hu,ru⟩:=r1.get hx
  obtain⟨⟨old,he⟩,h1⟩:=st
  refine wpAny_pyNext_enum_item he h1 p1.isList (x:=u) (by simpa using hu) ne fun h' a1 a2 a3 a4 hk=>?_
  refine⟨_,rfl,hU a1 fun h'' hz' hs'=>?_⟩
  have hT:=I.hok.fresh (aj s.heap.objs.size)
  have up':∀ b o,b∉[e,it]->s.heap.get? b=some o->h''.get? b=some o:=fun b o hb q=>by
   have b1:b≠e:=by rintro rfl;exact hb (by simp)
   have b2:b≠it:=by rintro rfl;exact hb (by simp)
   exact hs'.extBut b o b1 (hk b o b1 b2 q)
  have nT:∀ {b o},s.heap.get? b=some o->b≠s.heap.objs.size:=fun q=>aN (aC q)
  have Tnew:h''.get? s.heap.objs.size=some { cls:=.type "tuple", data:=.seq #[.int i s.toks,u] }:=hs'.extBut _ _ (cB (nT he)) a3
  have I1:Inv X pins σ (upd H s.heap.objs.size (.tup [.int i,x])) { s with heap:=h'',toks:=s.toks+1 }:=
   I.turnedN (t':=s.toks+1) (ch:=[e,it]) (fun b hb=>hf b hb) up' (aj _) ⟨by show 2<=sizeLine;decide,[.int i s.toks,u],.cons ⟨_,rfl⟩ (.cons ru .nil),⟨_,Tnew,rfl,_,rfl⟩⟩
  refine⟨.ref s.heap.objs.size,_,I1,rfl,⟨s.heap.objs.size,x,hT,rfl,fun xs' h'=>by rw [I.list_inj h' q1];exact hx,rfl⟩,⟨⟨_,hz'⟩,a2.at fun o q=>hs'.extBut _ o (cB ne) q⟩,fun b hb=>?_⟩
  have q:=(hf b hb).1
  rw [Ad ?_]
  ·exact q
  ·have hb:b=e\/b=it:=by simpa using hb
   rcases hb with rfl|rfl
   ·exact nT he
   ·obtain⟨_,q,_⟩:=h1;exact nT q
 done:=by
  intro X hP hw hK hc i pins s σ H E I hf st hg
  subst hP hw hK
  obtain⟨xs,q1,hx⟩:=hg
  obtain⟨its1,r1,p1,z1⟩:=I.list q1
  have e1:=r1.length
  obtain⟨⟨old,he⟩,h1⟩:=st
  refine wpAny_pyNext_enum_end (I.ok.hd hc) he h1 p1.isList (by simp;omega) fun h' hk=>⟨rfl,?_⟩
  refine I.turnedL (t':=s.toks) (ch:=[e,it]) (fun b hb=>hf b hb) fun b o hb q=>?_
  have b2:b≠it:=by rintro rfl;exact hb (by simp)
  exact hk b o b2 q
 self:=fun A i s Q E st h=>let ⟨_,he⟩:=st.1;f8 he h
section
variable {X:Cx} {pins:List (Addr×Obj)} {σ σ0:St} {H H0:Hp} {s s0:al} {p:Addr} {kvs:List (Key×V)} {o:Obj}
noncomputable def Ty (o:Obj) (ep:Nat):Prop:=∃ es,o.data=.dict es ep
theorem Inv.froze (I:Inv X pins σ H s) (h:H p=some (.dK kvs)):∃ ob ep,s.heap.get? p=some ob/\Ty ob ep/\Inv X pins σ (upd H p (.frz ob (.dK kvs))) s:=by
 have K:=I.hok p _ h
 obtain⟨z,y,vs,r,ob,es,ep,e,c,d,q⟩:=id K
 refine⟨ob,ep,e,⟨es,d⟩,?_⟩
 exact I.write (x:=p) (e:=p) (t':=s.toks) (h':=s.heap) (by rw [h];trivial) (.inl rfl) (fun b u _ q=>q) ⟨ob,e⟩ ⟨e,K⟩
theorem Inv.thaw (I0:Inv X pins σ0 H0 s0) (h0:H0 p=some (.dK kvs)) (I:Inv X pins σ H s) (h:H p=some (.frz o (.dK kvs))):Inv X pins σ (upd H p (.dK kvs)) s:=by
 have ne:∀ b,H b=none->b≠p:=fun b e z=>by rw [z,h] at e;cases e
 have ntup:∀ b xs,H b=some (.tup xs)->b≠p:=fun b xs e z=>by rw [z,h] at e;cases e
 have nown:∀ b c,H b=some (.own c)->b≠p:=fun b c e z=>by rw [z,h] at e;cases e
 refine⟨I.ok,I.os,I.bare,⟨I.base.keep,I.base.slot,fun b ob e n hx=>?_,I.base.there,fun b xs e=>?_,fun b ob u e=>?_,fun b ps e=>?_⟩,I.loc,I.cell,?_,fun x c e=>?_,fun q hq=>?_,fun b u e=>?_,I.len⟩
 ·have q:=I.base.free b ob e n hx
  rw [Ad (ne b q)];exact q
 ·have q:=I.base.tups b xs e
  rw [Ad (ntup b xs q)];exact q
 ·have q:=I.base.frzs b ob u e
  have n:b≠p:=fun z=>by
   have q0:=I0.base.frzs b ob u e
   rw [z,h0] at q0;cases q0
  rw [Ad n];exact q
 ·obtain⟨more,q⟩:=I.base.tbls b ps e
  have n:b≠p:=fun z=>by rw [z,h] at q;cases q
  exact⟨more,by rw [Ad n];exact q⟩
 ·rw [Ad (ne _ I.free)];exact I.free
 ·have q:=I.freeC x c e
  rw [Ad (ne _ q)];exact q
 ·obtain⟨a,b,c⟩:=I.pin q hq
  exact⟨a,by rw [Ad (ne _ b)];exact b,c⟩
 ·by_cases z:b=p
  ·subst z
   rw [Aa] at e
   cases e
   exact (I.hok b _ h).2
  ·rw [Ad z] at e
   exact (I.hok b u e).stay (fun _ _ _ q=>q) (fun c q=>by rw [Ad (nown c b q)];exact q) fun c xs q=>by rw [Ad (ntup c xs q)];exact q
theorem Thaw.inv {P:Hp->Prop} (I0:Inv X pins σ0 H0 s0) (I:Inv X pins σ H s) (t:Thaw H0 H P):∃ H',Inv X pins σ H' s/\P H':=by
 rcases t with t|⟨p,o,kvs,h0,h,t⟩
 ·exact⟨H,I,t⟩
 ·exact⟨_,I0.thaw h0 I h,t⟩
theorem Inv.kdict (I:Inv X pins σ H s) (h:H p=some (.frz o (.dK kvs))) {ep:Nat} (he:Ty o ep):∃ vs,KV kvs vs/\s.heap.DictAt (A0 X.prog X.w) p vs ep/\(p==cI)=false:=by
 obtain⟨e1,z,y,vs,r,ob,es,ep',e,c,d,q⟩:=I.hok p _ h
 obtain⟨es',d'⟩:=he
 rw [e1] at e
 cases e
 have d2:=d
 rw [d'] at d2
 cases d2
 exact⟨vs,r,⟨o,_,e1,c,d,q⟩,y⟩
end
noncomputable def Itd (p:Addr) (o:Obj) (kvs:List (Key×V)):It:=
 ⟨fun i H=>H p=some (.frz o (.dK kvs))/\i<kvs.length,fun i H x H'=>H'=H /\ ∃ k v,kvs[i]? = some (k,v)/\x=kV k,fun i H=>H p=some (.frz o (.dK kvs))/\kvs.length<=i⟩
theorem Xz:∀ {kvs:List (Key×V)} {vs:List (Key×ah)} {i:Nat} {k:Key} {v:V},KV kvs vs->kvs[i]? = some (k,v) -> ∃ u,vs[i]? = some (k,u)/\RelV v u
 | _,_,0,k,v,.cons (b:=q) r _,e=>by
  simp only [c9,eW] at e
  subst e
  exact⟨q.2,congrArg some (Prod.ext r.1.symm rfl),r.2⟩
 | _,_,i+1,k,v,.cons r t,e=>by
  simp only [bA] at e ⊢
  exact Xz t e
theorem ak3 {P:aS} {w:bB} {k:Key} {u:ah} (h:(A0 P w).is k u=true):RelV (kV k) u:=by
 cases k with
 | inl i=>obtain⟨t,rfl⟩:=Value.isInt_shape (show ma i u=true from h);exact⟨t,rfl⟩
 | inr z=>obtain⟨t,rfl⟩:=kG (show gJ z u=true from h);exact⟨t,rfl⟩
theorem Vy {P:aS} {w:bB} {K:ac} {tg:Expr} (p it:Addr) (o:Obj) (kvs:List (Key×V)) {ep:Nat} (he:Ty o ep):Im P w K tg (Itd p o kvs) [it] it (fun i h=>h.IsKeyIter it p i kvs.length ep) where
 mem:=by simp
 obj:=fun i h st b hb=>by
  have e:b=it:=by simpa using hb
  subst e
  obtain⟨o,e,c,d⟩:=st
  exact⟨o,e,fun v z=>by rw [d] at z;cases z⟩
 keep:=fun i h h' st k=>st.at fun o e=>k it (by simp) o e
 item:=by
  intro X hP hw hK hc i pins s σ H E I hf st hg
  subst hP hw hK
  obtain⟨hH,hi⟩:=hg
  obtain⟨vs,rel,hd,hm⟩:=I.kdict hH he
  obtain⟨f0,f1,f2,f3,f4,f5⟩:=hf it (by simp)
  obtain⟨⟨k,v⟩,hx⟩:∃ q,kvs[i]? = some q:=⟨kvs[i],by simp [hi]⟩
  obtain⟨u,hu,_⟩:=Xz rel hx
  have hl:kvs.length=vs.length:=rel.length
  rw [hl] at st
  refine jw st hd hu fun key h' hk st' sb=>?_
  have I1:Inv X pins σ H { s with heap:=h' }:=I.turned (t':=s.toks) (fun b o hb e=>sb.extBut b o hb e) f0 f1 f3 f4 f5
  obtain⟨o1,e,c,d⟩:=id st'
  exact⟨key,rfl,Ha (s:={ s with heap:=h' }) e c d (by decide) ⟨kV k,H,I1,ak3 hk,⟨rfl,k,v,hx,rfl⟩,by rw [hl];exact st',fun b hb=>(hf b hb).1⟩⟩
 done:=by
  intro X hP hw hK hc i pins s σ H E I hf st hg
  subst hP hw hK
  obtain⟨hH,hi⟩:=hg
  obtain⟨vs,rel,hd,hm⟩:=I.kdict hH he
  obtain⟨f0,f1,f2,f3,f4,f5⟩:=hf it (by simp)
  have hl:kvs.length=vs.length:=rel.length
  rw [hl] at st
  exact wpAny_pyNext_dict_end (I.ok.hd hc) st hd (by simp;omega) fun h' eb=>⟨rfl,I.turned (t':=s.toks) (fun b o hb e=>eb b o hb e) f0 f1 f3 f4 f5⟩
 self:=fun _ _ _ _ _ st h=>j_ st h
theorem ac4 {X:Cx} {tg:Expr} {pins:List (Addr×Obj)} {σ:St} {H:Hp} {s:al} {R:It->Hp->Prop} {E:ah->al->Prop} {p:Addr} {o:Obj} {kvs:List (Key×V)} (I:Inv X pins σ H s) (h:H p=some (.frz o (.dK kvs)))
  (q:R (Itd p o kvs) H):aJ (model X.prog X.w) X.A (lR (.ref p)) (PIE X pins σ tg R) E s:=by
 have he:∃ ep,Ty o ep:=by
  obtain⟨e1,z,y,vs,r,ob,es,ep,e,c,d,_⟩:=I.hok p _ h
  rw [e1] at e;cases e
  exact⟨ep,es,d⟩
 obtain⟨ep,he⟩:=he
 obtain⟨vs,rel,hd,hm⟩:=I.kdict h he
 refine e8 hm hd ?_
 refine⟨s.heap.objs.size,[s.heap.objs.size],_,_,H,rfl,I.kept (t':=s.toks) fun b o e=>ai _ e,Vy p _ o kvs he,⟨_,az _ rfl,rfl,by rw [rel.length];rfl⟩,fun b hb=>?_,q⟩
 have e:b=s.heap.objs.size:=by simpa using hb
 subst e
 exact I.fpOk (aj _) (I.hok.fresh (aj _))
end L2
set_option maxHeartbeats 1000000
namespace L2
open PySem PySem.Spec PyProof.Rows
section
variable {prog:aS} {w:bB} {A:a_} {E:ah->al->Prop} {s:al} {d it:Addr} {ob:Obj} {es:Array lY} {ep i:Nat}
theorem ac7 {Q:ah->al->Prop} (nm:(d==cI)=false) (g:s.heap.get? d=some ob) (c:ob.ExactDict) (e:ob.data=.dict es ep)
  (q:Q (.ref s.heap.objs.size) { s with heap:=s.heap.push { cls:=.type "dict_keyiterator", data:=.fields #[.ref d,.int 0 0,.int es.size 0,.int ep 0] } }):aJ (model prog w) A (lR (.ref d)) Q E s:=by
 have T:s.TypeIs (.ref d) "dict" := ⟨ob,g,c.1⟩
 refine wpAny_pyIter_slot T F.slot_dict_iter (cq F.slot_dict_iter T F.entry_dict_iter ?_ (F.args_dict_iter_1 _))
 unfold aB.«dict.__iter__»
 refine ag ?_
 unfold Builtin.Dict.dictSlotNone
 refine ag (wpAny_notOrdered_dict T (show aJ _ _ (pure (bG d)) _ _ s from ar ?_))
 show aJ _ _ (jA d >>= _) _ _ s
 unfold jA
 rw [if_neg (by rw [nm];exact au)]
 refine ag (ar (ag (f7 g e (ag (g7 g e ?_)))))
 refine ag (cx (ar ⟨_,rfl, "dict_keyiterator", _,⟨_,az _ rfl,rfl⟩,F.slot_dict_keyiterator_next.lookup,?_⟩))
 simpa [dN] using q
theorem ac6 {Q:Option ah->al->Prop} (t:s.heap.IsKeyIter it d i es.size ep) (g:s.heap.get? d=some ob) (e:ob.data=.dict es ep) (hi:i<es.size)
  (q:∀ h',h'.IsKeyIter it d (i+1) es.size ep->bg it s.heap h'->Q (some es[i].key) { s with heap:=h' }):aJ (model prog w) A (ic (.ref it)) Q E s:=by
 obtain⟨o,ho,hc,hd⟩:=id t
 unfold ic
 refine ag (gM (cw (name:=cN "__next__") t.typeIs bQ (cq bQ t.typeIs dW ?_ (dM _))))
 refine ag (ar (ag (ag ?_)))
 first|refine ag (ca t.typeIs (ar ?_))|refine ag (cF t.typeIs (ar ?_))
 refine ag (iw ho hd ?_)
 simp only [show dZ "dict_keyiterator" = false by decide,bH,if_false]
 show aJ _ _ (if (bG d==bw)=true then _ else _) _ _ s
 rw [if_neg (show ¬ ((bG d==bw)=true) from au)]
 refine ag (ar (ag (f7 g e ?_)))
 rw [if_neg (by simp)]
 refine ag (ar (ag (g7 g e ?_)))
 rw [if_neg (by simp)]
 refine ar ?_
 simp only [show ¬ ((i:Int)<0) from by omega,if_false,aU,fc hi]
 refine ag ?_
 first|refine ag (ca t.typeIs (ar ?_))|refine ag (cF t.typeIs (ar ?_))
 refine ag (jX t.typeIs ?_)
 show aJ _ _ (lX (.ref it) 1 (dN ((i:Int)+1)) >>= _) _ _ s
 refine ag (kq ho hd (by simp) ?_)
 have t':(s.heap.update it (Obj.mapFields (·.setIfInBounds 1 (dN ((i:Int)+1))))).IsKeyIter it d (i+1) es.size ep:=
  ⟨_,jB _ ho (Obj.isFreed_of_fields (kU hd _)),(Obj.cls_mapFields ..).trans hc,by rw [kU hd];simp [dN]⟩
 refine ag (bE (ag (jX (s:={ s with heap:=s.heap.update it (Obj.mapFields (·.setIfInBounds 1 (dN ((i:Int)+1)))) }) t'.typeIs ?_)))
 show aJ _ _ (pure es[i].key) _ _ _
 exact ar (ar ⟨_,rfl,ar (q _ t' (bD ..))⟩)
theorem ar2 {Q:Option ah->al->Prop} (hh:A.handled=none) (t:s.heap.IsKeyIter it d i es.size ep) (g:s.heap.get? d=some ob) (e:ob.data=.dict es ep) (hi:es.size<=i)
  (q:∀ h',lZ it s.heap h'->Q none { s with heap:=h' }):aJ (model prog w) A (ic (.ref it)) Q E s:=by
 obtain⟨o,ho,hc,hd⟩:=id t
 unfold ic
 refine ag (gM (cw (name:=cN "__next__") t.typeIs bQ (cq bQ t.typeIs dW ?_ (dM _))))
 refine ag (ar (ag (ag ?_)))
 first|refine ag (ca t.typeIs (ar ?_))|refine ag (cF t.typeIs (ar ?_))
 refine ag (iw ho hd ?_)
 simp only [show dZ "dict_keyiterator" = false by decide,bH,if_false]
 show aJ _ _ (if (bG d==bw)=true then _ else _) _ _ s
 rw [if_neg (show ¬ ((bG d==bw)=true) from au)]
 refine ag (ar (ag (f7 g e ?_)))
 rw [if_neg (by simp)]
 refine ag (ar (ag (g7 g e ?_)))
 rw [if_neg (by simp)]
 refine ar ?_
 simp only [show ¬ ((i:Int)<0) from by omega,if_false,aU,jk hi]
 refine ag ?_
 first|refine ag (ca t.typeIs (ar ?_))|refine ag (cF t.typeIs (ar ?_))
 show aJ _ _ (lX (.ref it) 0 .none >>= _) _ _ s
 refine ag (kq ho hd (by simp) ?_)
 show aJ _ _ (newExc (.type "StopIteration") [] >>= _) _ _ _
 refine ag ?_
 simp only [newExc,newTuple]
 refine ag (cx ?_ (by size_fits))
 refine ag (m:=iq _ _) (wpAny_of_eq (a:=bw) (by first|rfl|(simp only [iq];rfl)) ?_)
 refine cx ?_ (by size_fits)
 simp only [raiseNew]
 refine ag (wpAny_handled ?_)
 rw [show A.in1.handled=none from hh]
 refine ag (ar (wpAny_throw ?_))
 refine ag (jj (T := "StopIteration") (b:=true) ⟨_,az _ rfl,rfl⟩ isSubtype_stop ?_)
 exact ar (q _ (((bD ..).extBut.push _).push _))
end
section
variable {X:Cx} {pins:List (Addr×Obj)} {σ:St} {H:Hp} {s:al} {p:Addr} {kvs:List (TK×V)} {o:Obj}
theorem Inv.frozeT (I:Inv X pins σ H s) (h:H p=some (.dT kvs)):∃ ob,Inv X pins σ (upd H p (.frz ob (.dT kvs))) s:=by
 have K:=I.hok p _ h
 obtain⟨z,y,vs,r,ob,es,ep,e,c,d,q⟩:=id K
 exact⟨ob,I.write (x:=p) (e:=p) (t':=s.toks) (h':=s.heap) (by rw [h];trivial) (.inl rfl) (fun b u _ q=>q) ⟨ob,e⟩ ⟨e,K.stay (fun _ _ _ q=>q) (fun c q=>by rw [Ad fun z=>by rw [z,h] at q;cases q];exact q) fun c xs q=>by rw [Ad fun z=>by rw [z,h] at q;cases q];exact q⟩⟩
theorem Inv.tdict (I:Inv X pins σ H s) (h:H p=some (.frz o (.dT kvs))):∃ es ep,s.heap.get? p=some o/\o.ExactDict/\o.data=.dict es ep/\(p==cI)=false/\es.size=kvs.length /\ ∀ (i:Nat) (hi:i<es.size),∃ k v b,kvs[i]? = some (k,v)/\es[i].key=.ref b/\Ap k<=8/\TkAt H k (.ref b):=by
 obtain⟨e1,z,y,xs,r,ob,es,ep,e,c,d,q,_⟩:=I.hok p _ h
 rw [e1] at e
 cases e
 have hl:es.size=kvs.length:=by
  have:=congrArg cg q
  rw [ae] at this
  rw [r.length,<- this,bJ]
 refine⟨es,ep,e1,c,d,y,hl,fun i hi=>?_⟩
 have all:∀ {l:List (TK×V)} {m:List (TK×Addr×ah)} {j:Nat} {x:TK×Addr×ah},gC (fun (p:TK×V) (q:TK×Addr×ah)=>p.1=q.1/\(Ap p.1<=8/\TkAt H p.1 (.ref q.2.1))/\RelV p.2 q.2.2) l m->m[j]? = some x -> ∃ k v,l[j]? = some (k,v)/\Ap k<=8/\TkAt H k (.ref x.2.1):=by
  intro l m j x q
  induction q generalizing j with
  | nil=>intro e;simp at e
  | @cons a b _ _ hq t ih=>
   intro e
   cases j with
   | zero=>cases e;exact⟨a.1,a.2,rfl,hq.2.1⟩
   | succ j=>exact ih (by simpa using e)
 have hx:i<xs.length:=by
  have:=congrArg cg q
  rw [ae,bJ] at this
  omega
 obtain⟨k,v,e2,e3⟩:=all r (af hx)
 refine⟨k,v,(xs[i]).2.1,e2,?_,e3⟩
 have:es.toList[i]? = some (entryOfKey (Co X.prog X.w) xs[i]):=by rw [q,ak,af hx];rfl
 rw [cC,fc hi] at this
 rw [av this]
 rfl
end
noncomputable def ab2 (p:Addr) (o:Obj) (kvs:List (TK×V)):It:=
 ⟨fun i H=>H p=some (.frz o (.dT kvs))/\i<kvs.length,fun i H x H'=>H'=H /\ ∃ k v,kvs[i]? = some (k,v)/\Ap k<=8/\TkAt H k x /\ ∃ b,x=.ref b,fun i H=>H p=some (.frz o (.dT kvs))/\kvs.length<=i⟩
theorem aj1 {P:aS} {w:bB} {K:ac} {tg:Expr} (p it:Addr) (o:Obj) (kvs:List (TK×V)) {es:Array lY} {ep:Nat} (he:o.data=.dict es ep):Im P w K tg (ab2 p o kvs) [it] it (fun i h=>h.IsKeyIter it p i es.size ep) where
 mem:=by simp
 obj:=fun i h st b hb=>by
  have e:b=it:=by simpa using hb
  subst e
  obtain⟨o,e,c,d⟩:=st
  exact⟨o,e,fun v z=>by rw [d] at z;cases z⟩
 keep:=fun i h h' st k=>st.at fun o e=>k it (by simp) o e
 item:=by
  intro X hP hw hK hc i pins s σ H E I hf st hg
  subst hP hw hK
  obtain⟨hH,hi⟩:=hg
  obtain⟨es',ep',g,c,d,_,hl,hk⟩:=I.tdict hH
  rw [he] at d
  cases d
  obtain⟨f0,f1,f2,f3,f4,f5⟩:=hf it (by simp)
  have hi':i<es.size:=by omega
  obtain⟨k,v,b,e1,e2,e3,e4⟩:=hk i hi'
  refine ac6 st g he hi' fun h' st' sb=>?_
  have I1:Inv X pins σ H { s with heap:=h' }:=I.turned (t':=s.toks) (fun b o hb e=>sb.extBut b o hb e) f0 f1 f3 f4 f5
  obtain⟨o1,e,c,d⟩:=id st'
  exact⟨_,rfl,Ha (s:={ s with heap:=h' }) e c d (by decide) ⟨.ref b,H,I1,e2,⟨rfl,k,v,e1,e3,e4,b,rfl⟩,st',fun b hb=>(hf b hb).1⟩⟩
 done:=by
  intro X hP hw hK hc i pins s σ H E I hf st hg
  subst hP hw hK
  obtain⟨hH,hi⟩:=hg
  obtain⟨es',ep',g,c,d,_,hl,hk⟩:=I.tdict hH
  rw [he] at d
  cases d
  obtain⟨f0,f1,f2,f3,f4,f5⟩:=hf it (by simp)
  exact ar2 (I.ok.hd hc) st g he (by omega) fun h' eb=>⟨rfl,I.turned (t':=s.toks) (fun b o hb e=>eb b o hb e) f0 f1 f3 f4 f5⟩
 self:=fun _ _ _ _ _ st h=>j_ st h
theorem a52 {X:Cx} {tg:Expr} {pins:List (Addr×Obj)} {σ:St} {H:Hp} {s:al} {R:It->Hp->Prop} {E:ah->al->Prop} {p:Addr} {kvs:List (TK×V)} (I:Inv X pins σ H s) (h:H p=some (.dT kvs))
  (q:∀ o,R (ab2 p o kvs) (upd H p (.frz o (.dT kvs)))):aJ (model X.prog X.w) X.A (lR (.ref p)) (PIE X pins σ tg R) E s:=by
 obtain⟨o,I1⟩:=I.frozeT h
 obtain⟨es,ep,g,c,d,nm,hl,_⟩:=I1.tdict Aa
 refine ac7 nm g c d ?_
 refine⟨s.heap.objs.size,[s.heap.objs.size],_,_,_,rfl,I1.kept (t':=s.toks) fun b o e=>ai _ e,aj1 p _ o kvs d,⟨_,az _ rfl,rfl,rfl⟩,fun b hb=>?_,q o⟩
 have e:b=s.heap.objs.size:=by simpa using hb
 subst e
 exact I1.fpOk (aj _) (I1.hok.fresh (aj _))
end L2
set_option maxHeartbeats 4000000
namespace PySem
theorem Sem.wp_never {α:Type} (M:Model) (Γ:Ctx):∀ (t:Sem α) (p:Pos) (s:al),Sem.wp M Γ t (fun _ _ _=>False) (fun _ _ _=>False) p s->False:=by
 intro t
 induction t with
 | pure a=>intro p s h;exact h
 | raise e=>intro p s h;exact h
 | unsupported w=>intro p s h;exact h
 | finish e=>intro p s h;exact h
 | rule tag k ih=>intro p s h;exact ih () p s h
 | «at» q k ih=>intro p s h;exact ih () q s h
 | load a part k ih=>intro p s h;obtain⟨o,_,h⟩:=h;exact ih o p s h
 | update a part f k ih=>intro p s h;exact ih () p _ h.2
 | alloc o k ih=>intro p s h;exact ih _ p _ h
 | loadIfAlive a k ih=>intro p s h;exact ih _ p s h
 | point l k ih=>intro p s h;exact ih () p s h
 | register a k ih=>intro p s h;exact h
 | fresh k ih=>intro p s h;exact ih _ p _ h
 | ask k ih=>intro p s h;exact ih _ p s h
 | choose src n k ih=>intro p s h;exact ih _ p _ h.2
 | os q l k ih=>intro p s h;exact ih _ p _ h
 | call c hd g l k ih=>intro p s h;obtain⟨r,s',_,h⟩:=h;exact ih r p s' h
 | handled own k ih=>intro p s h;exact ih _ p s h
 | newGen c k ih=>intro p s h;exact ih _ p _ h
 | genState g k ih=>intro p s h;obtain⟨st,_,h⟩:=h;exact ih _ p s h
 | resume g r l k ih=>intro p s h;obtain⟨res,s',_,h⟩:=h;exact ih res p s' h
 | yield v g l k ih=>intro p s h;exact h
 | stack k ih=>intro p s h;exact ih _ p s h
 | fork c k ih=>intro p s h;exact h
 | thread k ih=>intro p s h;first|exact ih _ p s h|exact h
 | await a tk d l k ih=>intro p s h;first|exact h|exact ih _ p s h
section
variable {prog:aS} {w:bB} {A:a_} {E:ah->al->Prop} {s:al}
theorem U6 {v:ah} {P:ah->al->Prop} (h:aJ (model prog w) A (ic v) (fun r s'=>∃ u,r=some u/\P u s') (fun _ _=>False) s):aJ (model prog w) A (bF v) P E s:=by
 intro Γ p hΓ
 have h:=h Γ p hΓ
 unfold ic Sem.attempt at h
 unfold bF
 rw [lL,Sem.wp_tryCatch,Sem.wp_bind] at h
 rw [lL]
 refine Sem.wp_mono _ _ _ (fun o p' s' q=>?_) (fun e p' s' q=>?_) p s h
 ·cases o with
  | none=>exact (show False from q).elim
  | some u=>
   obtain⟨u',e,q⟩:=q
   cases e
   exact q
 ·refine (Sem.wp_never (model prog w) Γ (lz e (.type "StopIteration")) p' s' ?_).elim
  have q:Sem.wp (model prog w) Γ (lz e (.type "StopIteration") >>= fun b=>if b=true then pure none else throw e) (fun r _ s'=>∃ u,r=some u/\P u s') (fun _ _ _=>False) p' s':=q
  rw [lL] at q
  refine Sem.wp_mono _ _ _ (fun b p2 s2 q=>?_) (fun _ _ _ z=>z) p' s' q
  cases b with
  | true=>obtain⟨u,z,_⟩:=q;cases z
  | false=>exact q
variable {κ:Type} [DecidableEq κ] {knd:KeyKind prog w κ} {d it:Addr} {ep i:Nat} {kvs:List (κ×ah)}
theorem Hm {Q:ah->al->Prop} (hh:A.handled=none) (hit:s.heap.IsKeyIter it d i kvs.length ep) (hm:s.heap.DictAt knd d kvs ep) (hx:kvs[i]? = none)
  (hE:∀ h' x,lZ it s.heap h'->(∃ o,h'.get? x=some o/\o.cls=.type "StopIteration")->E (.ref x) { s with heap:=h' }):aJ (model prog w) A (bF (.ref it)) Q E s:=by
 have ⟨oi,ei,ci,di⟩:=hit
 have ⟨od,es,ed,_,dd,_,pr,_⟩:=hm
 have size:es.size=kvs.length:=pr.length▸(by simp)
 have past:es.size<=i:=by rw [size];simpa using hx
 have own:dZ "dict_keyiterator" = false:=by decide
 have nx:¬ ((i:Int)<0):=by omega
 have noNone:¬ ((bG d==bw)=true):=au
 unfold bF
 refine ag (cw (name:=cN "__next__") hit.typeIs bQ (cq bQ hit.typeIs dW ?_ (dM _)))
 refine ag (ar (ag (ag ?_)))
 first|refine ag (ca hit.typeIs (ar (ag (iw ei di ?_))))|refine ag (cF hit.typeIs (ar (ag (iw ei di ?_))))
 simp only [own,bH,if_false]
 show aJ _ _ (if (bG d==bw)=true then _ else _) _ _ s
 rw [if_neg noNone]
 refine ag (ar (ag (f7 ed dd ?_)))
 rw [if_neg (show ¬ _ by rw [size];simp)]
 refine ag (ar (ag (g7 ed dd ?_)))
 rw [if_neg (show ¬ _ by simp)]
 refine ar ?_
 simp only [nx,if_false,aU,jk past]
 refine ag ?_
 first|refine ag (ca hit.typeIs (ar ?_))|refine ag (cF hit.typeIs (ar ?_))
 show aJ _ _ (lX (.ref it) 0 .none >>= fun _=>newExc (.type "StopIteration") [] >>= _) _ _ s
 refine ag (kq ei di (by simp) (ag ?_))
 simp only [newExc,newTuple]
 refine ag (cx (ag (m:=iq _ _) (wpAny_of_eq (a:=bw) (by first|rfl|(simp only [iq];rfl)) (cx ?_ (by size_fits)))) (by size_fits))
 simp only [raiseNew]
 refine ag (wpAny_handled ?_)
 rw [show A.in1.handled=none from hh]
 refine ag (ar (wpAny_throw ?_))
 exact hE _ _ (((bD ..).extBut.push _).push _) ⟨_,az _ rfl,rfl⟩
theorem Gs {k:κ} {v:ah} {Q:ah->al->Prop} (hit:s.heap.IsKeyIter it d i kvs.length ep) (hm:s.heap.DictAt knd d kvs ep) (hx:kvs[i]? = some (k,v))
  (hQ:∀ key h',knd.is k key=true->h'.IsKeyIter it d (i+1) kvs.length ep->bg it s.heap h'->Q key { s with heap:=h' }):aJ (model prog w) A (bF (.ref it)) Q E s:=
 U6 (jw hit hm hx fun key h' a b c=>⟨key,rfl,hQ key h' a b c⟩)
theorem Ui {e:Addr} {old:ah} {J:ah->Heap->Prop} {Q:ah->al->Prop} (he:jE s.heap e it i old) (hne:e≠it)
  (nx:∀ (A:a_) (P:ah->al->Prop) (E:ah->al->Prop),(∀ x h1,J x h1->bg it s.heap h1->P x { s with heap:=h1 })->aJ (model prog w) A (bF (.ref it)) P E s)
  (hJ:∀ x h1 h2,J x h1->(∀ o,h1.get? it=some o->h2.get? it=some o)->J x h2)
  (hQ:∀ x h',IsEnumOut h' e it ((i:Int)+1) x s.heap.objs.size->J x h'->h'.get? s.heap.objs.size=some { cls:=.type "tuple", data:=.seq #[.int i s.toks,x] } ->
   (∀ b o,b≠e->b≠it->s.heap.get? b=some o->h'.get? b=some o)->Q (.ref s.heap.objs.size) { s with heap:=h',toks:=s.toks+1 }) :
  aJ (model prog w) A (aB.«enumerate.__next__» ⟨[.ref e],[]⟩) (fun fin s'=>∃ v,fin=.done (.ret v)/\Q v s') E s:=by
 have lt:e<s.heap.objs.size:=aC he
 obtain⟨h0,gs,dr,tk,ops⟩:=s
 show aJ _ _ (field (.ref e) 2 >>= fun z=>bF z >>= _) _ _ _
 refine ag (eK he rfl (x:=.ref it) rfl (ag (nx _ _ _ fun x h1 j1 s1=>?_)))
 have k1:bg it h0 h1:=s1
 have e1:jE h1 e it i old:=(k1.2 e hne).trans he
 refine ag (eK (s:=⟨h1,gs,dr,tk,ops⟩) e1 rfl (x:=dN i) rfl ?_)
 refine ag (m:=field (.ref e) 4) (eK (s:=⟨h1,gs,dr,tk,ops⟩) e1 rfl (x:=.none) rfl ?_)
 show aJ _ _ (mkInt i >>= _) _ _ ⟨h1,gs,dr,tk,ops⟩
 refine ag (wpAny_mkInt ?_)
 show aJ _ _ (lX (.ref e) 3 (dN ((i:Int)+1)) >>= fun _=>lX (.ref e) 4 .none >>= _) _ _ ⟨h1,gs,dr,tk+1,ops⟩
 refine ag (d8 e1 (by simp) fun h2 e2 s2=>ag (d8 (s:=⟨h2,gs,dr,tk+1,ops⟩) (show jE h2 e it ((i:Int)+1) old from e2) (by simp) fun h3 e3 s3=>?_))
 have k2:bg e h1 h2:=s2
 have k3:bg e h2 h3:=s3
 have e3:jE h3 e it ((i:Int)+1) old:=e3
 show aJ _ _ (newTuple [.int i tk,x] >>= _) _ _ ⟨h3,gs,dr,tk+1,ops⟩
 refine ag (ga ?_)
 have size:h3.objs.size=h0.objs.size:=by rw [k3.1,k2.1,k1.1]
 have up:∃ h4:Heap,h4=h3.push { cls:=.type "tuple", data:=.seq #[.int i tk,x] }:=⟨_,rfl⟩
 obtain⟨h4,eh4⟩:=up
 rw [<- eh4]
 have e4:jE h4 e it ((i:Int)+1) old:=by rw [eh4];exact ai _ e3
 have t4:h4.get? h0.objs.size=some { cls:=.type "tuple", data:=.seq #[.int i tk,x] }:=by rw [eh4,<- size];exact az _ rfl
 have j4:J x h4:=hJ x h1 h4 j1 fun o q=>by rw [eh4];exact ai _ (k3.extBut it o (cB hne) (k2.extBut it o (cB hne) q))
 have all4:∀ b o,b≠e->b≠it->h0.get? b=some o->h4.get? b=some o:=fun b o b1 b2 q=>by
  rw [eh4]
  exact ai _ (k3.extBut b o b1 (k2.extBut b o b1 (k1.extBut b o b2 q)))
 show aJ _ _ (fm (.ref e) >>= _) _ _ ⟨h4,gs,dr,tk+1,ops⟩
 rw [size]
 refine ag ?_
 unfold fm
 refine ag (eK e4 rfl (x:=.none) rfl (ar ?_))
 simp only [if_true]
 refine ag (lC (ag (eK e4 rfl (x:=old) rfl (ag (d8 e4 (by simp) fun h5 e5 s5=>?_)))))
 have e5:jE h5 e it ((i:Int)+1) x:=e5
 have k5:bg e h4 h5:=s5
 show aJ _ _ (ff (.ref e) (.ref h0.objs.size) >>= _) _ _ ⟨h5,gs,dr,tk+1,ops⟩
 refine ag ?_
 unfold ff
 refine ag (d8 e5 (by simp) fun h6 e6 s6=>d8 (s:=⟨h6,gs,dr,tk+1,ops⟩) (show IsEnumOut h6 e it ((i:Int)+1) x h0.objs.size from e6) (by simp) fun h7 e7 s7=>?_)
 have k6:bg e h5 h6:=s6
 have k7:bg e h6 h7:=s7
 have on:∀ b o,b≠e->h4.get? b=some o->h7.get? b=some o:=fun b o n q=>k7.extBut b o n (k6.extBut b o n (k5.extBut b o n q))
 exact ag (wpAny_letGo (ar ⟨_,rfl,hQ x h7 e7 (hJ x h4 h7 j4 fun o q=>on it o (cB hne) q) (on _ _ (gh lt) t4) fun b o b1 b2 q=>on b o b1 (all4 b o b1 b2 q)⟩))
theorem Jx {e:Addr} {old:ah} {J:ah->Heap->Prop} {Q:Option ah->al->Prop} (he:jE s.heap e it i old) (hne:e≠it)
  (nx:∀ (A:a_) (P:ah->al->Prop) (E:ah->al->Prop),(∀ x h1,J x h1->bg it s.heap h1->P x { s with heap:=h1 })->aJ (model prog w) A (bF (.ref it)) P E s)
  (hJ:∀ x h1 h2,J x h1->(∀ o,h1.get? it=some o->h2.get? it=some o)->J x h2)
  (hQ:∀ x h',IsEnumOut h' e it ((i:Int)+1) x s.heap.objs.size->J x h'->h'.get? s.heap.objs.size=some { cls:=.type "tuple", data:=.seq #[.int i s.toks,x] } ->
   (∀ b o,b≠e->b≠it->s.heap.get? b=some o->h'.get? b=some o)->Q (some (.ref s.heap.objs.size)) { s with heap:=h',toks:=s.toks+1 }):aJ (model prog w) A (ic (.ref e)) Q E s:=by
 have ty:s.TypeIs (.ref e) "enumerate" := ⟨_,he,rfl⟩
 unfold ic
 exact ag (gM (cw (name:=cN "__next__") ty eh (cq eh ty jo (Ui he hne nx hJ fun x h' a b c d=>ar (hQ x h' a b c d)) (iR _))))
theorem G1 {e:Addr} {old:ah} {Q:Option ah->al->Prop} (hh:A.handled=none) (he:jE s.heap e it i old) (hit:s.heap.IsKeyIter it d i kvs.length ep) (hm:s.heap.DictAt knd d kvs ep) (hx:kvs[i]? = none)
  (hQ:∀ h',lZ it s.heap h'->Q none { s with heap:=h' }):aJ (model prog w) A (ic (.ref e)) Q E s:=by
 have ty:s.TypeIs (.ref e) "enumerate" := ⟨_,he,rfl⟩
 unfold ic
 refine ag (gM (cw (name:=cN "__next__") ty eh (cq eh ty jo ?_ (iR _))))
 show aJ _ _ (field (.ref e) 2 >>= fun z=>bF z >>= _) _ _ _
 refine ag (eK he rfl (x:=.ref it) rfl (ag (Hm hh hit hm hx fun h' x hk ⟨o,ho,hc⟩=>?_)))
 exact ag (jj (T := "StopIteration") (b:=true) ⟨o,ho,hc⟩ isSubtype_stop (ar (hQ _ hk)))
theorem Pp {Q:ah->al->Prop} (hd:(d==cI)=false) (hm:s.heap.DictAt knd d kvs ep)
  (h:∀ h',jE h' (s.heap.objs.size+1) s.heap.objs.size 0 .none->h'.IsKeyIter s.heap.objs.size d 0 kvs.length ep->(∀ b o,s.heap.get? b=some o->h'.get? b=some o)->Q (.ref (s.heap.objs.size+1)) { s with heap:=h' }) :
  aJ (model prog w) A (call (.type "enumerate") [.ref d]) Q E s:=by
 have g:l_ prog w (aB.«enumerate.__new__» ⟨[.type "enumerate", .ref d],[]⟩) (fun _ R s=>s.heap.DictAt knd d kvs ep /\
   R (.ok (.ret (.ref (s.heap.objs.size+1)))) { s with heap:=(s.heap.push { cls:=.type "dict_keyiterator", data:=.fields #[.ref d,.int 0 0,.int kvs.length 0,.int ep 0] }).push { cls:=.type "enumerate", data:=.fields #[.none,.bool false,.ref s.heap.objs.size,dN 0,.none,.none] } }):=by
  refine .of_wp fun A R s h=>?_
  obtain⟨hp,g,d',tk,os⟩:=s
  obtain⟨hm,h⟩:=h
  have hsub:=sub_enumerate
  obtain⟨o,es,ho,hcl,hdat,q⟩:=id hm
  have hz:(hp.push { cls:=.type "dict_keyiterator", data:=.fields #[.ref d,.int 0 0,.int kvs.length 0,.int ep 0] }).objs.size=hp.objs.size+1:=dD ..
  wp_walk using e8 hd hm
  refine wpAny_stack_any fun st=>ar ?_
  have h2:R (.ok (.ret (.ref (hp.push { cls:=.type "dict_keyiterator", data:=.fields #[.ref d,.int 0 0,.int kvs.length 0,.int ep 0] }).objs.size))) ⟨(hp.push { cls:=.type "dict_keyiterator", data:=.fields #[.ref d,.int 0 0,.int kvs.length 0,.int ep 0] }).push { cls:=.type "enumerate", data:=.fields #[.none,.bool false,.ref hp.objs.size,dN 0,.none,.none] },g,d',tk,os⟩:=by rw [hz];exact h
  split
  ·rename_i c _ _ _ _ _
   cases (c==fC "enumerate")
   ·wp_walk using e8 hd hm
    exact⟨_,rfl,h2⟩
   ·wp_walk using e8 hd hm
    exact⟨_,rfl,h2⟩
  ·wp_walk using e8 hd hm
   exact⟨_,rfl,h2⟩
 refine callType_newIn F.called_enumerate (by decide) (F.typeCall_enumerate_1 _) (F.newCall_enumerate_1 _) (fun obj=>F.args_object_init_2 obj _) F.entry_enumerate_new g ⟨hm,?_⟩
 have hz:(s.heap.push { cls:=.type "dict_keyiterator", data:=.fields #[.ref d,.int 0 0,.int kvs.length 0,.int ep 0] }).objs.size=s.heap.objs.size+1:=dD ..
 have he:jE ((s.heap.push { cls:=.type "dict_keyiterator", data:=.fields #[.ref d,.int 0 0,.int kvs.length 0,.int ep 0] }).push { cls:=.type "enumerate", data:=.fields #[.none,.bool false,.ref s.heap.objs.size,dN 0,.none,.none] }) (s.heap.objs.size+1) s.heap.objs.size 0 .none:=hz▸az _ rfl
 exact⟨⟨_,he,rfl⟩,h _ he ⟨_,ai _ (az _ rfl),rfl,rfl⟩ fun b o x=>ai _ (ai _ x)⟩
end
end PySem
namespace L2
open PySem PySem.Spec PyProof.Rows
noncomputable def Wv (p:Addr) (o:Obj) (kvs:List (Key×V)):It:=
  ⟨fun i H=>H p=some (.frz o (.dK kvs))/\i<kvs.length,
   fun i H x H'=>∃ T k v,H T=none/\x=.ref T/\kvs[i]? = some (k,v)/\H'=upd H T (.tup [.int i,kV k]),
   fun i H=>H p=some (.frz o (.dK kvs))/\kvs.length<=i⟩
theorem Rk {P:aS} {w:bB} {K:ac} {elts:List Expr} {kt:Nat} {pt:Pos} {e it p:Addr} {o:Obj} {kvs:List (Key×V)} {ep:Nat} (ne:e≠it) (he:Ty o ep) :
  Im P w K (.Tuple elts kt pt) (Wv p o kvs) [e,it] e (fun i h=>(∃ old,jE h e it (i:Int) old)/\h.IsKeyIter it p i kvs.length ep) where
 mem:=by simp
 obj:=fun i h st b hb=>by
  obtain⟨⟨old,he⟩,⟨o1,e1,c1,d1⟩⟩:=st
  rcases List.mem_cons.mp hb with rfl|hb
  ·exact⟨_,he,fun v q=>nomatch q⟩
  ·rw [List.mem_singleton.mp hb];exact⟨o1,e1,fun v q=>by rw [d1] at q;cases q⟩
 keep:=fun i h h' st k=>let ⟨⟨old,he⟩,h1⟩:=st;⟨⟨old,k e (by simp) _ he⟩,h1.at fun o q=>k it (by simp) o q⟩
 item:=by
  intro X hP hw hK hc i pins s σ H E I hf st hg
  subst hP hw hK
  obtain⟨hH,hi⟩:=hg
  obtain⟨vs,rel,hd,hm⟩:=I.kdict hH he
  obtain⟨⟨k,v⟩,hx⟩:∃ q,kvs[i]? = some q:=⟨kvs[i],by simp [hi]⟩
  obtain⟨u,hu,_⟩:=Xz rel hx
  have hl:kvs.length=vs.length:=rel.length
  obtain⟨⟨old,en⟩,h1⟩:=st
  rw [hl] at h1
  refine Jx en ne (J:=fun x h=>(A0 X.prog X.w).is k x=true/\h.IsKeyIter it p (i+1) vs.length ep) (fun A P E hQ=>Gs h1 hd hu fun key h' a b c=>hQ key h' ⟨a,b⟩ c) (fun x h1 h2 j k=>⟨j.1,j.2.at k⟩) fun key h' a1 ⟨hk,a2⟩ a3 hk'=>?_
  refine⟨_,rfl,hU a1 fun h'' hz' hs'=>?_⟩
  have hT:=I.hok.fresh (aj s.heap.objs.size)
  have nT:∀ {b ob},s.heap.get? b=some ob->b≠s.heap.objs.size:=fun q=>aN (aC q)
  have up:∀ b ob,b∉[e,it]->s.heap.get? b=some ob->h''.get? b=some ob:=fun b ob hb q=>by
   have b1:b≠e:=by rintro rfl;exact hb (by simp)
   have b2:b≠it:=by rintro rfl;exact hb (by simp)
   exact hs'.extBut b ob b1 (hk' b ob b1 b2 q)
  have Tnew:h''.get? s.heap.objs.size=some { cls:=.type "tuple", data:=.seq #[.int i s.toks,key] }:=hs'.extBut _ _ (cB (nT en)) a3
  have I1:Inv X pins σ (upd H s.heap.objs.size (.tup [.int i,kV k])) { s with heap:=h'',toks:=s.toks+1 }:=
   I.turnedN (t':=s.toks+1) (ch:=[e,it]) (fun b hb=>hf b hb) up (aj _) ⟨by show 2<=sizeLine;decide,[.int i s.toks,key],.cons ⟨_,rfl⟩ (.cons (ak3 hk) .nil),⟨_,Tnew,rfl,_,rfl⟩⟩
  refine⟨.ref s.heap.objs.size,_,I1,rfl,⟨s.heap.objs.size,k,v,hT,rfl,hx,rfl⟩,⟨⟨_,hz'⟩,by rw [hl];exact a2.at fun o q=>hs'.extBut _ o (cB ne) q⟩,fun b hb=>?_⟩
  have q:=(hf b hb).1
  rw [Ad ?_]
  ·exact q
  ·rcases List.mem_cons.mp hb with rfl|hb
   ·exact nT en
   ·rw [List.mem_singleton.mp hb];obtain⟨_,q,_⟩:=h1;exact nT q
 done:=by
  intro X hP hw hK hc i pins s σ H E I hf st hg
  subst hP hw hK
  obtain⟨hH,hi⟩:=hg
  obtain⟨vs,rel,hd,hm⟩:=I.kdict hH he
  have hl:kvs.length=vs.length:=rel.length
  obtain⟨⟨old,en⟩,h1⟩:=st
  rw [hl] at h1
  refine G1 (I.ok.hd hc) en h1 hd (by simp;omega) fun h' hk=>⟨rfl,?_⟩
  refine I.turnedL (t':=s.toks) (ch:=[e,it]) (fun b hb=>hf b hb) fun b o hb q=>hk b o (by rintro rfl;exact hb (by simp)) q
 self:=fun A i s Q E st h=>let ⟨_,he⟩:=st.1;f8 he h
theorem Xl {X:Cx} {elts:List Expr} {kt:Nat} {pt:Pos} {pins:List (Addr×Obj)} {σ:St} {H:Hp} {s:al} {R:It->Hp->Prop} {E:ah->al->Prop} {p:Addr} {o:Obj} {kvs:List (Key×V)} (I:Inv X pins σ H s) (h:H p=some (.frz o (.dK kvs)))
  (q:R (Wv p o kvs) H):aJ (model X.prog X.w) X.A (call (.type "enumerate") [.ref p]) (fun v s1=>aJ (model X.prog X.w) X.A (lR v) (PIE X pins σ (.Tuple elts kt pt) R) E s1) E s:=by
 have he:∃ ep,Ty o ep:=by
  obtain⟨e1,z,y,vs,r,ob,es,ep,e,c,d,_⟩:=I.hok p _ h
  rw [e1] at e;cases e
  exact⟨ep,es,d⟩
 obtain⟨ep,he⟩:=he
 obtain⟨vs,rel,hd,hm⟩:=I.kdict h he
 refine Pp hm hd fun h' en hit hk=>f8 en ?_
 refine⟨_,_,_,_,H,rfl,I.kept (t':=s.toks) hk,Rk (Nat.succ_ne_self _) he,⟨⟨_,en⟩,by rw [rel.length];exact hit⟩,fun b hb=>?_,q⟩
 have hb:b=s.heap.objs.size+1\/b=s.heap.objs.size:=by simpa using hb
 have le:s.heap.objs.size<=b:=hb.elim (fun e=>e▸be _ 1) fun e=>e▸aj _
 exact I.fpOk le (I.hok.fresh le)
end L2
namespace PySem
open PyProof.Rows
section
variable {κ:Type} [DecidableEq κ]
noncomputable def Dq (xs:List κ):List κ:=xs.foldl (fun σ k=>if σ.any (fun j=>decide (j=k)) then σ else σ++[k]) []
theorem La (xs:List κ) (k:κ):Dq (xs++[k])=if (Dq xs).any (fun j=>decide (j=k)) then Dq xs else Dq xs++[k]:=by
 unfold Dq
 rw [eU]
 rfl
theorem X6 (xs:List κ) (k j:κ):(Dq (xs++[k])).any (fun i=>decide (i=j))=((Dq xs).any (fun i=>decide (i=j))||decide (j=k)):=by
 rw [La]
 by_cases h:(Dq xs).any (fun i=>decide (i=k))=true
 ·rw [if_pos h]
  by_cases e:j=k
  ·subst e;rw [h];rfl
  ·simp [e]
 ·rw [if_neg h,List.any_append]
  congr 1
  simp [eq_comm]
theorem N8 (xs:List κ):(Dq xs).length<=xs.length:=by
 have:∀ (ys acc:List κ),(ys.foldl (fun σ k=>if σ.any (fun j=>decide (j=k)) then σ else σ++[k]) acc).length<=acc.length+ys.length:=by
  intro ys
  induction ys with
  | nil=>intro acc;exact aj _
  | cons y ys ih=>
   intro acc
   refine aT (ih _) ?_
   rw [aK]
   dsimp only
   split
   ·omega
   ·rw [aZ,eC];omega
 exact aT (this xs []) (by simp)
end
section
variable {prog:aS} {w:bB} {A:a_} {R:Result->al->Prop} {I:Addr} {fp wr:List Addr} {G:Array mx->Array mx->Prop} {P:Nat->ah->Prop} {St:Nat->al->Prop} {κ:Type} [DecidableEq κ] {knd:KeyKind prog w κ} {ks:List κ}
noncomputable abbrev Em (knd:KeyKind prog w κ) (h:Heap) (S:Addr) (ks:List κ):Prop:=h.SetOf knd S (fun k=>(Dq ks).any (fun j=>decide (j=k))) (Dq ks).length
theorem Kz {h h':Heap} {S:Addr} (x:Em knd h S ks) (k:∀ o,h.get? S=some o->h'.get? S=some o):Em knd h' S ks:=
 let ⟨o,es,ep,t,ho,r⟩:=x;⟨o,es,ep,t,k o ho,r⟩
theorem Ow (W:WalksS prog w A.in1 I fp wr G ks.length P St) (S:Addr) (out:S∉fp) (hv:∀ i v,P i v -> ∃ k,ks[i]? = some k/\knd.is k v=true/\v.scannable=true) (few:ks.length+1<scanBound) (left:Nat) :
  ∀ (i:Nat) (s:al),i+left=ks.length->St i s->Em knd s.heap S (ks.take i)->(∀ s',Moved (S::wr) G s s'->Em knd s'.heap S ks->R (.ok (.ret .none)) s') ->
   ip (model prog w) A (.builtin "set.update.loop" ⟨[.ref S,.ref I],[]⟩) R s:=by
 have outw:S∉wr:=fun z=>out (W.sub _ z)
 have into:∀ b∈wr,b∈S::wr:=fun b z=>.tail _ z
 induction left with
 | zero=>
  intro i s hi st fl hR
  have ei:i=ks.length:=hi
  subst ei
  rw [aL] at fl
  refine cX iS (cH fG _ ▸ ?_)
  show aJ _ A.in1 (ic (.ref I) >>= _) _ _ s
  exact ag (W.done s _ _ st fun s' mv=>ar (hR s' (mv.mono into) (Kz fl fun o e=>mv.heap S o outw e)))
 | succ left ih=>
  intro i s hi st fl hR
  have lt:i<ks.length:=by omega
  refine cX iS (cH fG _ ▸ ?_)
  show aJ _ A.in1 (ic (.ref I) >>= _) _ _ s
  refine ag (W.item i s _ _ lt st fun v s1 pv st1 mv=>?_)
  obtain⟨k,ek,ik,sk⟩:=hv i v pv
  have fl1:Em knd s1.heap S (ks.take i):=Kz fl fun o e=>mv.heap S o outw e
  have tk:ks.take (i+1)=ks.take i++[k]:=by rw [List.take_succ,ek];rfl
  show aJ _ A.in1 (mD [v] (setAdd S v) >>= _) _ _ s1
  refine ag (bE ?_)
  unfold setAdd
  refine bE (ag (knd.pyHash (k:=k) ik ?_))
  have room:(Dq (ks.take i)).length+1<scanBound:=by
   have:=N8 (ks.take i)
   rw [aH] at this
   omega
  refine wpAny_setAddHashed_of (knd:=knd) (s:={ s1 with toks:=s1.toks+1 }) ik sk fl1 room fun h' sb fl2=>?_
  have fl3:Em knd h' S (ks.take (i+1)):=by
   have eS:(fun j=>(Dq (ks.take i)).any (fun m=>decide (m=j))||decide (j=k))=fun j=>(Dq (ks.take i++[k])).any (fun m=>decide (m=j)):=funext fun j=>(X6 (ks.take i) k j).symm
   have en:(if (Dq (ks.take i)).any (fun m=>decide (m=k))=true then (Dq (ks.take i)).length else (Dq (ks.take i)).length+1)=(Dq (ks.take i++[k])).length:=by
    rw [La];split <;> simp
   rw [tk]
   show h'.SetOf knd S _ _
   rw [<- eS,<- en]
   exact fl2
  refine ar ⟨gL fG _,ih (i+1) _ (by omega) (W.frame _ s1 _ _ st1 (cQ _) fun b hb o e=>?_) fl3 fun s2 mv2 fl4=>?_⟩
  ·exact (sb.2 b fun z=>out (z▸hb)).trans e
  ·exact hR s2 (Moved.trans W.gtrans ((mv.mono into).then_heap (cQ _) fun b o hb e=>(sb.2 b fun z=>hb (z▸aQ)).trans e) mv2) fl4
end
section
variable {prog:aS} {w:bB} {A:a_} {E:ah->al->Prop} {s:al} {κ:Type} [DecidableEq κ] {knd:KeyKind prog w κ} {ks:List κ}
noncomputable abbrev Ci (led:Bool):Obj:={ cls:=.type "set", dict:=none,data:=.set #[] 0 (.fresh 0 0 led) }
theorem Ox {l:Addr} {items:Array ah} {Q:ah->al->Prop} (hh:A.handled=none) (hl:s.heap.IsList l items) (hv:∀ (i:Nat) (v:ah),items[i]? = some v -> ∃ k,ks[i]? = some k/\knd.is k v=true/\v.scannable=true) (hs:items.size=ks.length) (few:ks.length+1<scanBound)
  (h:∀ (h':Heap) (tk:Nat),Em knd h' s.heap.objs.size ks->(∀ b o,b<s.heap.objs.size->s.heap.get? b=some o->h'.get? b=some o)->Q (.ref s.heap.objs.size) { s with heap:=h',toks:=tk }) :
  aJ (model prog w) A (call (.type "set") [.ref l]) Q E s:=by
 obtain⟨c,tl,hmro⟩:=F.called_set.mro
 have m1:=F.called_set.made
 have m2:=F.called_set.sub
 have m3:=F.called_set.notType
 have m4:=F.called_set.canCreate
 have m5:=F.typeCall_set_1 (.ref l)
 refine j0 (codeAny_of_tree (show aJ _ _ (callAny (.type "set") _) _ _ _ from ar ⟨kK _ (by decide +kernel),cX F.entry_type_call ?_⟩))
 rw [Around.under_plain (weight_type_call_type "set" [.ref l] []) rfl]
 repeat (any_goals (first|assumption|wp_step))
 refine fE (code_set_new_1 (.ref l) (E:=E) (Q₁:=fun obj s₁=>∃ led:Bool,obj=.ref s.heap.objs.size/\s₁={ s with heap:=s.heap.push (Ci led) }) fun led=>⟨led,rfl,rfl⟩) fun r s₁ hr=>?_
 cases r with
 | error e=>exact hr
 | ok fl=>
  cases fl with
  | ret obj=>
   obtain⟨led,rfl,rfl⟩:=hr
   have new:(s.heap.push (Ci led)).get? s.heap.objs.size=some (Ci led):=az _ rfl
   have ty:Shared.TypeIs { s with heap:=s.heap.push (Ci led) } (.ref s.heap.objs.size) "set" := ⟨_,new,rfl⟩
   have m6:=F.called_set.init.lookup
   have m7:=F.called_set.init.bind (.ref s.heap.objs.size)
   repeat (any_goals (first|assumption|wp_step))
   refine fE (j9 (R:=wants (fun r s₂=>r=.none /\ ∃ h' tk,s₂={ s with heap:=h',toks:=tk }/\Em knd h' s.heap.objs.size ks/\(∀ b o,b<s.heap.objs.size->s.heap.get? b=some o->h'.get? b=some o)) E) F.called_set.init.plain F.entry_set_init (check_set_init_1 ty ?_)) fun r2 s2 hr2=>?_
   ·obtain⟨⟨oc,odict,od,osl⟩,ol,hc,n,hd⟩:=hl
    simp only at hc hd
    subst hc;subst hd
    have lt:l<s.heap.objs.size:=aC ol
    have ol2:(s.heap.push (Ci led)).get? l=some { cls:=.type "list", dict:=odict,data:=.seq items n,slots:=osl }:=ai _ ol
    have m8:=F.sub_list_set
    have m9:=F.sub_list_frozenset
    have m10:(fC "list" == fC "dict")=false:=by decide
    have isl:(s.heap.push (Ci led)).IsList l items:=⟨_,ol2,rfl,n,rfl⟩
    have size:(s.heap.push (Ci led)).objs.size=s.heap.objs.size+1:=dD ..
    unfold aB.«set.__init__» noKeywords Builtin.Frozenset.updateFrom
    generalize hPI:lR=PI
    wp_walk
    subst hPI
    refine iP isl (ag (wpAny_runValue ?_))
    have quiet:A.in1.in1.in1.handled=none:=by simp [hh]
    have ne1:l≠(s.heap.push (Ci led)).objs.size:=size▸aN (df lt)
    have out:s.heap.objs.size∉[(s.heap.push (Ci led)).objs.size,l]:=by
     simp only [size,aI,c7,or_false,not_or]
     exact⟨aN (cn _),gh lt⟩
    have W:=(Walks.list (prog:=prog) (w:=w) quiet (s.heap.push (Ci led)).objs.size l ne1 items).toS
    rw [hs] at W
    refine Ow (ks:=ks) W s.heap.objs.size out hv few ks.length 0 _ (cL _) ⟨⟨_,az _ rfl,rfl,rfl⟩,isl.push _⟩ ?_ fun s' mv fl=>?_
    ·exact (setObjOf_fresh (knd:=knd) led).setOf (ai _ new) (by unfold scanBound;omega)
    ·obtain⟨h',g',d',tk',os'⟩:=s'
     have e1:g'=s.gens:=mv.gens
     have e2:d'=s.drawn:=mv.drawn
     have e3:os'=s.os:=mv.os
     subst e1;subst e2;subst e3
     refine (show aJ _ _ _ _ _ _ from ar (show aJ _ _ (ret bw) _ _ _ from ar ⟨rfl,h',tk',rfl,fl,fun b o hb e=>?_⟩))
     refine mv.heap b o ?_ (ai _ (ai _ e))
     simp only [size,aI,c7,or_false,not_or]
     exact⟨aN hb,aN (df hb)⟩
   ·cases r2 with
    | error e=>exact hr2
    | ok f2=>
     cases f2 with
     | ret r=>
      obtain⟨rfl,h',tk,rfl,fl,kept⟩:=hr2
      repeat (any_goals (first|assumption|wp_step))
      exact h _ _ fl kept
     | _=>exact hr2.elim
  | _=>exact hr.elim
end
end PySem
namespace L2
open PySem PySem.Spec PyProof.Rows
section
variable {X:Cx} {e:Expr} {de:DE} {p p2 pos pos2:Pos}
noncomputable def Ii (K:ac):V->Hp->VK->Prop:=fun x H Q=>match x with
 | .ref l=>∃ ys:List Str,SqL K H l (ys.map V.str)/\ys.length<30/\Q (.int (Dq ys).length) H
 | _=>False
theorem Tt:∀ {ys:List Str} {us:List ah} {i:Nat} {v:ah},Vals (ys.map V.str) us->us[i]? = some v -> ∃ k t,ys[i]? = some k/\v=.str k t
 | [],_,i,v,r,e=>by rw [gg] at r;cases r;simp at e
 | y::ys,_,i,v,r,e=>by
  rw [aY] at r
  cases r with
  | cons r1 r2=>
   obtain⟨t,rfl⟩:=r1
   cases i with
   | zero=>simp only [c9,eW] at e;exact⟨y,t,rfl,e.symm⟩
   | succ i=>simp only [bA] at e ⊢;exact Tt r2 e
theorem ad7 {pins:List (Addr×Obj)} {σ:St} {H:Hp} {s:al} {x:V} {u:ah} {Q:VK} (hc:X.calm=true) (I:Inv X pins σ H s) (rx:RelV x u) (h:Ii X.K x H Q) :
  aJ (model X.prog X.w) X.A (call (.type "set") [u]) (fun v s1=>aJ (model X.prog X.w) X.A (call (.builtin "len") [v]) (EP X pins σ Q) X.xe s1) X.xe s:=by
 cases x with
 | ref l=>
  cases rx
  obtain⟨ys,hq,few,q⟩:=h
  obtain⟨its,rv,pl,hz⟩:=I.list hq
  have hl:its.length=ys.length:=by rw [<- rv.length,ae]
  refine bu (aj _) (Ox (knd:=PySem.strKind X.prog X.w) (ks:=ys) (I.ok.hd hc) pl.isList (fun i v e=>?_) (by simpa using hl) (by unfold scanBound;omega) fun h' tk fl kept htk=>?_)
  ·obtain⟨k,t,ek,rfl⟩:=Tt rv (by simpa using e)
   exact⟨k,ek,by show gJ k (.str k t)=true;simp [gJ],rfl⟩
  ·have I1:Inv X pins σ H { s with heap:=h',toks:=tk }:=I.kept (t':=tk) fun b o e=>kept b o (aC e) e
   obtain⟨o,es,ep,t,ho,hex,hd,hel,hmem,hb,hf,hn⟩:=fl
   refine call_len_set ho hex hd hf ?_ ?_
   ·have:=N8 ys
    rw [hn];omega
   ·rw [hn]
    exact⟨.int _,H,I1.tok _,⟨_,rfl⟩,q⟩
 | _=>exact (show False from h).elim
end
section
variable {X:Cx}
noncomputable def ak8 (K:ac):R2:=fun x y H Q=>∃ a b ys,x=.ref a/\y=.ref b/\SqT K H a []/\SqT K H b ys/\Q (.ref b) H
theorem ae5:OpR X (dA .Add) (ak8 X.K):=by
 intro pins s σ H x y v u Q I rx ry h
 obtain⟨a,b,ys,rfl,rfl,ha,hb,q⟩:=h
 cases rx
 cases ry
 obtain⟨its,r1,p1,_⟩:=I.tuple ha
 obtain⟨its2,r2,p2,_⟩:=I.tuple hb
 cases r1
 obtain⟨⟨c1,d1,da1,s1⟩,ho,hc,n,hd⟩:=id p1
 obtain⟨⟨c2,d2,da2,s2⟩,ho2,hc2,n2,hd2⟩:=id p2
 simp only at hc hd hc2 hd2
 subst hc hd hc2 hd2
 exact lO ⟨_,ho,rfl⟩ ⟨_,ho2,rfl⟩ jh lg fT fL (fB _ _)
   (tuple_addW0 a b _ _ n n2 d1 d2 s1 s2 rfl) ⟨ho,ho2,⟨.ref b,H,I,rfl,q⟩⟩
theorem Hx (hu:X.A.units+64<cLine):IxR X (fun x y H Q=>∃ a v,x=.ref a/\DGet H a y (some v)/\Q v H):=by
 intro value slice pins s σ H x y v u Q I rx ry h hs
 obtain⟨a,w',rfl,g,q⟩:=h
 cases rx
 exact tail_any (Nw I g) PySem.F.slot_dict_getitem.lookup (Ue (by omega) I g ry fun w1 s' I' r'=>⟨w',H,I',r',q⟩) hs
end
section
variable {prog:aS} {w:bB} {A:a_} {E:ah->al->Prop} {s:al}
end
section
variable {X:Cx} {pins:List (Addr×Obj)} {σ:St} {H:Hp} {s:al} {Q:VK}
theorem Tw:∀ {ys:List V} {us:List ah},ys.length=us.length->(∀ (i:Nat) y u,ys[i]? = some y->us[i]? = some u->RelV y u)->Vals ys us
 | [],[],_,_=>.nil
 | y::ys,u::us,hl,h=>.cons (h 0 y u rfl rfl) (Tw (by simpa using hl) fun i y u e1 e2=>h (i+1) y u (by rw [bA];exact e1) (by rw [bA];exact e2))
 | [],_::_,hl,_=>by simp at hl
 | _::_,[],hl,_=>by simp at hl
noncomputable def Jz:V->Hp->VK->Prop:=fun x H Q=>match x with
 | .int n=>n<=1000 /\ -(2 ^ 62)<=n /\ ∀ D,H D=none->Q (.ref D) (upd H D (.lst ((aw n.toNat).map fun i:Nat=>V.int (i:Int))))
 | _=>False
theorem X3 {n:Int} {t:Tok} (hc:X.calm=true) (I:Inv X pins σ H s) (hn:n<=1000) (h0:-(2 ^ 62)<=n) (q:∀ D,H D=none->Q (.ref D) (upd H D (.lst ((aw n.toNat).map fun i:Nat=>V.int (i:Int))))) :
  aJ (model X.prog X.w) X.A (call (.type "range") [.int n t]) (fun v s1=>aJ (model X.prog X.w) X.A (call (.type "list") [v]) (EP X pins σ Q) X.xe s1) X.xe s:=by
 refine call_range_1 ?_
 have zv:(s.heap.push { cls:=.type "range", data:=.fields #[.int 0 s.toks,.int n t,.int 1 (s.toks+1)] }).objs.size=s.heap.objs.size+1:=dD ..
 have hr:IsRange (s.heap.push { cls:=.type "range", data:=.fields #[.int 0 s.toks,.int n t,.int 1 (s.toks+1)] }) s.heap.objs.size 0 n 1 s.toks t (s.toks+1):=l6 ..
 have on1:∀ b o,s.heap.get? b=some o->(s.heap.push { cls:=.type "range", data:=.fields #[.int 0 s.toks,.int n t,.int 1 (s.toks+1)] }).get? b=some o:=fun b o q=>ai _ q
 generalize s.heap.push { cls:=.type "range", data:=.fields #[.int 0 s.toks,.int n t,.int 1 (s.toks+1)] }=h1 at zv hr on1 ⊢
 refine bu (n:=s.toks) (show s.toks<=s.toks+1+1 by omega) (call_list_range (n:=(n - 0).toNat) (I.ok.hd hc) hr (small_one (by omega) (by omega) (by omega) (by omega)) (rangeSize_nat _ _) (by omega) fun h' tk acc c k e it htk=>?_)
 rw [zv] at e ⊢
 rw [lG] at it
 refine⟨.ref (s.heap.objs.size+1),_,I.laid (t':=tk) (a:=s.heap.objs.size+1) (fun b o q=>k b o (on1 b o q)) (cQ _) (show ObjOk X.prog X.w _ h' _ (.lst ((aw n.toNat).map fun i:Nat=>V.int (i:Int))) from⟨?_,acc.toList,c,Tw ?_ fun i y u e1 e2=>?_,by simpa using e⟩),rfl,q _ (I.hok.fresh (cQ _))⟩
 ·rw [ae,a7]
  exact aT (show n.toNat<=1000 by omega) (by decide)
 ·rw [ae,a7,bJ,it.1]
 ·rw [cC] at e2
  obtain⟨tt,ev⟩:=it.2 i u e2
  have hi:i<n.toNat:=by
   have:=(Array.getElem?_eq_some_iff.mp e2).1
   rw [it.1] at this
   exact this
  rw [ak,dj hi] at e1
  cases e1
  exact⟨tt,by rw [ev];congr 1;omega⟩
end
inductive Dt where
 | at_ (v:V)
 | lst (l:List Dt)
 | tup (l:List Dt)
mutual
noncomputable def deq:Dt->Dt->Bool
 | .at_ v,.at_ w=>eqV v w
 | .lst xs,.lst ys=>Ek xs ys
 | .tup xs,.tup ys=>Ek xs ys
 | _,_=>false
noncomputable def Ek:List Dt->List Dt->Bool
 | [],[]=>true
 | x::xs,y::ys=>deq x y&&Ek xs ys
 | _,_=>false
end
mutual
noncomputable def dep:Dt->Nat
 | .at_ _=>0
 | .lst l=>Cm l+1
 | .tup l=>Cm l+1
noncomputable def Cm:List Dt->Nat
 | []=>0
 | x::xs=>Nat.max (dep x) (Cm xs)
end
mutual
noncomputable def At (K:ac) (H:Hp):Dt->V->Prop
 | .at_ v,x=>x=v/\Bu v=true
 | .lst ds,x=>∃ a xs,x=.ref a/\SqL K H a xs/\AtL K H ds xs
 | .tup ds,x=>∃ a xs,x=.ref a/\SqT K H a xs/\AtL K H ds xs
noncomputable def AtL (K:ac) (H:Hp):List Dt->List V->Prop
 | [],xs=>xs=[]
 | d::ds,xs=>∃ y ys,xs=y::ys/\At K H d y/\AtL K H ds ys
end
theorem AtL.length {K:ac} {H:Hp}:∀ {ds:List Dt} {xs:List V},AtL K H ds xs->xs.length=ds.length
 | [],xs,h=>by unfold AtL at h;subst h;rfl
 | d::ds,xs,h=>by
  unfold AtL at h
  obtain⟨y,ys,rfl,_,h2⟩:=h
  rw [aK,aK,AtL.length h2]
theorem Ny {v:V} (h:Bu v=true):eqV v v=true:=by
 cases v <;> first|rfl|(exact beq_self_eq_true _)|exact absurd (show false=true from h) au
mutual
theorem Eo {K:ac} {H:Hp}:∀ {d:Dt} {x:V},At K H d x->deq d d=true
 | .at_ v,x,h=>by unfold At at h;unfold deq;exact Ny h.2
 | .lst l,x,h=>by unfold At at h;obtain⟨a,xs,_,_,h⟩:=h;unfold deq;exact Gm h
 | .tup l,x,h=>by unfold At at h;obtain⟨a,xs,_,_,h⟩:=h;unfold deq;exact Gm h
theorem Gm {K:ac} {H:Hp}:∀ {ds:List Dt} {xs:List V},AtL K H ds xs->Ek ds ds=true
 | [],xs,h=>by unfold Ek;rfl
 | d::ds,xs,h=>by
  unfold AtL at h
  obtain⟨y,ys,rfl,h1,h2⟩:=h
  unfold Ek
  rw [Eo h1,Gm h2]
  rfl
end
theorem Ep:∀ {xs ys:List Dt},xs.length≠ys.length->Ek xs ys=false
 | [],[],h=>absurd rfl h
 | [],_::_,_=>by unfold Ek;rfl
 | _::_,[],_=>by unfold Ek;rfl
 | x::xs,y::ys,h=>by
  unfold Ek
  rw [Ep (xs:=xs) (ys:=ys) (fun e=>h (by rw [aK,aK,e])),f9]
theorem C1 (z:Dt):∀ {xs ys:List Dt},xs.length=ys.length->Ek xs ys=(aw xs.length).all fun j=>deq (xs.getD j z) (ys.getD j z)
 | [],[],_=>by unfold Ek;rfl
 | [],_::_,h=>by simp at h
 | _::_,[],h=>by simp at h
 | x::xs,y::ys,h=>by
  unfold Ek
  rw [aK,List.range_succ_eq_map,bS,ge,C1 z (xs:=xs) (ys:=ys) (by simpa using h)]
  rfl
section
variable {X:Cx} {pins:List (Addr×Obj)} {σ:St} {H:Hp} {s:al}
theorem Oe {a:Addr} {xs ys:List V} (I:Inv X pins σ H s) (h:SqL X.K H a xs) (h':SqT X.K H a ys):False:=by
 obtain⟨its,r,⟨o,n,e,c,_,d⟩,_⟩:=I.list h
 obtain⟨its',r',⟨o',e',c',n',d'⟩,_⟩:=I.tuple h'
 rw [e] at e';cases e'
 rw [c] at c'
 injection c' with c'
 exact absurd c' (by decide)
mutual
theorem Pj (I:Inv X pins σ H s):∀ {d d':Dt} {x:V},At X.K H d x->At X.K H d' x->d=d'
 | .at_ v,.at_ w,x,h,h'=>by unfold At at h h';rw [<- h.1,<- h'.1]
 | .at_ v,.lst l,x,h,h'=>by
  unfold At at h h'
  obtain⟨a,xs,rfl,_⟩:=h'
  rw [<- h.1] at h
  exact absurd (show false=true from h.2) au
 | .at_ v,.tup l,x,h,h'=>by
  unfold At at h h'
  obtain⟨a,xs,rfl,_⟩:=h'
  rw [<- h.1] at h
  exact absurd (show false=true from h.2) au
 | .lst l,.at_ v,x,h,h'=>by
  unfold At at h h'
  obtain⟨a,xs,rfl,_⟩:=h
  rw [<- h'.1] at h'
  exact absurd (show false=true from h'.2) au
 | .tup l,.at_ v,x,h,h'=>by
  unfold At at h h'
  obtain⟨a,xs,rfl,_⟩:=h
  rw [<- h'.1] at h'
  exact absurd (show false=true from h'.2) au
 | .lst l,.lst l',x,h,h'=>by
  unfold At at h h'
  obtain⟨a,xs,rfl,q,h⟩:=h
  obtain⟨a',xs',e,q',h'⟩:=h'
  cases e
  rw [I.list_inj q q'] at h
  rw [Lv I h h']
 | .tup l,.tup l',x,h,h'=>by
  unfold At at h h'
  obtain⟨a,xs,rfl,q,h⟩:=h
  obtain⟨a',xs',e,q',h'⟩:=h'
  cases e
  rw [I.tuple_inj q q'] at h
  rw [Lv I h h']
 | .lst l,.tup l',x,h,h'=>by
  unfold At at h h'
  obtain⟨a,xs,rfl,q,h⟩:=h
  obtain⟨a',xs',e,q',h'⟩:=h'
  cases e
  exact (Oe I q q').elim
 | .tup l,.lst l',x,h,h'=>by
  unfold At at h h'
  obtain⟨a,xs,rfl,q,h⟩:=h
  obtain⟨a',xs',e,q',h'⟩:=h'
  cases e
  exact (Oe I q' q).elim
theorem Lv (I:Inv X pins σ H s):∀ {ds ds':List Dt} {xs:List V},AtL X.K H ds xs->AtL X.K H ds' xs->ds=ds'
 | [],[],_,_,_=>rfl
 | [],_::_,_,h,h'=>by unfold AtL at h h';obtain⟨y,ys,e,_⟩:=h';rw [h] at e;cases e
 | _::_,[],_,h,h'=>by unfold AtL at h h';obtain⟨y,ys,e,_⟩:=h;rw [h'] at e;cases e
 | d::ds,d'::ds',xs,h,h'=>by
  unfold AtL at h h'
  obtain⟨y,ys,rfl,h1,h2⟩:=h
  obtain⟨y',ys',e,h1',h2'⟩:=h'
  cases e
  rw [Pj I h1 h1',Lv I h2 h2']
end
theorem K0 {A:a_} {v:V} {u:ah} {a:Addr} {its:Array ah} (f:Bu v=true) (r:RelV v u) (hl:s.heap.IsList a its) (hu:A.units<cLine):bq A s u (.ref a) false/\bq A s (.ref a) u false:=by
 cases v with
 | non=>cases r;exact⟨.none_list hl hu,.list_none hl hu⟩
 | bl b=>cases r;exact⟨.bool_list b hl hu,.list_bool b hl hu⟩
 | int i=>obtain⟨t,rfl⟩:=r;exact⟨.int_list i t hl hu,.list_int i t hl hu⟩
 | str i=>obtain⟨t,rfl⟩:=r;exact⟨.str_list i t hl hu,.list_str i t hl hu⟩
 | _=>exact absurd (show false=true from f) au
theorem Iz {A:a_} {v:V} {u:ah} {a:Addr} {its:Array ah} (f:Bu v=true) (r:RelV v u) (hl:s.heap.IsTuple a its) (hu:A.units<cLine):bq A s u (.ref a) false/\bq A s (.ref a) u false:=by
 cases v with
 | non=>cases r;exact⟨.none_tuple hl hu,.tuple_none hl hu⟩
 | bl b=>cases r;exact⟨.bool_tuple b hl hu,.tuple_bool b hl hu⟩
 | int i=>obtain⟨t,rfl⟩:=r;exact⟨.int_tuple i t hl hu,.tuple_int i t hl hu⟩
 | str i=>obtain⟨t,rfl⟩:=r;exact⟨.str_tuple i t hl hu,.tuple_str i t hl hu⟩
 | _=>exact absurd (show false=true from f) au
theorem IsTup.isTuple {h:Heap} {a:Addr} {its:Array ah} (p:kC h a its):h.IsTuple a its:=p
mutual
theorem Md (I:Inv X pins σ H s):∀ (d d':Dt) (A:a_) (x y:V) (u v:ah),At X.K H d x->At X.K H d' y->RelV x u->RelV y v->A.units+dep d<cLine->bq A s u v (deq d d')
 | .at_ p,.at_ q,A,x,y,u,v,h,h',r,r',hu=>by
  unfold At at h h';unfold deq
  obtain⟨rfl,f⟩:=h
  obtain⟨rfl,f'⟩:=h'
  exact Me r r' f f'
 | .at_ p,.lst l,A,x,y,u,v,h,h',r,r',hu=>by
  unfold At at h h';unfold deq
  obtain⟨rfl,f⟩:=h
  obtain⟨a,xs,rfl,q,_⟩:=h'
  obtain⟨its,_,pl,_⟩:=I.list q
  cases r'
  exact (K0 f r pl.isList (by omega)).1
 | .at_ p,.tup l,A,x,y,u,v,h,h',r,r',hu=>by
  unfold At at h h';unfold deq
  obtain⟨rfl,f⟩:=h
  obtain⟨a,xs,rfl,q,_⟩:=h'
  obtain⟨its,_,pl,_⟩:=I.tuple q
  cases r'
  exact (Iz f r pl (by omega)).1
 | .lst l,.at_ p,A,x,y,u,v,h,h',r,r',hu=>by
  unfold At at h h';unfold deq
  obtain⟨rfl,f⟩:=h'
  obtain⟨a,xs,rfl,q,_⟩:=h
  obtain⟨its,_,pl,_⟩:=I.list q
  cases r
  exact (K0 f r' pl.isList (by omega)).2
 | .tup l,.at_ p,A,x,y,u,v,h,h',r,r',hu=>by
  unfold At at h h';unfold deq
  obtain⟨rfl,f⟩:=h'
  obtain⟨a,xs,rfl,q,_⟩:=h
  obtain⟨its,_,pl,_⟩:=I.tuple q
  cases r
  exact (Iz f r' pl (by omega)).2
 | .lst l,.tup l',A,x,y,u,v,h,h',r,r',hu=>by
  unfold At at h h';unfold deq
  obtain⟨a,xs,rfl,q,_⟩:=h
  obtain⟨b,ys,rfl,q',_⟩:=h'
  obtain⟨its,_,pl,_⟩:=I.list q
  obtain⟨its',_,pl',_⟩:=I.tuple q'
  cases r;cases r'
  exact .list_tuple pl.isList pl' (by omega)
 | .tup l,.lst l',A,x,y,u,v,h,h',r,r',hu=>by
  unfold At at h h';unfold deq
  obtain⟨a,xs,rfl,q,_⟩:=h
  obtain⟨b,ys,rfl,q',_⟩:=h'
  obtain⟨its,_,pl,_⟩:=I.tuple q
  obtain⟨its',_,pl',_⟩:=I.list q'
  cases r;cases r'
  exact .tuple_list pl pl'.isList (by omega)
 | .lst l,.lst l',A,x,y,u,v,h,h',r,r',hu=>by
  by_cases e:x=y
  ·subst e
   have:=Pj I h h'
   rw [<- this,Eo h]
   have hx:∃ a,x=.ref a:=by unfold At at h;obtain⟨a,_,e,_⟩:=h;exact⟨a,e⟩
   obtain⟨a,rfl⟩:=hx
   cases r;cases r'
   exact .same _
  ·unfold At at h h';unfold deq
   unfold dep at hu
   obtain⟨a,xs,rfl,q,h⟩:=h
   obtain⟨b,ys,rfl,q',h'⟩:=h'
   obtain⟨its,ri,pl,_⟩:=I.list q
   obtain⟨its',ri',pl',_⟩:=I.list q'
   cases r;cases r'
   have ne:a≠b:=fun z=>e (by rw [z])
   have e1:=h.length
   have e2:=h'.length
   have e3:=ri.length
   have e4:=ri'.length
   refine .of_refs ne ?_
   by_cases hl:l.length=l'.length
   ·rw [C1 (.lst []) hl]
    have hsz:its.toArray.size=l.length:=by simp;omega
    rw [<- hsz]
    exact .lists pl.isList pl'.isList (by simp;omega) (by omega) fun j h1 h2=>by
     have:=Fw I l l' A.in1 xs ys its its' h h' ri ri' (by show A.units+1+Cm l<cLine;omega) j (by simpa using h1) (by simpa using h2)
     simpa using this
   ·rw [Ep hl]
    exact .lists_lengths pl.isList pl'.isList (by simp;omega) (by omega)
 | .tup l,.tup l',A,x,y,u,v,h,h',r,r',hu=>by
  by_cases e:x=y
  ·subst e
   have:=Pj I h h'
   rw [<- this,Eo h]
   have hx:∃ a,x=.ref a:=by unfold At at h;obtain⟨a,_,e,_⟩:=h;exact⟨a,e⟩
   obtain⟨a,rfl⟩:=hx
   cases r;cases r'
   exact .same _
  ·unfold At at h h';unfold deq
   unfold dep at hu
   obtain⟨a,xs,rfl,q,h⟩:=h
   obtain⟨b,ys,rfl,q',h'⟩:=h'
   obtain⟨its,ri,pl,_⟩:=I.tuple q
   obtain⟨its',ri',pl',_⟩:=I.tuple q'
   cases r;cases r'
   have ne:a≠b:=fun z=>e (by rw [z])
   have e1:=h.length
   have e2:=h'.length
   have e3:=ri.length
   have e4:=ri'.length
   refine .of_refs ne ?_
   have T:=iK (A:=A) (s:=s) (e:=fun j=>deq (l.getD j (.lst [])) (l'.getD j (.lst []))) pl pl' (by omega) fun j h1 h2=>by
     have:=Fw I l l' A.in1 xs ys its its' h h' ri ri' (by show A.units+1+Cm l<cLine;omega) j (by simpa using h1) (by simpa using h2)
     simpa using this
   by_cases hl:l.length=l'.length
   ·rw [C1 (.lst []) hl]
    have hsz:its.toArray.size=l.length:=by simp;omega
    have hsz':its'.toArray.size=l.length:=by simp;omega
    rw [hsz,hsz',lK,beq_self_eq_true,fF] at T
    exact T
   ·rw [Ep hl]
    have hne:(its.toArray.size==its'.toArray.size)=false:=by
     rw [beq_eq_false_iff_ne];simp;omega
    rw [hne,f9] at T
    exact T
theorem Fw (I:Inv X pins σ H s):∀ (ds ds':List Dt) (A:a_) (xs ys:List V) (us vs:List ah),AtL X.K H ds xs->AtL X.K H ds' ys->Vals xs us->Vals ys vs->A.units+Cm ds<cLine ->
  ∀ (j:Nat) (h1:j<us.length) (h2:j<vs.length),bq A s us[j] vs[j] (deq (ds.getD j (.lst [])) (ds'.getD j (.lst [])))
 | [],_,A,xs,ys,us,vs,h,h',r,r',hu=>fun j h1 h2=>by
  unfold AtL at h
  subst h
  cases r
  cases h1
 | _::_,[],A,xs,ys,us,vs,h,h',r,r',hu=>fun j h1 h2=>by
  unfold AtL at h'
  subst h'
  cases r'
  cases h2
 | d::ds,d'::ds',A,xs,ys,us,vs,h,h',r,r',hu=>fun j h1 h2=>by
  unfold AtL at h h'
  obtain⟨y,ys,rfl,q1,q2⟩:=h
  obtain⟨z,zs,rfl,q1',q2'⟩:=h'
  cases r with
  | cons r1 r2=>
   cases r' with
   | cons r1' r2'=>
    unfold Cm at hu
    have m1:dep d<=Nat.max (dep d) (Cm ds):=jI _ _
    have m2:Cm ds<=Nat.max (dep d) (Cm ds):=jf _ _
    cases j with
    | zero=>exact Md I d d' A _ _ _ _ q1 q1' r1 r1' (by omega)
    | succ j=>exact Fw I ds ds' A _ _ _ _ q2 q2' r2 r2' (by omega) j (by simpa using h1) (by simpa using h2)
end
theorem E8 {K:ac} {d:Dt} {a:Addr} (h:At K H d (.ref a)):(∃ l xs,d=.lst l/\SqL K H a xs/\AtL K H l xs)\/(∃ l xs,d=.tup l/\SqT K H a xs/\AtL K H l xs):=by
 cases d with
 | at_ v=>
  unfold At at h
  rw [<- h.1] at h
  exact absurd (show false=true from h.2) au
 | lst l=>unfold At at h;obtain⟨b,xs,e,q,h⟩:=h;cases e;exact .inl ⟨l,xs,rfl,q,h⟩
 | tup l=>unfold At at h;obtain⟨b,xs,e,q,h⟩:=h;cases e;exact .inr ⟨l,xs,rfl,q,h⟩
theorem Od {K:ac} {d:Dt} {x:V} (h:At K H d x) (f:∀ a,x≠.ref a):d=.at_ x/\Bu x=true:=by
 cases d with
 | at_ v=>unfold At at h;rw [h.1];exact⟨rfl,h.2⟩
 | lst l=>unfold At at h;obtain⟨b,xs,e,_⟩:=h;exact absurd e (f b)
 | tup l=>unfold At at h;obtain⟨b,xs,e,_⟩:=h;exact absurd e (f b)
theorem bh3 (I:Inv X pins σ H s) {A:a_} {d d':Dt} {a b:Addr} (h:At X.K H d (.ref a)) (h':At X.K H d' (.ref b)) (hu:A.units+dep d<cLine):fZ A s (.ref a) (.ref b) (deq d d')/\eI A s (.ref a) (.ref b) (!deq d d'):=by
 rcases E8 h with ⟨l,xs,rfl,q,h⟩|⟨l,xs,rfl,q,h⟩
 ·rcases E8 h' with ⟨l',ys,rfl,q',h'⟩|⟨l',ys,rfl,q',h'⟩
  ·unfold deq
   unfold dep at hu
   obtain⟨its,ri,pl,_⟩:=I.list q
   obtain⟨its',ri',pl',_⟩:=I.list q'
   have e1:=h.length
   have e2:=h'.length
   have e3:=ri.length
   have e4:=ri'.length
   have it:∀ j (h1:j<its.toArray.size) (h2:j<its'.toArray.size),bq A.in1 s its.toArray[j] its'.toArray[j] (deq (l.getD j (.lst [])) (l'.getD j (.lst []))):=fun j h1 h2=>by
    have:=Fw I l l' A.in1 xs ys its its' h h' ri ri' (by show A.units+1+Cm l<cLine;omega) j (by simpa using h1) (by simpa using h2)
    simpa using this
   by_cases hl:l.length=l'.length
   ·rw [C1 (.lst []) hl]
    have hsz:its.toArray.size=l.length:=by simp;omega
    rw [<- hsz]
    exact⟨.lists pl.isList pl'.isList (by simp;omega) (by omega) it,.lists pl.isList pl'.isList (by simp;omega) (by omega) it⟩
   ·rw [Ep hl]
    exact⟨.lists_lengths pl.isList pl'.isList (by simp;omega) (by omega),.lists_lengths pl.isList pl'.isList (by simp;omega) (by omega)⟩
  ·unfold deq
   obtain⟨its,ri,pl,_⟩:=I.list q
   obtain⟨its',ri',pl',_⟩:=I.tuple q'
   exact⟨.list_tuple pl.isList pl' (by omega),.list_tuple pl.isList pl' (by omega)⟩
 ·rcases E8 h' with ⟨l',ys,rfl,q',h'⟩|⟨l',ys,rfl,q',h'⟩
  ·unfold deq
   obtain⟨its,ri,pl,_⟩:=I.tuple q
   obtain⟨its',ri',pl',_⟩:=I.list q'
   exact⟨.tuple_list pl pl'.isList (by omega),.tuple_list pl pl'.isList (by omega)⟩
  ·unfold deq
   unfold dep at hu
   obtain⟨its,ri,pl,_⟩:=I.tuple q
   obtain⟨its',ri',pl',_⟩:=I.tuple q'
   have e1:=h.length
   have e2:=h'.length
   have e3:=ri.length
   have e4:=ri'.length
   have it:∀ j (h1:j<its.toArray.size) (h2:j<its'.toArray.size),bq A.in1 s its.toArray[j] its'.toArray[j] (deq (l.getD j (.lst [])) (l'.getD j (.lst []))):=fun j h1 h2=>by
    have:=Fw I l l' A.in1 xs ys its its' h h' ri ri' (by show A.units+1+Cm l<cLine;omega) j (by simpa using h1) (by simpa using h2)
    simpa using this
   have T:=iK pl pl' (by omega) it
   have T':=SeqAt.RcNeAt.tuples pl pl' (by omega) it
   by_cases hl:l.length=l'.length
   ·rw [C1 (.lst []) hl]
    have hsz:its.toArray.size=l.length:=by simp;omega
    have hsz':its'.toArray.size=l.length:=by simp;omega
    rw [hsz,hsz',lK,beq_self_eq_true,fF] at T T'
    exact⟨T,T'⟩
   ·rw [Ep hl]
    have hne:(its.toArray.size==its'.toArray.size)=false:=by
     rw [beq_eq_false_iff_ne];simp;omega
    rw [hne,f9] at T T'
    exact⟨T,T'⟩
theorem Ti (I:Inv X pins σ H s) {A:a_} {d:Dt} {a:Addr} {v:V} {u:ah} (h:At X.K H d (.ref a)) (f:Bu v=true) (r:RelV v u) (hu:A.units<cLine) :
  fZ A s (.ref a) u false/\eI A s (.ref a) u true/\fZ A s u (.ref a) false/\eI A s u (.ref a) true:=by
 rcases E8 h with ⟨l,xs,rfl,q,h⟩|⟨l,xs,rfl,q,h⟩
 ·obtain⟨its,ri,pl,_⟩:=I.list q
  cases v with
  | non=>cases r;exact⟨.list_none pl.isList hu,.list_none pl.isList hu,.none_list pl.isList hu,.none_list pl.isList hu⟩
  | bl b=>cases r;exact⟨.list_bool b pl.isList hu,.list_bool b pl.isList hu,.bool_list b pl.isList hu,.bool_list b pl.isList hu⟩
  | int b=>obtain⟨t,rfl⟩:=r;exact⟨.list_int b t pl.isList hu,.list_int b t pl.isList hu,.int_list b t pl.isList hu,.int_list b t pl.isList hu⟩
  | str b=>obtain⟨t,rfl⟩:=r;exact⟨.list_str b t pl.isList hu,.list_str b t pl.isList hu,.str_list b t pl.isList hu,.str_list b t pl.isList hu⟩
  | _=>exact absurd (show false=true from f) au
 ·obtain⟨its,ri,pl,_⟩:=I.tuple q
  cases v with
  | non=>cases r;exact⟨.tuple_none pl hu,.tuple_none pl hu,.none_tuple pl hu,.none_tuple pl hu⟩
  | bl b=>cases r;exact⟨.tuple_bool b pl hu,.tuple_bool b pl hu,.bool_tuple b pl hu,.bool_tuple b pl hu⟩
  | int b=>obtain⟨t,rfl⟩:=r;exact⟨.tuple_int b t pl hu,.tuple_int b t pl hu,.int_tuple b t pl hu,.int_tuple b t pl hu⟩
  | str b=>obtain⟨t,rfl⟩:=r;exact⟨.tuple_str b t pl hu,.tuple_str b t pl hu,.str_tuple b t pl hu,.str_tuple b t pl hu⟩
  | _=>exact absurd (show false=true from f) au
noncomputable def Zb (K:ac) (neg:Bool):R2:=fun x y H Q=>∃ d d',At K H d x/\At K H d' y/\dep d<=40/\Q (.bl (if neg then !deq d d' else deq d d')) H
theorem Zh (I:Inv X pins σ H s) {A:a_} {d d':Dt} {x y:V} {u v:ah} (h:At X.K H d x) (h':At X.K H d' y) (r:RelV x u) (r':RelV y v) (hr:(∃ a,x=.ref a) \/ ∃ b,y=.ref b) (hu:A.units+dep d<cLine) :
  fZ A s u v (deq d d')/\eI A s u v (!deq d d'):=by
 by_cases hx:∃ a,x=.ref a
 ·obtain⟨a,rfl⟩:=hx
  cases r
  by_cases hy:∃ b,y=.ref b
  ·obtain⟨b,rfl⟩:=hy
   cases r'
   exact bh3 I h h' hu
  ·obtain⟨rfl,f⟩:=Od h' (fun b e=>hy ⟨b,e⟩)
   obtain⟨q1,q2,_⟩:=Ti I h f r' (show A.units<cLine by omega)
   have e:deq d (.at_ y)=false:=by
    rcases E8 h with ⟨l,xs,rfl,_⟩|⟨l,xs,rfl,_⟩ <;> (unfold deq;rfl)
   rw [e]
   exact⟨q1,q2⟩
 ·have hy:∃ b,y=.ref b:=hr.resolve_left hx
  obtain⟨b,rfl⟩:=hy
  cases r'
  obtain⟨rfl,f⟩:=Od h (fun b e=>hx ⟨b,e⟩)
  obtain⟨_,_,q1,q2⟩:=Ti I h' f r (show A.units<cLine by omega)
  have e:deq (.at_ x) d'=false:=by
   rcases E8 h' with ⟨l,xs,rfl,_⟩|⟨l,xs,rfl,_⟩ <;> (unfold deq;rfl)
  rw [e]
  exact⟨q1,q2⟩
theorem Qn (hu:X.A.units+64<cLine) {x y:V} {u v:ah} {Q:VK} (I:Inv X pins σ H s) (rx:RelV x u) (ry:RelV y v) (hr:(∃ a,x=.ref a) \/ ∃ b,y=.ref b) (h:Zb X.K false x y H Q):aJ (model X.prog X.w) X.A (b5 .Eq u v) (EP X pins σ Q) X.xe s:=by
 obtain⟨d,d',h1,h2,hd,q⟩:=h
 exact (Zh I h1 h2 rx ry hr (A:=X.A) (by omega)).1 _ _ _ _ ⟨.bl _,H,I,rfl,q⟩
theorem Qo (hu:X.A.units+64<cLine) {x y:V} {u v:ah} {Q:VK} (I:Inv X pins σ H s) (rx:RelV x u) (ry:RelV y v) (hr:(∃ a,x=.ref a) \/ ∃ b,y=.ref b) (h:Zb X.K true x y H Q):aJ (model X.prog X.w) X.A (b5 .NotEq u v) (EP X pins σ Q) X.xe s:=by
 obtain⟨d,d',h1,h2,hd,q⟩:=h
 exact (Zh I h1 h2 rx ry hr (A:=X.A) (by omega)).2 _ _ _ _ ⟨.bl _,H,I,rfl,q⟩
end
open AutoSeq1 (wpAny_loadPart')
open MeetsSeq MeetsSeq2 MeetsSeq3 SeqRoads2
noncomputable def Pg (P:aS) (w:bB) (A:a_) (s:al) (y x:ah) (b:Bool):Prop:=∀ (E:ah->al->Prop) (Q:Bool->al->Prop),Q b s->aJ (model P w) A (eqBool y x) Q E s
section
variable {P:aS} {w:bB} {l b:Addr} {items items2:Array ah} {n n2:Nat} {dd dd2:Option Addr} {sl sl2:Array (Option ah)}
noncomputable abbrev aj2 (l b:Addr) (items items2:Array ah) (n n2:Nat) (dd dd2:Option Addr) (sl sl2:Array (Option ah)) (P:aS) (w:bB) (r:Bool):bN:=fun A R s=>
 s.heap.get? l=some { cls:=.type "list", dict:=dd,data:=.seq items n,slots:=sl }/\s.heap.get? b=some { cls:=.type "list", dict:=dd2,data:=.seq items2 n2,slots:=sl2 } /\
    (∀ j (h1:j<items.size) (h2:j<items2.size),Pg P w A.in1 s items[j] items2[j] true)/\R (.ok (.ret (.bool r))) s
theorem Uj (hsz:items.size=items2.size) (k:Nat):∀ i:Nat,items.size - i=k->l_ P w (aB.«list.__eq__.loop» ⟨[.ref l,.ref b,dN i,dN 2],[]⟩) (aj2 l b items items2 n n2 dd dd2 sl sl2 P w true):=by
 induction k with
 | zero=>
  intro i hk A R s h
  obtain⟨hp,g,d,tk,os⟩:=s;obtain⟨hl,hb,he,h⟩:=h
  wp_walk using bn hl,bn hb
  have hi1:items[((i:Nat):Int).toNat]? = none:=by simp;omega
  have hi2:items2[((i:Nat):Int).toNat]? = none:=by simp;omega
  rw [hi1,hi2]
  wp_walk using bn hl,bn hb
  show R (.ok (.ret (.bool (items.size==items2.size)))) _
  rw [hsz]
  simpa using h
 | succ k ih=>
  intro i hk A R s h
  obtain⟨hp,g,d,tk,os⟩:=s;obtain⟨hl,hb,he,h⟩:=h
  wp_walk using bn hl,bn hb
  have hlt:i<items.size:=by omega
  have hlt2:i<items2.size:=by omega
  have hi1:items[((i:Nat):Int).toNat]? = some items[i]:=by simp [hlt]
  have hi2:items2[((i:Nat):Int).toNat]? = some items2[i]:=by simp [hlt2]
  have hc:((i:Int)+1)=((i+1:Nat):Int):=by push_cast;rfl
  rw [hi1,hi2]
  refine ag (he i hlt hlt2 _ _ ?_)
  wp_walk
  rw [hc]
  exact⟨gL dS _,cX i7 (by
   rw [cH dS _]
   exact ih (i+1) (by omega) A R _ ⟨hl,hb,he,h⟩)⟩
theorem U5 (hsz:items.size=items2.size) (k:Nat):∀ i:Nat,items.size - i=k->l_ P w (aB.«list.__eq__.loop» ⟨[.ref l,.ref b,dN i,dN 3],[]⟩) (aj2 l b items items2 n n2 dd dd2 sl sl2 P w false):=by
 induction k with
 | zero=>
  intro i hk A R s h
  obtain⟨hp,g,d,tk,os⟩:=s;obtain⟨hl,hb,he,h⟩:=h
  wp_walk using bn hl,bn hb
  have hi1:items[((i:Nat):Int).toNat]? = none:=by simp;omega
  have hi2:items2[((i:Nat):Int).toNat]? = none:=by simp;omega
  rw [hi1,hi2]
  wp_walk using bn hl,bn hb
  show R (.ok (.ret (.bool (items.size != items2.size)))) _
  rw [hsz]
  simpa using h
 | succ k ih=>
  intro i hk A R s h
  obtain⟨hp,g,d,tk,os⟩:=s;obtain⟨hl,hb,he,h⟩:=h
  wp_walk using bn hl,bn hb
  have hlt:i<items.size:=by omega
  have hlt2:i<items2.size:=by omega
  have hi1:items[((i:Nat):Int).toNat]? = some items[i]:=by simp [hlt]
  have hi2:items2[((i:Nat):Int).toNat]? = some items2[i]:=by simp [hlt2]
  have hc:((i:Int)+1)=((i+1:Nat):Int):=by push_cast;rfl
  rw [hi1,hi2]
  refine ag (he i hlt hlt2 _ _ ?_)
  wp_walk
  rw [hc]
  exact⟨gL dS _,cX i7 (by
   rw [cH dS _]
   exact ih (i+1) (by omega) A R _ ⟨hl,hb,he,h⟩)⟩
theorem Uv (hsz:items.size=items2.size):l_ P w (aB.«list.__eq__» ⟨[.ref l,.ref b],[]⟩) (aj2 l b items items2 n n2 dd dd2 sl sl2 P w true):=by
 intro A R s h
 obtain⟨hp,g,d,tk,os⟩:=s;obtain⟨hl,hb,he,h⟩:=h
 have f3:=jm
 have hne:¬ (items.size != items2.size)=true:=by simp [hsz]
 wp_walk using bn hl,bn hb
 exact⟨gL dS _,cX i7 (by
  rw [cH dS _]
  exact Uj hsz _ 0 rfl A R _ ⟨hl,hb,he,h⟩)⟩
theorem Uw (hsz:items.size=items2.size):l_ P w (aB.«list.__ne__» ⟨[.ref l,.ref b],[]⟩) (aj2 l b items items2 n n2 dd dd2 sl sl2 P w false):=by
 intro A R s h
 obtain⟨hp,g,d,tk,os⟩:=s;obtain⟨hl,hb,he,h⟩:=h
 have f3:=jm
 have hne:¬ (items.size != items2.size)=true:=by simp [hsz]
 wp_walk using bn hl,bn hb
 exact⟨gL dS _,cX i7 (by
  rw [cH dS _]
  exact U5 hsz _ 0 rfl A R _ ⟨hl,hb,he,h⟩)⟩
theorem Jn {A:a_} {E:ah->al->Prop} {s:al} {Q:ah->al->Prop} (hl:s.heap.IsList l items) (hb:s.heap.IsList b items2) (hsz:items.size=items2.size) (hu:A.units<cLine) (he:∀ j (h1:j<items.size) (h2:j<items2.size),Pg P w A.in1 s items[j] items2[j] true) :
  (Q (.bool true) s->aJ (model P w) A (b5 .Eq (.ref l) (.ref b)) Q E s)/\(Q (.bool false) s->aJ (model P w) A (b5 .NotEq (.ref l) (.ref b)) Q E s):=by
 obtain⟨⟨cls,dd,data,sl⟩,ho,hc,n,hd⟩:=id hl
 obtain⟨⟨cls2,dd2,data2,sl2⟩,ho2,hc2,n2,hd2⟩:=id hb
 simp only at hc hd hc2 hd2
 subst hc hd hc2 hd2
 have t1:s.TypeIs (.ref l) "list" := ⟨_,ho,rfl⟩
 have t2:s.TypeIs (.ref b) "list" := ⟨_,ho2,rfl⟩
 refine⟨fun h=>?_,fun h=>?_⟩
 ·exact eN (op:=.Eq) t1 t2 F.slot_list_eq (eJ F.slot_list_eq t1 F.entry_list_eq (F.args_list_eq_2 _ _) (Uv (n:=n) (n2:=n2) (dd:=dd) (dd2:=dd2) (sl:=sl) (sl2:=sl2) hsz) ⟨ho,ho2,he,show gO true≠gE/\Q (.bool true) s from⟨(fun x=>nomatch x),h⟩⟩) hu
 ·exact eN (op:=.NotEq) t1 t2 F.slot_list_ne (eJ F.slot_list_ne t1 F.entry_list_ne (F.args_list_ne_2 _ _) (Uw (n:=n) (n2:=n2) (dd:=dd) (dd2:=dd2) (sl:=sl) (sl2:=sl2) hsz) ⟨ho,ho2,he,show gO false≠gE/\Q (.bool false) s from⟨(fun x=>nomatch x),h⟩⟩) hu
end
section
variable {P:aS} {w:bB}
theorem Rj {l b:Addr} {items items2:Array ah} {n n2:Nat} {dd dd2:Option Addr} {sl sl2:Array (Option ah)} (hsz:items.size=items2.size) :
  l_ P w (aB.«tuple.__ne__» ⟨[.ref l,.ref b],[]⟩)
   (fun A R s=>s.heap.get? l=some { cls:=.type "tuple", dict:=dd,data:=.seq items n,slots:=sl }/\s.heap.get? b=some { cls:=.type "tuple", dict:=dd2,data:=.seq items2 n2,slots:=sl2 } /\
    (∀ j (h1:j<items.size) (h2:j<items2.size),Pg P w A.in1 s items[j] items2[j] true)/\R (.ok (.ret (.bool false))) s):=by
 intro A R s h
 obtain⟨hp,g,d,tk,os⟩:=s;obtain⟨hl,hb,he,h⟩:=h
 have f2:=AutoSeq1.sub_tuple_tuple
 have hZ:(items.toList.zip items2.toList).length=min items.size items2.size:=by simp
 wp_walk using bn hl,bn hb,ji _ (fun rest b s'=>b.1=none/\s'=⟨hp,g,d,tk,os⟩ /\ ∃ i,rest=(items.toList.zip items2.toList).drop i) _
 case turn=>
  rintro⟨y,x⟩ rest b s' ⟨hb',rfl,i,hz⟩
  have hlt:i<(items.toList.zip items2.toList).length:=by
   rcases Nat.lt_or_ge i (items.toList.zip items2.toList).length with h'|h'
   ·exact h'
   ·rw [List.drop_of_length_le h'] at hz;cases hz
  have hm:i<min items.size items2.size:=hZ▸hlt
  have h1:i<items.size:=aD hm (Nat.min_le_left _ _)
  have h2:i<items2.size:=aD hm (Nat.min_le_right _ _)
  rw [List.drop_eq_getElem_cons hlt] at hz
  injection hz with hyx hrest
  have hy:y=items[i]:=by have:=congrArg lV hyx;simpa using this
  have hx:x=items2[i]:=by have:=congrArg Prod.snd hyx;simpa using this
  subst hy hx
  refine ag (he i h1 h2 _ _ ?_)
  wp_walk
  exact⟨rfl,rfl,i+1,hrest⟩
 case fin=>
  rintro⟨b1,b2⟩ s' ⟨hb',rfl,i,hz⟩
  simp only at hb'
  subst hb'
  wp_walk
  simpa [Builtin.Tuple.tupleCompareSizes,bne,hsz] using h
 case h=>exact⟨rfl,rfl,0,rfl⟩
theorem Vx {A:a_} {E:ah->al->Prop} {s:al} {Q:ah->al->Prop} {l b:Addr} {items items2:Array ah} (hl:s.heap.IsTuple l items) (hb:s.heap.IsTuple b items2) (hsz:items.size=items2.size) (hu:A.units<cLine) (he:∀ j (h1:j<items.size) (h2:j<items2.size),Pg P w A.in1 s items[j] items2[j] true) (h:Q (.bool false) s) :
  aJ (model P w) A (b5 .NotEq (.ref l) (.ref b)) Q E s:=by
 obtain⟨⟨cls,dd,data,sl⟩,ho,hc,n,hd⟩:=id hl
 obtain⟨⟨cls2,dd2,data2,sl2⟩,ho2,hc2,n2,hd2⟩:=id hb
 simp only at hc hd hc2 hd2
 subst hc hd hc2 hd2
 have t1:s.TypeIs (.ref l) "tuple" := ⟨_,ho,rfl⟩
 have t2:s.TypeIs (.ref b) "tuple" := ⟨_,ho2,rfl⟩
 exact eN (op:=.NotEq) t1 t2 F.slot_tuple_ne (eJ F.slot_tuple_ne t1 F.entry_tuple_ne (F.args_tuple_ne_2 _ _) (Rj (n:=n) (n2:=n2) (dd:=dd) (dd2:=dd2) (sl:=sl) (sl2:=sl2) hsz) ⟨ho,ho2,he,show gO false≠gE/\Q (.bool false) s from⟨(fun x=>nomatch x),h⟩⟩) hu
end
noncomputable def Nh (K:ac) (H:Hp) (a b:Addr):Prop:=∃ (kvs kvs':List (Key×V)) (ds:List Dt),Rd H a (.dK kvs)/\Rd H b (.dK kvs')/\kvs.map (·.1)=kvs'.map (·.1)/\AtL K H ds (kvs.map (·.2))/\AtL K H ds (kvs'.map (·.2))/\Cm ds<=40
noncomputable def Wy (K:ac) (H:Hp) (x y:V):Prop:=(∃ d,At K H d x/\At K H d y/\dep d<=30) \/ ∃ a b,x=.ref a/\y=.ref b/\Nh K H a b
noncomputable def aj7 (K:ac) (H:Hp) (x y:V):Prop:=Wy K H x y \/ ∃ a b xs ys,x=.ref a/\y=.ref b/\SqL K H a xs/\SqL K H b ys/\xs.length=ys.length /\ ∀ (i:Nat) x y,xs[i]? = some x->ys[i]? = some y->Wy K H x y
noncomputable def a20 (K:ac) (neg:Bool):R2:=fun x y H Q=>match x,y with
 | .ref a,.ref b=>(Nh K H a b/\Q (.bl (!neg)) H)\/(∃ kvs,Rd H a (.dK kvs)/\Rd H b (.dK [])/\Q (.bl (if neg then !kvs.isEmpty else kvs.isEmpty)) H) \/
   (∃ xs ys,SqL K H a xs/\SqL K H b ys/\xs.length=ys.length/\(∀ (i:Nat) x y,xs[i]? = some x->ys[i]? = some y -> ∃ a b,x=.ref a/\y=.ref b/\Nh K H a b)/\Q (.bl (!neg)) H) \/
   (neg=true /\ ∃ xs ys,SqT K H a xs/\SqT K H b ys/\xs.length=ys.length/\(∀ (i:Nat) x y,xs[i]? = some x->ys[i]? = some y->aj7 K H x y)/\Q (.bl false) H) \/
   (∃ xs ys,SqL K H a xs/\SqL K H b ys/\xs.length≠ys.length/\Q (.bl neg) H)
 | _,_=>False
theorem Ls {K:ac} {H:Hp}:∀ {ds:List Dt} {xs:List V} {i:Nat} {x:V},AtL K H ds xs->xs[i]? = some x -> ∃ d,ds[i]? = some d/\At K H d x
 | [],xs,i,x,h,e=>by unfold AtL at h;subst h;simp at e
 | d::ds,xs,0,x,h,e=>by
  unfold AtL at h
  obtain⟨y,ys,rfl,h1,_⟩:=h
  simp at e
  subst e
  exact⟨d,rfl,h1⟩
 | d::ds,xs,i+1,x,h,e=>by
  unfold AtL at h
  obtain⟨y,ys,rfl,_,h2⟩:=h
  obtain⟨d',e1,e2⟩:=Ls h2 (by simpa using e)
  exact⟨d',by simpa using e1,e2⟩
theorem Nt:∀ {ds:List Dt} {i:Nat} {d:Dt},ds[i]? = some d->dep d<=Cm ds
 | [],_,_,h=>by simp at h
 | x::ds,0,d,h=>by
  simp at h
  subst h
  exact jI _ _
 | x::ds,i+1,d,h=>aT (Nt (ds:=ds) (i:=i) (by simpa using h)) (jf _ _)
theorem N0 {A:a_} {s:al} {kb:List (Key×ah)}:∀ {l:List (Key×ah)},(∀ p∈l,∃ y,g6 kb p.1=some y/\bq A s p.2 y true)->gT A s kb l true
 | [],_=>.nil
 | (k,v)::l,h=>by
  obtain⟨y,h1,h2⟩:=h (k,v) aQ
  exact .hit (e:=true) (b:=true) h1 h2 (N0 fun p hp=>h p (ay _ hp))
theorem aa3 {κ:Type} [DecidableEq κ]:∀ {kvs:List (κ×V)} {i:Nat} {k:κ} {v:V},(kvs.map (·.1)).Nodup->kvs[i]? = some (k,v)->Bs kvs k=some v
 | [],i,k,v,_,h=>by simp at h
 | p::r,0,k,v,_,h=>by
  simp at h
  subst h
  exact Dx rfl
 | p::r,i+1,k,v,nd,h=>by
  rw [aY,bM] at nd
  have h:r[i]? = some (k,v):=by simpa using h
  rw [Cp (fun e=>nd.1 (by rw [e];exact List.mem_map.mpr ⟨_,am h,rfl⟩))]
  exact aa3 nd.2 h
section
variable {X:Cx} {pins:List (Addr×Obj)} {σ:St} {H:Hp} {s:al}
theorem Sk:∀ {kvs:List (Key×V)} {vs:List (Key×ah)} {i:Nat} {k:Key} {u:ah},KV kvs vs->vs[i]? = some (k,u) -> ∃ v,kvs[i]? = some (k,v)/\RelV v u
 | _,_,0,k,u,.cons (a:=p) r _,e=>by
  simp only [c9,eW] at e
  subst e
  exact⟨p.2,congrArg some (Prod.ext r.1 rfl),r.2⟩
 | _,_,i+1,k,u,.cons r t,e=>by
  simp only [bA] at e ⊢
  exact Sk t e
theorem G4 {A:a_} {a b:Addr} (I:Inv X pins σ H s) (h:Nh X.K H a b) (hu:A.units+40<cLine):∃ ka kb,(a==cI)=false/\(b==cI)=false/\s.heap.DictOf (A0 X.prog X.w) a ka/\s.heap.DictOf (A0 X.prog X.w) b kb/\ka.length=kb.length/\gT A s kb ka true:=by
 obtain⟨kvs,kvs',ds,h1,h2,hk,t1,t2,hd⟩:=h
 obtain⟨_,z1,ka,r1,d1⟩:=B1 I.hok h1
 obtain⟨_,z2,kb,r2,d2⟩:=B1 I.hok h2
 have nd:(kvs'.map (·.1)).Nodup:=by
  rw [r2.keys]
  obtain⟨_,_,_,_,_,_,_,_,nd⟩:=id d2
  exact nd
 have len:kvs.length=kvs'.length:=by have:=congrArg cg hk;simpa using this
 refine⟨ka,kb,z1,z2,d1,d2,by rw [<- r1.length,<- r2.length,len],N0 fun p hp=>?_⟩
 obtain⟨i,hi⟩:=List.mem_iff_getElem?.mp hp
 obtain⟨k,u⟩:=p
 obtain⟨x,hx,rx⟩:=Sk r1 hi
 have hi':i<kvs'.length:=by rw [<- len];exact (List.getElem?_eq_some_iff.mp hx).1
 obtain⟨⟨k',x'⟩,hx'⟩:∃ q,kvs'[i]? = some q:=⟨_,af hi'⟩
 have ek:k'=k:=by
  have e1:(kvs.map (·.1))[i]? = some k:=by rw [ak,hx];rfl
  have e2:(kvs'.map (·.1))[i]? = some k':=by rw [ak,hx'];rfl
  rw [hk,e2] at e1
  exact av e1
 subst ek
 have hv:=r2.val k'
 rw [aa3 nd hx'] at hv
 obtain⟨y,hy,ry⟩:∃ y,g6 kb k'=some y/\RelV x' y:=by
  cases e:g6 kb k' with
  | none=>rw [e] at hv;cases hv
  | some y=>rw [e] at hv;exact⟨y,rfl,hv⟩
 obtain⟨d,hd1,a1⟩:=Ls t1 (i:=i) (x:=x) (by rw [ak,hx];rfl)
 obtain⟨d',hd2,a2⟩:=Ls t2 (i:=i) (x:=x') (by rw [ak,hx'];rfl)
 rw [hd1] at hd2
 cases hd2
 have dl:=Nt hd1
 refine⟨y,hy,?_⟩
 have:=Md I d d A x x' u y a1 a2 rx ry (by omega)
 rwa [Eo a1] at this
theorem M1 {A:a_} {a b:Addr} (I:Inv X pins σ H s) (h:Nh X.K H a b) (hu:A.units+41<cLine):Pg X.prog X.w A s (.ref a) (.ref b) true:=by
 intro E Q hq
 by_cases e:a=b
 ·subst e
  exact jS _ _ _ _ _ hq
 ·obtain⟨ka,kb,z1,z2,d1,d2,len,hits⟩:=G4 (A:=A.in1) I h (by show A.units+1+40<cLine;omega)
  unfold eqBool
  refine bE ?_
  refine wpAny_ite_split (fun hab=>absurd (by have:=ck hab;injection this) e) (fun _=>?_)
  refine ag (ij z1 z2 d1 d2 (by omega) (fun _=>hits) ?_)
  rw [len,beq_self_eq_true]
  exact cR hq
theorem Ot {A:a_} {x y:V} {u v:ah} (I:Inv X pins σ H s) (h:Wy X.K H x y) (rx:RelV x u) (ry:RelV y v) (hu:A.units+41<cLine):Pg X.prog X.w A s u v true:=by
 rcases h with ⟨d,a1,a2,hd⟩|⟨a,b,rfl,rfl,sd⟩
 ·have:=Md I d d A x y u v a1 a2 rx ry (by omega)
  rw [Eo a1] at this
  exact fun E Q hq=>this _ _ E Q hq
 ·cases rx;cases ry
  exact M1 I sd hu
theorem Zi {A:a_} {x y:V} {u v:ah} (I:Inv X pins σ H s) (h:aj7 X.K H x y) (rx:RelV x u) (ry:RelV y v) (hu:A.units+42<cLine):Pg X.prog X.w A s u v true:=by
 rcases h with h|⟨a,b,xs,ys,rfl,rfl,h1,h2,len,h3⟩
 ·exact Ot I h rx ry (by omega)
 ·cases rx;cases ry
  intro E Q hq
  by_cases e:a=b
  ·subst e
   exact jS _ _ _ _ _ hq
  ·obtain⟨its,ri,pl,_⟩:=I.list h1
   obtain⟨its',ri',pl',_⟩:=I.list h2
   have e3:=ri.length
   have e4:=ri'.length
   unfold eqBool
   refine bE ?_
   refine wpAny_ite_split (fun hab=>absurd (by have:=ck hab;injection this) e) (fun _=>?_)
   refine ag ((Jn pl.isList pl'.isList (by simp;omega) (by omega) fun j j1 j2=>?_).1 (cR hq))
   have j1:j<its.length:=by simpa using j1
   have j2:j<its'.length:=by simpa using j2
   obtain⟨u1,g1,r1⟩:=ri.get (af (show j<xs.length by omega))
   obtain⟨u2,g2,r2⟩:=ri'.get (af (show j<ys.length by omega))
   have f1:its[j]=u1:=by rw [af j1] at g1;exact av g1
   have f2:its'[j]=u2:=by rw [af j2] at g2;exact av g2
   simp only [e_]
   rw [f1,f2]
   exact Ot I (h3 j _ _ (af (by omega)) (af (by omega))) r1 r2 (by show A.units+1+41<cLine;omega)
theorem aw4 (hu:X.A.units+64<cLine) {x y:V} {u v:ah} {Q:VK} (I:Inv X pins σ H s) (rx:RelV x u) (ry:RelV y v) (h:a20 X.K false x y H Q):aJ (model X.prog X.w) X.A (b5 .Eq u v) (EP X pins σ Q) X.xe s:=by
 cases x <;> cases y <;> first|exact (show False from h).elim|skip
 cases rx;cases ry
 rcases h with ⟨h,q⟩|⟨kvs,h1,h2,q⟩|⟨xs,ys,h1,h2,len,h3,q⟩|⟨z,_⟩|⟨xs,ys,h1,h2,len,q⟩
 rotate_right
 ·obtain⟨its,ri,pl,_⟩:=I.list h1
  obtain⟨its',ri',pl',_⟩:=I.list h2
  have e3:=ri.length
  have e4:=ri'.length
  exact SeqAt.RcAt.lists_lengths pl.isList pl'.isList (by simp;omega) (by omega) _ _ _ _ ⟨.bl _,H,I,rfl,q⟩
 rotate_right
 ·cases z
 ·obtain⟨ka,kb,z1,z2,d1,d2,len,hits⟩:=G4 (A:=X.A.in1) I h (by show X.A.units+1+40<cLine;omega)
  refine ij z1 z2 d1 d2 (by omega) (fun _=>hits) ?_
  rw [len,beq_self_eq_true]
  exact⟨.bl true,H,I,rfl,q⟩
 ·obtain⟨_,z1,ka,r1,d1⟩:=B1 I.hok h1
  obtain⟨_,z2,kb,r2,d2⟩:=B1 I.hok h2
  cases r2
  refine ij (r:=true) z1 z2 d1 d2 (by omega) (fun e=>?_) ?_
  ·rw [List.length_eq_zero_iff.mp e];exact .nil
  ·have e:(ka.length==([]:List (Key×ah)).length&&true)=kvs.isEmpty:=by
    rw [fF,<- r1.length]
    cases kvs <;> rfl
   rw [e]
   exact⟨.bl _,H,I,rfl,q⟩
 ·obtain⟨its,ri,pl,_⟩:=I.list h1
  obtain⟨its',ri',pl',_⟩:=I.list h2
  have e3:=ri.length
  have e4:=ri'.length
  refine (Jn pl.isList pl'.isList (by simp;omega) (by omega) fun j j1 j2=>?_).1 ⟨.bl true,H,I,rfl,q⟩
  have j1:j<its.length:=by simpa using j1
  have j2:j<its'.length:=by simpa using j2
  have jx:j<xs.length:=by omega
  have jy:j<ys.length:=by omega
  obtain⟨a,b,ea,eb,sd⟩:=h3 j _ _ (af jx) (af jy)
  obtain⟨u1,g1,r1⟩:=ri.get (af jx)
  obtain⟨u2,g2,r2⟩:=ri'.get (af jy)
  rw [ea] at r1
  rw [eb] at r2
  have f1:its[j]=.ref a:=by rw [af j1] at g1;exact (av g1).trans r1
  have f2:its'[j]=.ref b:=by rw [af j2] at g2;exact (av g2).trans r2
  simp only [e_]
  rw [f1,f2]
  exact M1 I sd (by show X.A.units+1+41<cLine;omega)
theorem ax0 (hu:X.A.units+64<cLine) {x y:V} {u v:ah} {Q:VK} (I:Inv X pins σ H s) (rx:RelV x u) (ry:RelV y v) (h:a20 X.K true x y H Q):aJ (model X.prog X.w) X.A (b5 .NotEq u v) (EP X pins σ Q) X.xe s:=by
 cases x <;> cases y <;> first|exact (show False from h).elim|skip
 cases rx;cases ry
 rcases h with ⟨h,q⟩|⟨kvs,h1,h2,q⟩|⟨xs,ys,h1,h2,len,h3,q⟩|⟨_,xs,ys,h1,h2,len,h3,q⟩|⟨xs,ys,h1,h2,len,q⟩
 rotate_right
 ·obtain⟨its,ri,pl,_⟩:=I.list h1
  obtain⟨its',ri',pl',_⟩:=I.list h2
  have e3:=ri.length
  have e4:=ri'.length
  exact hO pl.isList pl'.isList (by simp;omega) (by omega) _ _ _ _ ⟨.bl _,H,I,rfl,q⟩
 rotate_right
 ·obtain⟨its,ri,pl,_⟩:=I.tuple h1
  obtain⟨its',ri',pl',_⟩:=I.tuple h2
  have e3:=ri.length
  have e4:=ri'.length
  refine Vx (IsTup.isTuple pl) (IsTup.isTuple pl') (by rw [aq,aq];omega) (by omega) (fun j j1 j2=>?_) ⟨.bl false,H,I,rfl,q⟩
  have j1:j<its.length:=by simpa using j1
  have j2:j<its'.length:=by simpa using j2
  obtain⟨u1,g1,r1⟩:=ri.get (af (show j<xs.length by omega))
  obtain⟨u2,g2,r2⟩:=ri'.get (af (show j<ys.length by omega))
  have f1:its[j]=u1:=by rw [af j1] at g1;exact av g1
  have f2:its'[j]=u2:=by rw [af j2] at g2;exact av g2
  simp only [e_]
  rw [f1,f2]
  exact Zi I (h3 j _ _ (af (by omega)) (af (by omega))) r1 r2 (by show X.A.units+1+42<cLine;omega)
 ·obtain⟨ka,kb,z1,z2,d1,d2,len,hits⟩:=G4 (A:=X.A.in1) I h (by show X.A.units+1+40<cLine;omega)
  refine ki z1 z2 d1 d2 (by omega) (fun _=>hits) ?_
  rw [len,beq_self_eq_true]
  exact⟨.bl false,H,I,rfl,q⟩
 ·obtain⟨_,z1,ka,r1,d1⟩:=B1 I.hok h1
  obtain⟨_,z2,kb,r2,d2⟩:=B1 I.hok h2
  cases r2
  refine ki (r:=true) z1 z2 d1 d2 (by omega) (fun e=>?_) ?_
  ·rw [List.length_eq_zero_iff.mp e];exact .nil
  ·have e:(!(ka.length==([]:List (Key×ah)).length&&true)) = !kvs.isEmpty:=by
    rw [fF,<- r1.length]
    cases kvs <;> rfl
   rw [e]
   exact⟨.bl _,H,I,rfl,q⟩
 ·obtain⟨its,ri,pl,_⟩:=I.list h1
  obtain⟨its',ri',pl',_⟩:=I.list h2
  have e3:=ri.length
  have e4:=ri'.length
  refine (Jn pl.isList pl'.isList (by simp;omega) (by omega) fun j j1 j2=>?_).2 ⟨.bl false,H,I,rfl,q⟩
  have j1:j<its.length:=by simpa using j1
  have j2:j<its'.length:=by simpa using j2
  have jx:j<xs.length:=by omega
  have jy:j<ys.length:=by omega
  obtain⟨a,b,ea,eb,sd⟩:=h3 j _ _ (af jx) (af jy)
  obtain⟨u1,g1,r1⟩:=ri.get (af jx)
  obtain⟨u2,g2,r2⟩:=ri'.get (af jy)
  rw [ea] at r1
  rw [eb] at r2
  have f1:its[j]=.ref a:=by rw [af j1] at g1;exact (av g1).trans r1
  have f2:its'[j]=.ref b:=by rw [af j2] at g2;exact (av g2).trans r2
  simp only [e_]
  rw [f1,f2]
  exact M1 I sd (by show X.A.units+1+41<cLine;omega)
end
end L2
set_option maxHeartbeats 400000
namespace L2
open PySem PySem.Spec PyProof.Rows
section
variable {X:Cx} {pins:List (Addr×Obj)} {σ:St} {H:Hp} {s:al}
noncomputable def Mx:List V->Hp->VK->Prop:=fun xs H Q=>∃ p kvs,xs=[.ref p]/\Rd H p (.dK kvs) /\ ∀ q,H q=none->Q (.ref q) (upd H q (.dK kvs))
theorem Po:B0 X (.type "dict") Mx:=by
 intro pins s σ H xs us Q I r h
 obtain⟨p,kvs,rfl,e,q⟩:=h
 obtain⟨u,rfl,rx⟩:=C8 r
 cases rx
 obtain⟨z,hd,vs,rel,dd⟩:=B1 I.hok e
 refine kt_call_dict hd dd (by rw [<- rel.length];exact z) fun h' hm hs=>?_
 have kp:∀ b o',s.heap.get? b=some o'->h'.get? b=some o':=fun b o' hb=>by
  have hlt:=aC hb
  rw [hs.2 b (aN hlt)]
  exact ai _ hb
 exact⟨.ref s.heap.objs.size,_,I.laid (t':=s.toks) kp (aj _) (Py z (by rw [beq_eq_false_iff_ne];exact cB (aN I.big)) rel hm),rfl,q _ (I.hok.fresh (aj _))⟩
theorem boot_dict:cO "dict" = some (.type "dict"):=by decide +kernel
noncomputable def ap6 (K:ac) (H:Hp) (p:Addr) (ks:List Key) (ds:List Dt):Prop:=∃ kvs,Rd H p (.dK kvs)/\kvs.map (·.1)=ks/\AtL K H ds (kvs.map (·.2))/\Cm ds<=40
noncomputable def Ee:List Key->List Dt->Key->Option Dt
 | k::ks,d::ds,x=>if k=x then some d else Ee ks ds x
 | _,_,_=>none
noncomputable def Ir (ks':List Key) (ds':List Dt):List Key->List Dt->Bool
 | k::ks,d::ds=>(match Ee ks' ds' k with
  | none=>false
  | some d'=>deq d d')&&Ir ks' ds' ks ds
 | _,_=>true
noncomputable def Ug (ks:List Key) (ds:List Dt) (ks':List Key) (ds':List Dt):Bool:=ks.length==ks'.length&&Ir ks' ds' ks ds
noncomputable def a22 (K:ac) (neg:Bool):R2:=fun x y H Q=>∃ a b ks ds ks' ds',x=.ref a/\y=.ref b/\ap6 K H a ks ds/\ap6 K H b ks' ds'/\Q (.bl (if neg then !Ug ks ds ks' ds' else Ug ks ds ks' ds')) H
theorem J8 {K:ac} {k:Key}:∀ {kvs:List (Key×V)} {ds:List Dt},AtL K H ds (kvs.map (·.2))->match Ee (kvs.map (·.1)) ds k with
  | none=>Bs kvs k=none
  | some d=>d∈ds /\ ∃ x,Bs kvs k=some x/\At K H d x
 | [],ds,h=>by
  cases ds <;> exact aa2
 | (k',v)::kvs,ds,h=>by
  rw [aY] at h
  cases ds with
  | nil=>unfold AtL at h;cases h
  | cons d ds=>
   unfold AtL at h
   obtain⟨y,ys,e,h1,h2⟩:=h
   cases e
   by_cases c:k'=k
   ·have:Ee (((k',v)::kvs).map (·.1)) (d::ds) k=some d:=if_pos c
    rw [this]
    exact⟨aQ,v,Dx c,h1⟩
   ·have:Ee (((k',v)::kvs).map (·.1)) (d::ds) k=Ee (kvs.map (·.1)) ds k:=if_neg c
    rw [this]
    have ih:=J8 (k:=k) h2
    split at ih
    ·exact (Cp c).trans ih
    ·obtain⟨m,x,e1,e2⟩:=ih
     exact⟨ay _ m,x,(Cp c).trans e1,e2⟩
theorem R7:∀ {ds:List Dt} {d:Dt} {n:Nat},d∈ds->Cm ds<=n->dep d<=n
 | [],_,_,h,_=>by cases h
 | e::ds,d,n,h,g=>by
  unfold Cm at g
  obtain⟨g1,g2⟩:=Nat.max_le.mp g
  rcases List.mem_cons.mp h with rfl|h
  ·exact g1
  ·exact R7 h g2
theorem P5 {A:a_} {kvs':List (Key×V)} {kb:List (Key×ah)} {ds':List Dt} (I:Inv X pins σ H s) (r':KV kvs' kb) (t':AtL X.K H ds' (kvs'.map (·.2))) (hu:A.units+40<cLine) :
  ∀ {kvs:List (Key×V)} {ka:List (Key×ah)} {ds:List Dt},KV kvs ka->AtL X.K H ds (kvs.map (·.2))->Cm ds<=40->gT A s kb ka (Ir (kvs'.map (·.1)) ds' (kvs.map (·.1)) ds)
 | [],_,ds,.nil,h,_=>by
  have:Ir (kvs'.map (·.1)) ds' (([]:List (Key×V)).map (·.1)) ds=true:=by cases ds <;> rfl
  rw [this]
  exact .nil
 | (k,v)::kvs,_,ds,.cons (b:=q) r rs,h,hd=>by
  rw [aY] at h
  cases ds with
  | nil=>unfold AtL at h;cases h
  | cons d ds=>
   unfold AtL at h
   obtain⟨y,ys,e,h1,h2⟩:=h
   cases e
   have hd1:=R7 aQ hd
   have hd2:Cm ds<=40:=by unfold Cm at hd;exact (Nat.max_le.mp hd).2
   have ih:=P5 I r' t' hu rs h2 hd2
   obtain⟨k2,u⟩:=q
   obtain⟨ek,ru⟩:=r
   have ek:k=k2:=ek
   subst ek
   have hv:=r'.val k
   have ht:=J8 (k:=k) t'
   show gT A s kb ((k,u)::_) ((match Ee (kvs'.map (·.1)) ds' k with
    | none=>false
    | some d'=>deq d d')&&Ir (kvs'.map (·.1)) ds' (kvs.map (·.1)) ds)
   split at ht
   ·rw [ht] at hv
    refine .miss ?_
    cases c:g6 kb k with
    | none=>rfl
    | some y=>rw [c] at hv;cases hv
   ·rename_i d' e
    obtain⟨m,x,e1,e2⟩:=ht
    rw [e1] at hv
    cases c:g6 kb k with
    | none=>rw [c] at hv;cases hv
    | some y=>
     rw [c] at hv
     exact .hit c (Md I d d' A v x u y h1 e2 ru hv (by omega)) ih
theorem aw6 (hu:X.A.units+64<cLine) {x y:V} {u v:ah} {Q:VK} (I:Inv X pins σ H s) (rx:RelV x u) (ry:RelV y v) (h:a22 X.K false x y H Q):aJ (model X.prog X.w) X.A (b5 .Eq u v) (EP X pins σ Q) X.xe s:=by
 obtain⟨a,b,ks,ds,ks',ds',rfl,rfl,⟨kvs,e,rfl,t,hd⟩,⟨kvs',e',rfl,t',hd'⟩,q⟩:=h
 cases rx;cases ry
 obtain⟨_,z1,ka,r1,d1⟩:=B1 I.hok e
 obtain⟨_,z2,kb,r2,d2⟩:=B1 I.hok e'
 refine ij z1 z2 d1 d2 (by omega) (fun _=>P5 I r2 t' (by show X.A.units+1+40<cLine;omega) r1 t hd) ?_
 rw [<- r1.length,<- r2.length]
 unfold Ug at q
 rw [ae,ae] at q
 exact⟨.bl _,H,I,rfl,q⟩
theorem ax2 (hu:X.A.units+64<cLine) {x y:V} {u v:ah} {Q:VK} (I:Inv X pins σ H s) (rx:RelV x u) (ry:RelV y v) (h:a22 X.K true x y H Q):aJ (model X.prog X.w) X.A (b5 .NotEq u v) (EP X pins σ Q) X.xe s:=by
 obtain⟨a,b,ks,ds,ks',ds',rfl,rfl,⟨kvs,e,rfl,t,hd⟩,⟨kvs',e',rfl,t',hd'⟩,q⟩:=h
 cases rx;cases ry
 obtain⟨_,z1,ka,r1,d1⟩:=B1 I.hok e
 obtain⟨_,z2,kb,r2,d2⟩:=B1 I.hok e'
 refine ki z1 z2 d1 d2 (by omega) (fun _=>P5 I r2 t' (by show X.A.units+1+40<cLine;omega) r1 t hd) ?_
 rw [<- r1.length,<- r2.length]
 unfold Ug at q
 rw [ae,ae] at q
 exact⟨.bl _,H,I,rfl,q⟩
end
end L2
set_option maxHeartbeats 4000000
namespace L2
open PySem PySem.Spec PyProof.Rows
noncomputable def rNo:R2:=fun _ _ _ _=>False
noncomputable def A9 (K:ac):R2:=fun x y H Q=>match x,y with
 | .int i,.int j=>Q (.int (i+j)) H
 | .str a,.str b=>a.length+b.length<=sizeLine/\Q (.str (a++b)) H
 | .ref a,.ref b=>bb0 (.ref a) (.ref b) H Q\/ak9 K (.ref a) (.ref b) H Q\/ak8 K (.ref a) (.ref b) H Q
 | _,_=>False
noncomputable def Zg:R2:=fun x y H Q=>match x,y with
 | .int i,.int j=>Q (.int (i - j)) H
 | _,_=>False
noncomputable def Ct (K:ac):R2:=fun x y H Q=>match x,y with
 | .int i,.int j=>CMul i j/\Q (.int (i * j)) H
 | _,_=>False
noncomputable def C5:R2:=fun x y H Q=>match x,y with
 | .int i,.int j=>a41 i j/\Q (.int (i / j)) H
 | _,_=>False
noncomputable def Bb:R2:=fun x y H Q=>match x,y with
 | .int i,.int j=>0<j/\Q (.int (i % j)) H
 | _,_=>False
noncomputable def al0:R2:=fun x y H Q=>match x,y with
 | .int i,.int j=>ab1 i j/\Q (.int (i ^ j.toNat)) H
 | _,_=>False
noncomputable def J0:R2:=fun x y H Q=>match x,y with
 | .int i,.int j=>ab1 i j/\Q (.int (i * 2 ^ j.toNat)) H
 | _,_=>False
noncomputable def Tg:R2:=fun x y H Q=>match x,y with
 | .int i,.int j=>0<=j/\Q (.int (i / 2 ^ j.toNat)) H
 | _,_=>False
noncomputable def Hi:R2:=fun x y H Q=>match x,y with
 | .int i,.int j=>Q (.int (cm i j)) H
 | _,_=>False
noncomputable def ah6:R2:=fun x y H Q=>match x,y with
 | .int i,.int j=>Q (.int (cS i j)) H
 | _,_=>False
noncomputable def bb3:R2:=fun x y H Q=>match x,y with
 | .int i,.int j=>Q (.int (Builtin.bitXor i j)) H
 | _,_=>False
noncomputable def rOp (K:ac):lU->R2
 | .Add=>A9 K
 | .Sub=>Zg
 | .Mult=>Ct K
 | .FloorDiv=>C5
 | .Mod=>Bb
 | .Pow=>al0
 | .LShift=>J0
 | .RShift=>Tg
 | .BitAnd=>Hi
 | .BitOr=>ah6
 | .BitXor=>bb3
 | _=>rNo
section
variable {X:Cx}
theorem bg3 (op:lU):OpR X (dA op) (rOp X.K op):=by
 intro pins s σ H x y v u Q I rx ry h
 cases op with
 | Add=>
  cases x <;> cases y <;> first
   | exact (show False from h).elim
   | exact aw2 pins s σ H _ _ v u Q I rx ry ⟨_,_,rfl,rfl,h⟩
   | exact Qm pins s σ H _ _ v u Q I rx ry ⟨_,_,rfl,rfl,h⟩
   | exact (op_cat.or (op_catT.or ae5)) pins s σ H _ _ v u Q I rx ry h
 | Sub=>cases x <;> cases y <;> first|exact (show False from h).elim|exact ax6 pins s σ H _ _ v u Q I rx ry ⟨_,_,rfl,rfl,h⟩
 | Mult=>cases x <;> cases y <;> first|exact (show False from h).elim|exact aw9 pins s σ H _ _ v u Q I rx ry ⟨_,_,rfl,rfl,h⟩
 | FloorDiv=>cases x <;> cases y <;> first|exact (show False from h).elim|exact ae6 pins s σ H _ _ v u Q I rx ry ⟨_,_,rfl,rfl,h⟩
 | Mod=>cases x <;> cases y <;> first|exact (show False from h).elim|exact aw8 pins s σ H _ _ v u Q I rx ry ⟨_,_,rfl,rfl,h⟩
 | Pow=>cases x <;> cases y <;> first|exact (show False from h).elim|exact ax3 pins s σ H _ _ v u Q I rx ry ⟨_,_,rfl,rfl,h⟩
 | LShift=>cases x <;> cases y <;> first|exact (show False from h).elim|exact ax4 pins s σ H _ _ v u Q I rx ry ⟨_,_,rfl,rfl,h⟩
 | RShift=>cases x <;> cases y <;> first|exact (show False from h).elim|exact ax5 pins s σ H _ _ v u Q I rx ry ⟨_,_,rfl,rfl,h⟩
 | BitAnd=>cases x <;> cases y <;> first|exact (show False from h).elim|exact aw3 pins s σ H _ _ v u Q I rx ry ⟨_,_,rfl,rfl,h⟩
 | BitOr=>cases x <;> cases y <;> first|exact (show False from h).elim|exact a95 pins s σ H _ _ v u Q I rx ry ⟨_,_,rfl,rfl,h⟩
 | BitXor=>cases x <;> cases y <;> first|exact (show False from h).elim|exact ax7 pins s σ H _ _ v u Q I rx ry ⟨_,_,rfl,rfl,h⟩
 | _=>exact (show False from h).elim
end
noncomputable def B8 (K:ac) (neg:Bool):R2:=fun x y H Q=>match x,y with
 | .ref a,.ref b=>a21 K neg (.ref a) (.ref b) H Q\/Zb K neg (.ref a) (.ref b) H Q\/a20 K neg (.ref a) (.ref b) H Q\/False\/a22 K neg (.ref a) (.ref b) H Q
 | .ref a,y=>Zb K neg (.ref a) y H Q\/False
 | x,.ref b=>Zb K neg x (.ref b) H Q
 | .int i,.int j=>Q (.bl (if neg then !decide (i=j) else decide (i=j))) H
 | .str i,.str j=>Q (.bl (if neg then !decide (i=j) else decide (i=j))) H
 | .bl i,.bl j=>Q (.bl (if neg then !(i==j) else (i==j))) H
 | x,y=>a26 x y=true/\Q (.bl (if neg then !decide (x=y) else decide (x=y))) H
noncomputable def bb1:R2:=fun x y H Q=>match x,y with
 | .int i,.int j=>Q (.bl (decide (i<j))) H
 | .str i,.str j=>Q (.bl (decide (i.cps.toList<j.cps.toList))) H
 | _,_=>False
noncomputable def G3:R2:=fun x y H Q=>match x,y with
 | .int i,.int j=>Q (.bl (decide (i<=j))) H
 | .str i,.str j=>Q (.bl (!decide (j.cps.toList<i.cps.toList))) H
 | _,_=>False
noncomputable def Vi:R2:=fun x y H Q=>match x,y with
 | .int i,.int j=>Q (.bl (decide (j<i))) H
 | _,_=>False
noncomputable def bg5:R2:=fun x y H Q=>match x,y with
 | .int i,.int j=>Q (.bl (decide (j<=i))) H
 | _,_=>False
noncomputable def Vj (K:ac) (neg:Bool):R2:=fun x y H Q=>match x,y with
 | .non,_=>False
 | x,.ref p=>rIn K neg x (.ref p) H Q \/ ∃ o,DGet H p x o/\Q (.bl (if neg then !o.isSome else o.isSome)) H
 | _,_=>False
noncomputable def a23 (neg:Bool):R2:=fun x y H Q=>match y with
 | .non=>Q (.bl (if neg then !decide (x=.non) else decide (x=.non))) H
 | .bl d=>(match x with
  | .bl c=>Q (.bl (if neg then !(c==d) else (c==d))) H
  | _=>False)
 | _=>False
noncomputable def Kl (K:ac):mw->R2
 | .Eq=>B8 K false
 | .NotEq=>B8 K true
 | .Lt=>bb1
 | .LtE=>G3
 | .Gt=>Vi
 | .GtE=>bg5
 | .In=>Vj K false
 | .NotIn=>Vj K true
 | .Is=>a23 false
 | .IsNot=>a23 true
section
variable {X:Cx}
theorem Kw (hu:X.A.units+64<cLine) (op:mw):OpR X (b5 op) (Kl X.K op):=by
  intro pins s σ H x y v u Q I rx ry h
  cases op with
  | Eq=>
    cases x <;> cases y <;> first
      | (rcases h with h|h|h|h|h
         . exact aw5 (by omega) pins s σ H _ _ v u Q I rx ry h
         . exact Qn hu I rx ry (.inl ⟨_,rfl⟩) h
         . exact aw4 hu I rx ry h
         . exact h.elim
         . exact aw6 hu I rx ry h)
      | (rcases h with h|h
         . exact Qn hu I rx ry (.inl ⟨_,rfl⟩) h
         . exact h.elim)
      | exact Qn hu I rx ry (.inr ⟨_,rfl⟩) h
      | exact Sr pins s σ H _ _ v u Q I rx ry h
      | exact Sr pins s σ H _ _ v u Q I rx ry ⟨rfl,by rw [Hs,d9];exact h⟩
      | exact Sr pins s σ H _ _ v u Q I rx ry ⟨rfl,by rw [Ht,d9];exact h⟩
      | exact Sr pins s σ H _ _ v u Q I rx ry ⟨rfl,by rw [Ma];exact h⟩
  | NotEq=>
    cases x <;> cases y <;> first
      | (rcases h with h|h|h|h|h
         . exact ax1 (by omega) pins s σ H _ _ v u Q I rx ry h
         . exact Qo hu I rx ry (.inl ⟨_,rfl⟩) h
         . exact ax0 hu I rx ry h
         . exact h.elim
         . exact ax2 hu I rx ry h)
      | (rcases h with h|h
         . exact Qo hu I rx ry (.inl ⟨_,rfl⟩) h
         . exact h.elim)
      | exact Qo hu I rx ry (.inr ⟨_,rfl⟩) h
      | exact Ss pins s σ H _ _ v u Q I rx ry h
      | exact Ss pins s σ H _ _ v u Q I rx ry ⟨rfl,by rw [Hs,d9];exact h⟩
      | exact Ss pins s σ H _ _ v u Q I rx ry ⟨rfl,by rw [Ht,d9];exact h⟩
      | exact Ss pins s σ H _ _ v u Q I rx ry ⟨rfl,by rw [Ma];exact h⟩
  | Lt=>cases x <;> cases y <;> first|exact (show False from h).elim|exact a94 pins s σ H _ _ v u Q I rx ry ⟨_,_,rfl,rfl,h⟩|exact Va pins s σ H _ _ v u Q I rx ry ⟨_,_,rfl,rfl,h⟩
  | LtE=>cases x <;> cases y <;> first|exact (show False from h).elim|exact a93 pins s σ H _ _ v u Q I rx ry ⟨_,_,rfl,rfl,h⟩|exact U9 pins s σ H _ _ v u Q I rx ry ⟨_,_,rfl,rfl,h⟩
  | Gt=>cases x <;> cases y <;> first|exact (show False from h).elim|exact a92 pins s σ H _ _ v u Q I rx ry ⟨_,_,rfl,rfl,h⟩
  | GtE=>cases x <;> cases y <;> first|exact (show False from h).elim|exact a91 pins s σ H _ _ v u Q I rx ry ⟨_,_,rfl,rfl,h⟩
  | In=>cases x <;> cases y <;> first|exact (show False from h).elim|exact h.elim (U8 pins s σ H _ _ v u Q I rx ry) (fun⟨o,g,q⟩=>by cases ry;exact bf6 (by omega) I g rx fun s' I'=>⟨.bl _,H,I',rfl,q⟩)
  | NotIn=>cases x <;> cases y <;> first|exact (show False from h).elim|exact h.elim (Ms pins s σ H _ _ v u Q I rx ry) (fun⟨o,g,q⟩=>by cases ry;exact ac2 (by omega) I g rx fun s' I'=>⟨.bl _,H,I',rfl,q⟩)
  | Is=>cases y <;> first|exact (show False from h).elim|exact aw7 pins s σ H _ _ v u Q I rx ry ⟨rfl,h⟩|(cases x <;> first|exact (show False from h).elim|(cases rx;cases ry;exact is_bool ⟨.bl _,H,I,rfl,h⟩))
  | IsNot=>cases y <;> first|exact (show False from h).elim|exact ae7 pins s σ H _ _ v u Q I rx ry ⟨rfl,h⟩|(cases x <;> first|exact (show False from h).elim|(cases rx;cases ry;exact isnot_bool ⟨.bl _,H,I,rfl,h⟩))
end
noncomputable def Tf:V->Hp->VK->Prop:=fun x H Q=>match x with
 | .int i=>Q (.int (-i)) H
 | _=>False
theorem bl0 {X:Cx}:UnR X (mF .USub) Tf:=by
 intro pins s σ H x v Q I rx h
 cases x <;> first|exact (show False from h).elim|exact a36 pins s σ H _ v Q I rx ⟨_,rfl,h⟩
noncomputable def Te:V->Hp->VK->Prop:=fun x H Q=>match x with
 | .int i=>Q (.int (ce i)) H
 | _=>False
theorem a58 {X:Cx}:UnR X (mF .Invert) Te:=by
 intro pins s σ H x v Q I rx h
 cases x <;> first|exact (show False from h).elim|exact a35 pins s σ H _ v Q I rx ⟨_,rfl,h⟩
theorem Tv {X:Cx}:a45 X (Z7 X.K):=by
 intro pins s σ H x v Q I rx h
 cases x with
 | non=>exact J9 pins s σ H _ v Q I rx ⟨_,rfl,h⟩
 | bl b=>exact J9 pins s σ H _ v Q I rx ⟨_,rfl,h⟩
 | int i=>exact J9 pins s σ H _ v Q I rx ⟨_,rfl,h⟩
 | str y=>exact J9 pins s σ H _ v Q I rx ⟨_,⟨h.1,rfl⟩,h.2⟩
 | ref p=>exact J9 pins s σ H _ v Q I rx h
 | _=>exact (show False from h).elim
inductive SqX (K:ac) (H:Hp) (p:Addr) (i:Int) (xs:List V):Prop where
 | inl (h:SqL K H p xs)
 | inr (h:SqT K H p xs)
 | dk (h:∀ v,atI xs i=some v->DGet H p (.int i) (some v))
noncomputable def A5 (K:ac):R2:=fun x y H Q=>match x,y with
 | .str z,.int i=>z.length<=sizeLine /\ ∃ c,atI z.cps.toList i=some c/\Q (.str ⟨#[c]⟩) H
 | .ref p,.int i=>∃ xs v,SqX K H p i xs/\atI xs i=some v/\Q v H
 | .ref p,.str k=>∃ v,DGet H p (.str k) (some v)/\Q v H
 | .ref p,.ref b=>∃ v,DGet H p (.ref b) (some v)/\Q v H
 | _,_=>False
theorem bg1 {X:Cx} (hu:X.A.units+64<cLine):IxR X (A5 X.K):=by
  intro value slice pins s σ H x y v u Q I rx ry h hs
  cases x <;> cases y <;> first
    | exact (show False from h).elim
    | (obtain⟨h1,c,h2,h3⟩:=h;exact as5 value slice pins s σ H _ _ v u Q I rx ry ⟨_,_,c,rfl,rfl,h1,h2,h3⟩ hs)
    | (obtain⟨xs,w,h1|h1|h1,h2,h3⟩:=h
       . exact ad4 value slice pins s σ H _ _ v u Q I rx ry ⟨_,_,_,_,rfl,rfl,h1,h2,h3⟩ hs
       . exact as6 value slice pins s σ H _ _ v u Q I rx ry ⟨_,_,_,_,rfl,rfl,h1,h2,h3⟩ hs
       . exact Hx hu value slice pins s σ H _ _ v u Q I rx ry ⟨_,w,rfl,h1 w h2,h3⟩ hs)
    | (obtain⟨w,h1,h2⟩:=h;exact Hx hu value slice pins s σ H _ _ v u Q I rx ry ⟨_,w,rfl,h1,h2⟩ hs)
noncomputable def Zf:V->V->V->Hp->(Hp->Prop)->Prop:=fun o i v H N=>match o,i with
 | .ref p,.int k=>(∃ xs j,H p=some (.lst xs)/\ixN xs.length k=some j/\N (upd H p (.lst (xs.set j v)))) \/ ∃ H',DPut H p (.int k) v H'/\N H'
 | .ref p,i=>∃ H',DPut H p i v H'/\N H'
 | _,_=>False
theorem am6 {X:Cx} (hu:X.A.units+64<cLine):ap9 X Zf:=by
 intro pins s σ H o i v ov iv u Q I ro ri rv h
 cases o with
 | ref p=>
  have dp:∀ {H'},DPut H p i v H'->Q H'->aJ (model X.prog X.w) X.A (setItem ov iv u) (fun _ s'=>∃ H',Inv X pins σ H' s'/\Q H') X.xe s:=fun {H'} g q=>by
   cases ro
   exact Uf (by omega) I g ri rv fun s' I'=>⟨H',I',q⟩
  cases i with
  | int k=>
   rcases h with ⟨xs,j,h1,h2,h3⟩|⟨H',g,q⟩
   ·exact Zl pins s σ H _ _ v ov iv u Q I ro ri rv ⟨p,xs,k,j,rfl,rfl,h1,h2,h3⟩
   ·exact dp g q
  | _=>obtain⟨H',g,q⟩:=h;exact dp g q
 | _=>exact (show False from h).elim
noncomputable def B6 (K:ac) (f:Str):V->Hp->VK->Prop:=fun x H Q=>match x with
 | .ref a=>(∃ C dx fs v,H a=some (.ins C dx fs)/\Cls K C/\NoAttr K C f/\fs.lookup f=some v/\Q v H)\/False
 | _=>False
noncomputable def Zc (K:ac) (f:Str):V->V->Hp->(Hp->Prop)->Prop:=fun x y H N=>match x with
 | .ref a=>(∃ C dx fs,H a=some (.ins C dx fs)/\Cls K C/\NoAttr K C f/\fs.length<1000/\N (upd H a (.ins C dx (Ev f y fs))))\/False
 | _=>False
section
variable {X:Cx} {pins:List (Addr×Obj)} {σ:St} {H:Hp} {s:al} {A:a_} {E:ah->al->Prop}
theorem a56 {f:Str} {x:V} {u:ah} {b:Bool} {Q:VK} (I:Inv X pins σ H s) (rx:RelV x u) (h:B6 X.K f x H Q):aJ (model X.prog X.w) A (getAttr u f b) (EP X pins σ Q) E s:=by
 cases x with
 | ref a=>
  cases rx
  rcases h with ⟨C,dx,fs,v,ea,c,n,l,q⟩|h
  ·exact P3 I ea c n l fun u' s2 I2 ru=>⟨v,H,I2,ru,q⟩
  ·exact h.elim
 | _=>exact (show False from h).elim
theorem bb4 {f:Str} {x y:V} {u v:ah} {N:Hp->Prop} {Q:Unit->al->Prop} (I:Inv X pins σ H s) (rx:RelV x u) (ry:RelV y v) (h:Zc X.K f x y H N) (hQ:∀ H' s',Inv X pins σ H' s'->N H'->Q () s') :
  aJ (model X.prog X.w) A (setAttr u f v) Q E s:=by
 cases x with
 | ref a=>
  cases rx
  rcases h with ⟨C,dx,fs,ea,c,n,l,q⟩|h
  ·exact Qy I ea c n l ry fun s3 I3=>hQ _ _ I3 q
  ·exact h.elim
 | _=>exact (show False from h).elim
end
structure FI where
 f:Addr
 fd:bo
 ps:List Str
 k:Nat
 sp:Sp
 dfs:List V
 ds:List ah
structure MI where
 C:Addr
 i:FI
inductive GB where
 | fn (i:FI)
 | cls (C:Addr) (i:Option FI)
 | met (m:Str) (l:List MI)
 | val (v:V) (u:ah)
noncomputable def Cu:List (Str×GB)->Str->Option (List MI)
 | [],_=>none
 | (_,.met m l)::r,x=>if m=x then some l else Cu r x
 | _::r,x=>Cu r x
theorem Cn:∀ {gb:List (Str×GB)} {x:Str} {l:List MI},Cu gb x=some l -> ∃ k,(k,GB.met x l)∈gb
 | (k,.met m l')::r,x,l,h=>by
  unfold Cu at h
  by_cases e:m=x
  ·rw [if_pos e] at h;cases h;subst e;exact⟨k,by simp⟩
  ·rw [if_neg e] at h;obtain⟨k,q⟩:=Cn h;exact⟨k,ay _ q⟩
 | (_,.fn _)::r,x,l,h=>by unfold Cu at h;obtain⟨k,q⟩:=Cn h;exact⟨k,ay _ q⟩
 | (_,.cls _ _)::r,x,l,h=>by unfold Cu at h;obtain⟨k,q⟩:=Cn h;exact⟨k,ay _ q⟩
 | (_,.val _ _)::r,x,l,h=>by unfold Cu at h;obtain⟨k,q⟩:=Cn h;exact⟨k,ay _ q⟩
structure Sg where
 K:ac
 N:List Str
 sc:List (Str×cz)
 gb:List (Str×GB)
 bl:List Str
 top:Bool
 calm:Bool
noncomputable def C6:List Str->Str->Nat->Option Nat
 | [],_,_=>none
 | y::r,x,i=>if y=x then some i else C6 r x (i+1)
theorem Li:∀ {N:List Str} {x:Str} {i j:Nat},C6 N x j=some i->j<=i/\N[i - j]? = some x
 | [],_,_,_,h=>by cases h
 | y::r,x,i,j,h=>by
  unfold C6 at h
  by_cases e:y=x
  ·rw [if_pos e] at h
   cases h
   refine⟨aj _,?_⟩
   rw [fA,e]
   rfl
  ·rw [if_neg e] at h
   obtain⟨h1,h2⟩:=Li h
   refine⟨by omega,?_⟩
   have:i - j=(i - (j+1))+1:=by omega
   rw [this,bA]
   exact h2
theorem Ez {N:List Str} {x:Str} {i:Nat} (h:C6 N x 0=some i):N[i]? = some x:=(Li h).2
noncomputable def Dr (x:Str):Bool:=!(x==("__debug__" : Str)) && !(x==("__classdict__" : Str)) && !(x==("__name__" : Str))
noncomputable def Kj (G:Sg) (x:Str):Bool:=(G.sc.lookup x==some .globalImplicit)&&Dr x
noncomputable def Ro (x:Str):Option String:=
 if x = "int" then some "int" else if x = "bool" then some "bool" else if x = "str" then some "str" else if x = "list" then some "list" else if x = "tuple" then some "tuple" else if x = "dict" then some "dict" else if x = "ValueError" then some "ValueError" else none
theorem ac0:cO "ValueError" = some (.type "ValueError"):=by decide +kernel
theorem V2 {x:Str} {T:String} (h:Ro x=some T):cO x=some (.type T):=by
 unfold Ro at h
 by_cases e1:x = "int"
 ·rw [if_pos e1] at h;cases h;rw [e1];exact jO
 rw [if_neg e1] at h
 by_cases e2:x = "bool"
 ·rw [if_pos e2] at h;cases h;rw [e2];exact PyProof.Rows.boot_bool
 rw [if_neg e2] at h
 by_cases e3:x = "str"
 ·rw [if_pos e3] at h;cases h;rw [e3];exact PyProof.Rows.boot_str
 rw [if_neg e3] at h
 by_cases e4:x = "list"
 ·rw [if_pos e4] at h;cases h;rw [e4];exact fS
 rw [if_neg e4] at h
 by_cases e5:x = "tuple"
 ·rw [if_pos e5] at h;cases h;rw [e5];exact iX
 rw [if_neg e5] at h
 by_cases e6:x = "dict"
 ·rw [if_pos e6] at h;cases h;rw [e6];exact PyProof.Rows.boot_dict
 rw [if_neg e6] at h
 by_cases e7:x = "ValueError"
 ·rw [if_pos e7] at h;cases h;rw [e7];exact ac0
 rw [if_neg e7] at h
 cases h
noncomputable def Rq (CX:CXT) (X:Cx):Prop:=∀ Ex,Meets X Ex -> ∀ (pins:List (Addr×Obj)) (σ:St) (H:Hp) (s:al) (e:ah) (s':al),Inv X pins σ H s->CX X.stack H s (fun v _ H'=>∃ a,v=.ref a/\Ex σ a H') e s'->X.xe e s'
structure Gf (X:Cx) (i:FI):Prop where
 kp:ba X.K (.ref i.f)=true
 ok:∃ CX,(∀ X':Cx,X'.prog=X.prog->X'.w=X.w->Rq CX X')/\FnOk X.prog X.w X.K X.mg X.base CX i.k i.f i.fd i.ps i.sp
 room:Room i.k X.A
 binds:∀ j,j<=i.dfs.length->Binds X.K i.fd i.ps (i.ds.drop j)
 vals:Vals i.dfs i.ds
noncomputable def Ww (X:Cx) (C:Addr):Option FI->Prop
 | none=>bX X.K C=true/\aO X.K (.ref C) "__init__" = some (some (.builtin "object.__init__"))
 | some i=>bX X.K C=true/\aO X.K (.ref C) "__init__" = some (some (.ref i.f))/\cE X.K (.ref i.f)=true/\Gf X i/\Room (i.k+1) X.A
noncomputable def GBOk (X:Cx) (x:Str):GB->Prop
 | .fn i=>X.mg x=some (.ref i.f)/\Gf X i
 | .val v u=>X.mg x=some u/\RelV v u
 | .cls C oi=>X.mg x=some (.ref C)/\ba X.K (.ref C)=true/\Ww X C oi
 | .met m l=>∀ mi∈l,Cls X.K mi.C/\Il X.K mi.C m mi.i.f/\Gf X mi.i
theorem GBOk.to {X X':Cx} (hm:X'.mg=X.mg) (hK:X'.K=X.K) (hP:X'.prog=X.prog) (hw:X'.w=X.w) (hA:∀ k,Room k X.A->Room k X'.A) (hf:∀ i,Gf X i->Gf X' i) {x:Str} {g:GB} (h:GBOk X x g):GBOk X' x g:=by
 cases g with
 | fn i=>exact⟨hm▸h.1,hf i h.2⟩
 | val v u=>exact⟨hm▸h.1,h.2⟩
 | cls C oi=>
  obtain⟨a,b,d⟩:=h
  refine⟨hm▸a,hK▸b,?_⟩
  cases oi with
  | none=>unfold Ww at d ⊢;rw [hK];exact d
  | some i=>obtain⟨d1,d2,d3,d4,d5⟩:=d;exact⟨hK▸d1,hK▸d2,hK▸d3,hf i d4,hA _ d5⟩
 | met m l=>exact fun mi hi=>⟨hK▸(h mi hi).1,hK▸(h mi hi).2.1,hf _ (h mi hi).2.2⟩
noncomputable def FrH (X:Cx):Prop:=∃ (e0:Env) (o0:List Env) (L:Addr),X.stack=e0::o0/\e0.frame=some L/\X.env.frame=some L
structure GOk (X:Cx) (G:Sg):Prop where
 K:X.K=G.K
 kind:X.env.scope.kind=.function
 own:G.top=true->jM (model X.prog X.w) X.A X.env X.xe
 N:X.N=G.N
 nd:G.N.Nodup
 sc:∀ x,X.env.scope.names.lookup x=G.sc.lookup x
 vis:∀ x∈G.N,Vis X.env.scope x
 top:G.top=true -> ∀ x,X.fn x=true
 calm:G.calm=X.calm
 hd:X.calm=true->X.A.handled=none
 units:X.A.units+64<cLine
 cel:∀ x,(X.env.scope.names.lookup x=some .cell\/X.env.scope.names.lookup x=some .free) -> ∃ c,X.env.cells.lookup x=some c
 gb:∀ x g,(x,g)∈G.gb->GBOk X x g
 bl:∀ x,G.bl.contains x=true->X.mg x=none
 frm:G.top=true->X.stack=X.env::X.outer/\X.env.frame=some X.env.locals
 fr:FrH X
section
variable {X:Cx} {G:Sg}
theorem GOk.at_ (O:GOk X G) (x:Str) (g:GB) (e:G.gb.lookup x=some g):GBOk X x g:=O.gb x g (b7 e)
theorem GOk.met (O:GOk X G) (m:Str) (l:List MI) (e:Cu G.gb m=some l):∀ mi∈l,Cls X.K mi.C/\Il X.K mi.C m mi.i.f/\Gf X mi.i:=by
 obtain⟨x,hx⟩:=Cn e
 exact O.gb x _ hx
theorem GOk.gl (O:GOk X G) {x:Str} (h:Kj G x=true):Gl X x:=by
 unfold Kj at h
 rw [aP] at h
 have:=ck h.1
 unfold Gl
 show X.env.scope.names.lookup x=_
 rw [O.sc x]
 exact this
theorem Mt {x:Str} (h:Dr x=true):(x==("__debug__" : Str))=false/\(x==("__classdict__" : Str))=false/\x ≠ "__name__" := by
 unfold Dr at h
 simp only [aP,iy] at h
 exact⟨h.1.1,h.1.2,fun e=>by rw [e] at h;simp at h⟩
theorem Xw {x:Str} (h:Kj G x=true):(x==("__debug__" : Str))=false/\(x==("__classdict__" : Str))=false/\x ≠ "__name__" := by
 unfold Kj at h
 rw [aP] at h
 exact Mt h.2
noncomputable def aa7 (G:Sg) (x:Str):DE:=
 match C6 G.N x 0 with
 | some i=>if Dr x=true then Ab i else dNo
 | none=>if Kj G x=true then (match G.gb.lookup x with
   | some (.val v _)=>dC v
   | some (.cls C _)=>dC (.ref C)
   | some _=>dNo
   | none=>if G.bl.contains x=true then (match Ro x with
    | some T=>dC (.ty T)
    | none=>dNo) else dNo) else dNo
theorem Bm {e:Expr}:QE X e dNo:=fun _ _ _ _ _ _ _ _ h=>h.elim
theorem a07 {i:Nat} {x:Str} {pos:Pos} (hN:X.N[i]? = some x) (hv:Vis X.env.scope x) (hp:Dr x=true):QE X (.Name x pos) (Ab i):=by
 intro Ex _ pins s σ H Q I h
 unfold Ab at h
 split at h
 ·rename_i v e
  exact ay5 hN hv (Mt hp).1 (Mt hp).2.1 pins s σ H Q I ⟨v,e,h⟩
 ·exact h.elim
theorem ag5 (O:GOk X G) (x:Str) (pos:Pos):QE X (.Name x pos) (aa7 G x):=by
 unfold aa7
 split
 ·rename_i i e
  split
  ·rename_i hp
   have hi:=Ez e
   exact a07 (by rw [O.N];exact hi) (O.vis x (am hi)) hp
  ·exact Bm
 ·split
  ·rename_i hg
   have dd:=Xw hg
   split
   ·rename_i v u e
    obtain⟨h1,h2⟩:=O.at_ x _ e
    exact fun _ _=>Su (O.gl hg) h1 h2 dd.1
   ·rename_i C oi e
    exact fun _ _=>Su (v:=.ref C) (O.gl hg) (O.at_ x _ e).1 rfl dd.1
   ·exact Bm
   ·split
    ·rename_i hb
     split
     ·rename_i T e
      exact fun _ _=>ae9 (O.gl hg) (O.bl x hb) (V2 e) rfl dd.2.2 dd.1
     ·exact Bm
    ·exact Bm
  ·exact Bm
noncomputable def aa5:Const->DE
 | .int i=>dC (.int i)
 | .bool b=>dC (.bl b)
 | .none=>dC .non
 | .str x=>dC (.str x)
 | _=>dNo
theorem Y2 (c:Const) (j:Nat) (pos:Pos):QE X (.Constant c j pos) (aa5 c):=by
 cases c with
 | int i=>exact fun _ _=>ax9
 | bool b=>exact fun _ _=>a97
 | none=>exact fun _ _=>ay1
 | str x=>exact fun _ _=>ay3
 | _=>exact Bm
variable {a b c:Expr} {da db dc:DE} {ta tb:DT} {es:List Expr} {r:DA} {pos:Pos}
theorem Yy (op:lU) (ha:QE X a da) (hb:QE X b db):QE X (.BinOp a op b pos) (Ah (rOp X.K op) da db):=fun Ex m=>a99 (bg3 op) (ha Ex m) (hb Ex m)
theorem a02 (ha:QE X a da):QE X (.UnaryOp .USub a pos) (dUn Tf da):=fun Ex m=>ak5 bl0 (ha Ex m)
theorem az8 (ha:QE X a da):QE X (.UnaryOp .Invert a pos) (dUn Te da):=fun Ex m=>ak5 a58 (ha Ex m)
theorem az7 (hu:X.A.units+64<cLine) (op:mw) (ha:QE X a da) (hb:QE X b db) (hm:i6 op b=false):QE X (.Compare a [op] [b] pos) (Ah (Kl X.K op) da db):=fun Ex m=>af0 (Kw hu op) (ha Ex m) (hb Ex m) hm
theorem a15 (hu:X.A.units+64<cLine) (op:mw) (ha:QE X a da) (hb:QE X b db) (hm:i6 op b=false):QT X (.Compare a [op] [b] pos) (Bp (Ah (Kl X.K op) da db)):=by
 intro Ex m pins s σ H Q I h
 refine wpAny_isTrue_Compare1 (thn (ha Ex m pins s σ H _ I h) fun v s1 ⟨x,H1,I1,r1,q1⟩=>thn (hb Ex m pins s1 σ H1 _ I1 q1) fun u s2 ⟨y,H2,I2,r2,q2⟩=>
  thn (Kw hu op pins s2 σ H2 x y v u _ I2 r1 r2 q2) fun c s3 ⟨z,H3,I3,r3,q3⟩=>?_) hm
 cases z with
 | bl k=>cases r3;exact cR ⟨H3,I3,q3⟩
 | _=>exact (show False from q3).elim
theorem Y1 (hu:X.A.units+64<cLine) (op op':mw) (ha:QE X a da) (hb:QE X b db) (hc:QE X c dc) (hm:lastMarks [op,op'] [b,c]=false) :
  QE X (.Compare a [op,op'] [b,c] pos) (Dz (Kl X.K op) (Kl X.K op') da db dc):=by
 intro Ex m pins s σ H Q I h
 refine Compare_chain (thn (ha Ex m pins s σ H _ I h) fun v s1 ⟨x,H1,I1,r1,q1⟩=>chain_link (thn (hb Ex m pins s1 σ H1 _ I1 q1) fun u s2 ⟨y,H2,I2,r2,q2⟩=>
  thn (Kw hu op pins s2 σ H2 x y v u _ I2 r1 r2 q2) fun d s3 ⟨z,H3,I3,r3,q3⟩=>?_)) hm
 cases z with
 | bl k=>
  cases r3
  refine cR ?_
  cases k with
  | false=>exact ite_ff ⟨.bl false,H3,I3,rfl,q3⟩
  | true=>exact ite_tt (chain_last (thn (hc Ex m pins s3 σ H3 _ I3 q3) fun w' s4 ⟨z',H4,I4,r4,q4⟩=>Kw hu op' pins s4 σ H4 y z' u w' Q I4 r2 r4 q4))
 | _=>exact (show False from q3).elim
theorem Y9 (hu:X.A.units+64<cLine) (op op':mw) (ha:QE X a da) (hb:QE X b db) (hc:QE X c dc) (hm:lastMarks [op,op'] [b,c]=false) :
  QT X (.Compare a [op,op'] [b,c] pos) (Bp (Dz (Kl X.K op) (Kl X.K op') da db dc)):=by
 intro Ex m pins s σ H Q I h
 refine isTrue_chain (thn (ha Ex m pins s σ H _ I h) fun v s1 ⟨x,H1,I1,r1,q1⟩=>test_link (thn (hb Ex m pins s1 σ H1 _ I1 q1) fun u s2 ⟨y,H2,I2,r2,q2⟩=>
  thn (Kw hu op pins s2 σ H2 x y v u _ I2 r1 r2 q2) fun d s3 ⟨z,H3,I3,r3,q3⟩=>?_)) hm
 cases z with
 | bl k=>
  cases r3
  refine cR ?_
  cases k with
  | false=>exact ite_ff ⟨H3,I3,q3⟩
  | true=>
   refine ite_tt (test_last (thn (hc Ex m pins s3 σ H3 _ I3 q3) fun w' s4 ⟨z',H4,I4,r4,q4⟩=>thn (Kw hu op' pins s4 σ H4 y z' u w' _ I4 r2 r4 q4) fun d' s5 ⟨z2,H5,I5,r5,q5⟩=>?_))
   cases z2 with
   | bl k2=>cases r5;exact cR ⟨H5,I5,q5⟩
   | _=>exact (show False from q5).elim
 | _=>exact (show False from q3).elim
noncomputable def Ys:Expr->Bool
 | .UnaryOp .Not _ _=>false
 | .BoolOp _ _ _=>false
 | .IfExp _ _ _ _=>false
 | .Compare _ _ _ _=>false
 | _=>true
theorem Vc {e:Expr} (h:Ys e=true) (whole:Sem ah):isTrue e X.env whole=(do let v <- whole;standAt e.pos;mD [v] (truthy v)):=by
 cases e with
 | UnaryOp op _ _=>cases op <;> first|rfl|cases h
 | BoolOp _ _ _=>cases h
 | IfExp _ _ _ _=>cases h
 | Compare _ _ _ _=>cases h
 | _=>rfl
theorem a17 (ha:QE X a da) (h:Ys a=true):QT X a (Da X.K da):=by
 intro Ex m pins s σ H Q I hw
 exact isTrue_plain (thn (ha Ex m pins s σ H _ I hw) fun v s1 ⟨x,H1,I1,r1,q1⟩=>Tv pins s1 σ H1 x v Q I1 r1 q1) (Vc h _)
theorem a16 (ha:QT X a ta):QT X (.UnaryOp .Not a pos) (Dj ta):=fun Ex m=>az1 (ha Ex m)
theorem ah5 (ha:QT X a ta):QW X (.BoolOp .And [a] pos) ta:=fun Ex m=>af9 (ha Ex m)
theorem a19 (ha:QT X a ta):QW X (.BoolOp .Or [a] pos) ta:=fun Ex m=>az4 (ha Ex m)
theorem a18 (ha:QT X a ta) (hb:QW X (.BoolOp .And (b::es) pos) tb):QW X (.BoolOp .And (a::b::es) pos) (Np ta tb):=fun Ex m=>az3 (ha Ex m) (hb Ex m)
theorem ba9 (ha:QT X a ta) (hb:QW X (.BoolOp .Or (b::es) pos) tb):QW X (.BoolOp .Or (a::b::es) pos) (dOr ta tb):=fun Ex m=>ba3 (ha Ex m) (hb Ex m)
theorem a04 {op:BoolOp} (ha:QE X a da):QE X (.BoolOp op [a] pos) da:=fun Ex m=>ay2 (ha Ex m)
theorem az5 (ha:QE X a da) (hb:QE X (.BoolOp .And (b::es) pos) db):QE X (.BoolOp .And (a::b::es) pos) (Nq X.K da db):=by
 intro Ex m pins s σ H Q I h
 refine BoolOp_and (thn (ha Ex m pins s σ H _ I h) fun v s1 ⟨x,H1,I1,r1,q1⟩=>thn (Tv pins s1 σ H1 x v _ I1 r1 q1) fun k s2 ⟨H2,I2,q2⟩=>?_)
 cases k with
 | true=>exact hb Ex m pins s2 σ H2 Q I2 q2
 | false=>exact⟨x,H2,I2,r1,q2⟩
theorem ba7 (ha:QE X a da) (hb:QE X (.BoolOp .Or (b::es) pos) db):QE X (.BoolOp .Or (a::b::es) pos) (a50 X.K da db):=by
 intro Ex m pins s σ H Q I h
 refine BoolOp_or (thn (ha Ex m pins s σ H _ I h) fun v s1 ⟨x,H1,I1,r1,q1⟩=>thn (Tv pins s1 σ H1 x v _ I1 r1 q1) fun k s2 ⟨H2,I2,q2⟩=>?_)
 cases k with
 | false=>exact hb Ex m pins s2 σ H2 Q I2 q2
 | true=>exact⟨x,H2,I2,r1,q2⟩
theorem a03 (ha:QE X a da):QE X (.UnaryOp .Not a pos) (aj8 X.K da):=by
 intro Ex m pins s σ H Q I h
 refine UnaryOp_ (thn (ha Ex m pins s σ H _ I h) fun v s1 ⟨x,H1,I1,r1,q1⟩=>not_of (thn (Tv pins s1 σ H1 x v _ I1 r1 q1) fun k s2 ⟨H2,I2,q2⟩=>?_))
 exact⟨.bl (!k),H2,I2,rfl,q2⟩
theorem ba4 {t:Expr} (ht:QT X t ta) (ha:QE X a da) (hb:QE X b db):QE X (.IfExp t a b pos) (a49 ta da db):=fun Ex m=>Ym (ht Ex m) (ha Ex m) (hb Ex m)
noncomputable def Ay:Expr->Bool
 | .Starred _ _=>false
 | _=>true
theorem Av {e:Expr} (h:Ay e=true) (es:List Expr) (env:Env):cP (e::es) env=(false,eval e env)::cP es env:=by
 cases e with
 | Starred _ _=>cases h
 | _=>rfl
theorem Bo {es:List Expr} (h:es.all Ay=true) (env:Env) (pos:Pos):(iL pos (cP es env)).any (·.1)=false:=by
 induction es with
 | nil=>rfl
 | cons e es ih=>
  rw [bS,aP] at h
  rw [Av h.1]
  show (false||(iL pos (cP es env)).any (·.1))=false
  rw [ih h.2]
  rfl
theorem Hh {es:List Expr} (h:es.all Ay=true) (env:Env) (pos:Pos):(iL pos (cP es env)).all (fun x=>!x.1)=true:=by
 induction es with
 | nil=>rfl
 | cons e es ih=>
  rw [bS,aP] at h
  rw [Av h.1]
  show (true&&(iL pos (cP es env)).all (fun x=>!x.1))=true
  rw [ih h.2]
  rfl
theorem Qq:QA X [] Af:=fun _ _=>ax8
theorem Mu (ha:QE X a da) (hr:QA X es r) (hs:Ay a=true):QA X (a::es) (Ac da r):=fun Ex m=>ae8 (ha Ex m) (hr Ex m) (Av hs es X.env)
theorem a06 {k:Nat} (h:QA X es r):QE X (.Tuple es k pos) (Fg r):=fun Ex m=>ay4 (h Ex m)
theorem az9 (h:QA X es r):QE X (.List es pos) (B9 r):=fun Ex m=>ay0 (h Ex m)
noncomputable def D9:Expr->Bool
 | .Slice _ _ _ _=>false
 | _=>true
theorem Qj {e:Expr} (h:D9 e=true):Rr e:=by
 intro o i
 cases e with
 | Slice _ _ _ _=>cases h
 | _=>rfl
theorem ba5 (hu:X.A.units+64<cLine) (ha:QE X a da) (hb:QE X b db) (h:D9 b=true):QE X (.Subscript a b pos) (Ah (A5 X.K) da db):=fun Ex m=>a98 (bg1 hu) (ha Ex m) (hb Ex m) (Qj h)
theorem ag0 {f:Str} (ha:QE X a da) (h:i5 a f X.env (eval a X.env)=eval a X.env):QE X (.Attribute a f pos) (dUn (B6 X.K f) da):=by
 intro Ex m pins s σ H Q I hw
 exact ab6 h (thn (ha Ex m pins s σ H _ I hw) fun u s1 ⟨x,H1,I1,rx,q⟩=>a56 I1 rx q)
end
end L2
namespace PySem.SeqAt
open AutoSeq1 (wpAny_loadPart')
open MeetsSeq MeetsSeq2 MeetsSeq3
end PySem.SeqAt
namespace PySem.W
open PySem PySem.Calls PyProof.Rows
noncomputable def kRun {α:Type} (n:Nat) (lt:Nat->Nat->Bool):KasT α->Option α
 | .ret a=>some a
 | .ask i j k=>if i<n/\j<n then kRun n lt (k (lt i j)) else none
theorem kRun_wp {α:Type} {n:Nat} {lt:Nat->Nat->Bool} {cmp:Nat->Nat->(Bool->al->Prop)->al->Prop} {G:α->al->Prop} {s:al} (h:∀ i j C,i<n->j<n->C (lt i j) s->cmp i j C s) :
  ∀ {t:KasT α} {a:α},kRun n lt t=some a->G a s->t.kasWp cmp G s
 | .ret b,a,e,g=>by
  have:b=a:=av e
  subst this
  exact g
 | .ask i j k,a,e,g=>by
  unfold kRun at e
  split at e
  ·rename_i hij
   exact h i j _ hij.1 hij.2 (kRun_wp h e g)
  ·cases e
section
variable {prog:aS} {w:bB} {A:a_} {E:ah->al->Prop} {s:al} {vs:List ah}
noncomputable def SoFin (a:Addr) (e:Nat) (out:List ah) (C:al->Prop) (s:al):Prop:=
 s.heap.get? a=some (a8 "list" #[] e) /\ ∀ h' c,h'.get? a=some (a8 "list" (a9 out) c)->bg a s.heap h'->C { s with heap:=h' }
theorem SoFin.mono {a:Addr} {e:Nat} {out:List ah} {C C':al->Prop} (h:SoFin a e out C s) (hc:∀ s,C s->C' s):SoFin a e out C' s:=⟨h.1,fun h' c x y=>hc _ (h.2 h' c x y)⟩
theorem M4 {n:Nat} {a:Addr} {P:kW->al->Prop} (ho:s.heap.get? a=some (a8 "list" vs.toArray n)) (h2:2<=vs.length) (h64:vs.length<64)
  (h:∀ e1 h',h'.get? a=some (a8 "list" #[] e1)->(∀ b o,b≠a->s.heap.get? b=some o->h'.get? b=some o) ->
   aJ (model prog w) A (mE vs.toArray) (fun κ s'=>(kas_sort vs.length).kasWp (kas_ask prog w A κ vs) (fun p s''=>SoFin a e1 (p.toList.map fun i=>vs.getD i bw) (fun s3=>P (.done (.ret .none)) s3) s'') s') (fun _ _=>False) { s with heap:=h' }) :
  aJ (model prog w) A (aB.«list.sort» ⟨[.ref a],[]⟩) P E s:=by
 have ha:a<s.heap.objs.size:=aC ho
 have s1:=bD s.heap a (aW fun _=>(#[]:Array ah))
 obtain⟨e1,ho1⟩:∃ e1,(s.heap.update a (aW fun _=>(#[]:Array ah))).get? a=some (a8 "list" #[] e1):=⟨_,cY ho fun _=>#[]⟩
 have ask:=h e1 (((s.heap.update a (aW fun _=>(#[]:Array ah))).push (a8 "tuple" vs.toArray 0)).push (a8 "list" #[] 0)) (ai _ (ai _ ho1))
  (fun b o nb e=>ai _ (ai _ ((s1.2 b nb).trans e)))
 rw [jV]
 refine ag (ib ho rfl ?_)
 refine ag (c_ ho rfl ?_ (by rw [aq,bz];omega) (bj _))
 refine ag (fv ho1 rfl ?_)
 refine ag (ga ?_ (by show vs.length<=_;rw [bz];omega))
 refine ag (dU ?_ (bj _))
 refine bE ?_
 show aJ (model prog w) A _ P E { s with heap:=((s.heap.update a (aW fun _=>(#[]:Array ah))).push (a8 "tuple" vs.toArray 0)).push (a8 "list" #[] 0) }
 dsimp only
 have hn2:¬ vs.toArray.size<2:=by rw [aq];omega
 rw [if_neg hn2,if_neg hn2]
 refine ag (bR ask (fun κ s0 hk=>?_) fun _ _ x=>x.elim)
 refine ag (bR (kat_run (Q:=fun st' s'=>∃ p:Array Nat,p.size=vs.length/\mo st'=p.map (i8 (vs.toArray.zip vs.toArray))/\k8 st'=none/\SoFin a e1 (p.toList.map fun i=>vs.getD i bw) (fun s''=>P (.done (.ret .none)) s'') s')
  rfl h2 h64 (fun p' st' s' a1 a2 a3 a4=>⟨p',a1,a2,a3,a4⟩) hk) ?_ fun _ _ e=>e)
 rintro⟨⟨⟩,st'⟩ s' ⟨p,hp,har,hf,na,k⟩
 dsimp only
 have hout:=kat_snds rfl har
 have hsz:(a9 (p.toList.map fun i=>vs.getD i bw)).size=vs.length:=by rw [aq,ae,bJ,hp]
 rw [hout]
 have s2:=bD s'.heap a (aW fun _=>a9 (p.toList.map fun i=>vs.getD i bw))
 obtain⟨c2,hc2⟩:∃ c2,(s'.heap.update a (aW fun _=>a9 (p.toList.map fun i=>vs.getD i bw))).get? a=some (a8 "list" (a9 (p.toList.map fun i=>vs.getD i bw)) c2):=⟨_,cY na fun _=>a9 (p.toList.map fun i=>vs.getD i bw)⟩
 refine ag (fv na rfl ?_)
 refine ag (c_ na rfl ?_ (bj _) (aT (lJ hsz) (by rw [bz];omega)))
 rw [hf]
 simp only [bne_self_eq_false,bH,if_false]
 exact ar (k _ c2 hc2 s2)
end
end PySem.W
namespace L2
open PySem PySem.Spec PyProof.Rows
section
variable {X:Cx} {pins:List (Addr×Obj)} {σ:St} {H:Hp} {s:al}
theorem Pe {xs:List V} {us:List ah} (r:Vals xs us) {i:Nat} (h:i<us.length):∃ x,xs[i]? = some x/\RelV x (us.getD i bw):=by
 have hl:=r.length
 obtain⟨u,hu,ru⟩:=r.get (i:=i) (x:=xs[i]'(by omega)) (af (by omega))
 refine⟨_,af (by omega),?_⟩
 rw [ao,hu]
 exact ru
theorem Ln {xs:List V} {us:List ah} (r:Vals xs us):∀ (p:List Nat),(∀ i∈p,i<us.length)->Vals (p.map fun i=>xs.getD i .non) (p.map fun i=>us.getD i bw)
 | [],_=>.nil
 | i::p,h=>by
  obtain⟨x,hx,rx⟩:=Pe r (h i aQ)
  refine .cons ?_ (Ln r p fun j hj=>h j (ay _ hj))
  show RelV (xs.getD i .non) _
  rw [ao,hx]
  exact rx
end
theorem G8:cO "sorted" = some (.builtin "sorted"):=by decide +kernel
end L2
set_option maxHeartbeats 1000000
namespace PySem.W
open PySem PySem.Calls PyProof.Rows
section
variable {n:Nat} {lt:Nat->Nat->Bool}
theorem Cz {α β:Type} {f:α->KasT β}:∀ t:KasT α,kRun n lt (t.bind f)=(kRun n lt t).bind fun a=>kRun n lt (f a)
 | .ret a=>rfl
 | .ask i j k=>by
  show (if i<n/\j<n then kRun n lt ((k (lt i j)).bind f) else none)=(if i<n/\j<n then kRun n lt (k (lt i j)) else none).bind _
  by_cases h:i<n/\j<n
  ·rw [if_pos h,if_pos h,Cz (k (lt i j))]
  ·rw [if_neg h,if_neg h];rfl
structure Tot (n:Nat) (lt:Nat->Nat->Bool):Prop where
 tot:∀ i j,i<n->j<n->i≠j->lt i j = !lt j i
 tr:∀ i j k,i<n->j<n->k<n->lt i j=true->lt j k=true->lt i k=true
noncomputable def pg (p:Array Nat) (i:Nat):Nat:=p.getD i 0
noncomputable def PermN (n:Nat) (p:Array Nat):Prop:=p.toList.Perm (aw n)
theorem PermN.size {p:Array Nat} (h:PermN n p):p.size=n:=by
 have:=h.length_eq
 simpa using this
theorem pg_get {p:Array Nat} {i:Nat} (h:i<p.size):p[i]? = some (pg p i):=by
 unfold pg
 rw [Array.getD_eq_getD_getElem?,fc h]
 rfl
theorem PermN.bd {p:Array Nat} (h:PermN n p) {i:Nat} (hi:i<n):pg p i<n:=by
 have hs:i<p.size:=by rw [h.size];exact hi
 have hm:pg p i∈p.toList:=by
  have:=pg_get hs
  rw [<- cC] at this
  exact am this
 exact List.mem_range.mp (h.mem_iff.mp hm)
theorem PermN.inj {p:Array Nat} (h:PermN n p) {i j:Nat} (hi:i<n) (hj:j<n) (e:pg p i=pg p j):i=j:=by
 have nd:p.toList.Nodup:=(h.nodup_iff).mpr List.nodup_range
 have ei:=pg_get (p:=p) (i:=i) (by rw [h.size];exact hi)
 have ej:=pg_get (p:=p) (i:=j) (by rw [h.size];exact hj)
 rw [<- cC] at ei ej
 have li:i<p.toList.length:=by rw [bJ,h.size];exact hi
 refine (List.getElem?_inj li nd).mp ?_
 rw [ei,ej,e]
noncomputable def Srt (lt:Nat->Nat->Bool) (p:Array Nat) (m:Nat):Prop:=∀ i j,i<j->j<m->lt (pg p i) (pg p j)=true
noncomputable def Dsc (lt:Nat->Nat->Bool) (p:Array Nat) (m:Nat):Prop:=∀ i j,i<j->j<m->lt (pg p j) (pg p i)=true
theorem Do {α:Type} {i j:Nat} {k:Bool->KasT α} (hi:i<n) (hj:j<n):kRun n lt (.ask i j k)=kRun n lt (k (lt i j)):=if_pos ⟨hi,hj⟩
variable (T:Tot n lt) {p:Array Nat} (h:PermN n p)
include T h
theorem Fq:∀ f k,1<=k->k+f<=n->Srt lt p k -> ∃ m,kRun n lt (mk p f k)=some m/\k<=m/\m<=k+f/\Srt lt p m
 | 0,k,h1,h2,hs=>⟨k,rfl,aj _,aj _,hs⟩
 | f+1,k,h1,h2,hs=>by
  have e:kRun n lt (mk p (f+1) k)=kRun n lt (if lt (pg p k) (pg p (k - 1))=true then .ret k else mk p f (k+1)):=Do (h.bd (by omega)) (h.bd (by omega))
  rw [e]
  cases c:lt (pg p k) (pg p (k - 1)) with
  | true=>exact⟨k,rfl,aj _,by omega,hs⟩
  | false=>
   have c1:lt (pg p (k - 1)) (pg p k)=true:=by
    rw [T.tot _ _ (h.bd (by omega)) (h.bd (by omega)) (fun q=>by have:=h.inj (by omega) (by omega) q;omega),c];rfl
   obtain⟨m,r1,r2,r3,r4⟩:=Fq f (k+1) (by omega) (by omega) (fun i j hij hj=>by
    by_cases hk:j<k
    ·exact hs i j hij hk
    ·have:j=k:=by omega
     subst this
     by_cases hi:i=j - 1
     ·subst hi;exact c1
     ·exact T.tr _ _ _ (h.bd (by omega)) (h.bd (by omega)) (h.bd (by omega)) (hs i (j - 1) (by omega) (by omega)) c1)
   exact⟨m,r1,by omega,by omega,r4⟩
theorem Nv:∀ f k,1<=k->k+f<=n->Dsc lt p k -> ∃ m,kRun n lt (k_ f p k 0)=some (p,m,0)/\k<=m/\m<=k+f/\Dsc lt p m
 | 0,k,h1,h2,hs=>⟨k,rfl,aj _,aj _,hs⟩
 | f+1,k,h1,h2,hs=>by
  have e:kRun n lt (k_ (f+1) p k 0)=kRun n lt (if lt (pg p k) (pg p (k - 1))=true then (if 0 > 0 then k_ f (jU p (k - (0+1)) k) (k+1) 0 else k_ f p (k+1) 0) else .ask (pg p (k - 1)) (pg p k) fun d=>if d=true then .ret (p,k,0) else k_ f p (k+1) (0+1)):=Do (h.bd (by omega)) (h.bd (by omega))
  rw [e]
  cases c:lt (pg p k) (pg p (k - 1)) with
  | true=>
   rw [if_pos rfl,if_neg (by omega)]
   obtain⟨m,r1,r2,r3,r4⟩:=Nv f (k+1) (by omega) (by omega) (fun i j hij hj=>by
    by_cases hk:j<k
    ·exact hs i j hij hk
    ·have:j=k:=by omega
     subst this
     by_cases hi:i=j - 1
     ·subst hi;exact c
     ·exact T.tr _ _ _ (h.bd (by omega)) (h.bd (by omega)) (h.bd (by omega)) c (hs i (j - 1) (by omega) (by omega)))
   exact⟨m,r1,by omega,by omega,r4⟩
  | false=>
   have c1:lt (pg p (k - 1)) (pg p k)=true:=by
    rw [T.tot _ _ (h.bd (by omega)) (h.bd (by omega)) (fun q=>by have:=h.inj (by omega) (by omega) q;omega),c];rfl
   rw [if_neg au,Do (h.bd (by omega)) (h.bd (by omega)),c1]
   exact⟨k,rfl,aj _,by omega,hs⟩
omit T in
theorem ah7 {m:Nat} (hm:m<=n) (hd:Dsc lt p m):PermN n (jU p 0 m)/\Srt lt (jU p 0 m) m:=by
 have hp:PermN n (jU p 0 m):=by
  have:=mirror_perm p 0 m ((m - 0) / 2)
  exact (Array.perm_iff_toList_perm.mp this).trans h
 have gt:∀ k,k<m->pg (jU p 0 m) k=pg p (m - 1 - k):=fun k hk=>by
  have e:=getElem?_mirror_all (xs:=p) (i:=0) (j:=m) (by rw [h.size];exact hm) k
  have e1:(jU p 0 m)[k]? = some (pg (jU p 0 m) k):=pg_get (by rw [hp.size];omega)
  have e2:p[m - 1 - k]? = some (pg p (m - 1 - k)):=pg_get (by rw [h.size];omega)
  have e':(jU p 0 m)[k]? = p[m - 1 - k]?:=by
   refine e.trans ?_
   rw [if_pos (by omega)]
   congr 1
   omega
  rw [e1,e2] at e'
  exact av e'
 refine⟨hp,fun i j hij hj=>?_⟩
 rw [gt i (by omega),gt j hj]
 exact hd _ _ (by omega) (by omega)
theorem Ud (hn:1<=n):∃ m p',kRun n lt (k9 n p)=some (m,p')/\PermN n p'/\1<=m/\m<=n/\Srt lt p' m:=by
 obtain⟨m,r1,r2,r3,r4⟩:=Fq T h (n - 1) 1 (aj _) (by omega) (fun i j hij hj=>by omega)
 unfold k9
 rw [Cz,r1,gu]
 by_cases hm:m=n
 ·have e:(m==n)=true:=by rw [hm];exact beq_self_eq_true n
  rw [if_pos e]
  exact⟨m,p,rfl,h,r2,by omega,r4⟩
 ·have e:¬ (m==n)=true:=fun q=>hm (beq_iff_eq.mp q)
  rw [if_neg e]
  by_cases h1:m > 1
  ·rw [if_pos h1]
   have:=Do (n:=n) (lt:=lt) (k:=fun c=>if c=true then KasT.ret (m,p) else kas_descPart m n (jU p 0 m)) (h.bd (i:=0) (by omega)) (h.bd (i:=m - 1) (by omega))
   refine⟨m,p,this.trans ?_,h,r2,by omega,r4⟩
   have e1:lt (pg p 0) (pg p (m - 1))=true:=r4 0 (m - 1) (by omega) (by omega)
   rw [e1]
   rfl
  ·rw [if_neg h1]
   have hm1:m=1:=by omega
   subst hm1
   unfold kas_descPart
   have hd:∃ d,kRun n lt (k_ (n - (1+1)) p (1+1) 0)=some (p,d,0)/\1<=d/\d<=n/\Dsc lt p d:=by
    by_cases c:lt (pg p 1) (pg p 0)=true
    ·obtain⟨d,q1,q2,q3,q4⟩:=Nv T h (n - 2) 2 (by omega) (by omega) (fun i j hij hj=>by
      have:i=0:=by omega
      have:j=1:=by omega
      subst i j;exact c)
     exact⟨d,q1,by omega,by omega,q4⟩
    ·exfalso
     have e:=Fq T h (n - 1) 1 (aj _) (by omega) (fun i j hij hj=>by omega)
     obtain⟨m',a1,a2,a3,a4⟩:=e
     obtain⟨f,hf⟩:∃ f,n - 1=f+1:=⟨n - 2,by omega⟩
     rw [hf] at r1
     have e2:kRun n lt (mk p (f+1) 1)=kRun n lt (if lt (pg p 1) (pg p (1 - 1))=true then .ret 1 else mk p f (1+1)):=Do (h.bd (by omega)) (h.bd (by omega))
     rw [e2,if_neg c] at r1
     have c0:lt (pg p 1) (pg p 0)=false:=by simpa using c
     have c1:lt (pg p 0) (pg p 1)=true:=by
      rw [T.tot _ _ (h.bd (by omega)) (h.bd (by omega)) (fun q=>by have:=h.inj (by omega) (by omega) q;omega),c0];rfl
     obtain⟨m2,b1,b2,b3,b4⟩:=Fq T h f 2 (by omega) (by omega) (fun i j hij hj=>by
      have:i=0:=by omega
      have:j=1:=by omega
      subst i j;exact c1)
     rw [r1] at b1
     cases b1
     omega
   obtain⟨d,q1,q2,q3,q4⟩:=hd
   rw [Cz,q1,gu]
   show ∃ m p',kRun n lt (if 0 > 0 then _ else kas_tail3 d n p)=some (m,p')/\_
   rw [if_neg (by omega)]
   unfold kas_tail3
   obtain⟨hp,hs⟩:=ah7 h q3 q4
   obtain⟨m',a1,a2,a3,a4⟩:=Fq T hp (n - d) d q2 (by omega) hs
   rw [Cz,a1,gu]
   exact⟨m',_,rfl,hp,by omega,by omega,a4⟩
theorem G0 {k:Nat} (hk:k<n) (hs:Srt lt p k):∀ f l r,l<=r->r<=k->r - l<=f->(∀ i,i<l->lt (pg p i) (pg p k)=true)->(∀ i,r<=i->i<k->lt (pg p k) (pg p i)=true) ->
  ∃ m,kRun n lt (gY p k f l r)=some m/\m<=k/\(∀ i,i<m->lt (pg p i) (pg p k)=true)/\(∀ i,m<=i->i<k->lt (pg p k) (pg p i)=true)
 | 0,l,r,h1,h2,h3,hl,hr=>⟨l,rfl,by omega,hl,fun i a b=>hr i (by omega) b⟩
 | f+1,l,r,h1,h2,h3,hl,hr=>by
  by_cases hlr:l ≥ r
  ·have e:gY p k (f+1) l r=.ret l:=by unfold gY;rw [if_pos hlr]
   rw [e]
   exact⟨l,rfl,by omega,hl,fun i a b=>hr i (by omega) b⟩
  ·have e:kRun n lt (gY p k (f+1) l r)=kRun n lt (if lt (pg p k) (pg p ((l+r) / 2))=true then gY p k f l ((l+r) / 2) else gY p k f ((l+r) / 2+1) r):=by
    conv=>lhs;unfold gY
    rw [if_neg hlr]
    exact Do (h.bd hk) (h.bd (by omega))
   rw [e]
   have hm1:l<=(l+r) / 2:=by omega
   have hm2:(l+r) / 2<r:=by omega
   generalize (l+r) / 2=mid at hm1 hm2 ⊢
   cases c:lt (pg p k) (pg p mid) with
   | true=>
    rw [if_pos rfl]
    refine G0 hk hs f l mid hm1 (by omega) (by omega) hl fun i a b=>?_
    by_cases hi:i=mid
    ·subst hi;exact c
    ·exact T.tr _ _ _ (h.bd hk) (h.bd (by omega)) (h.bd (by omega)) c (hs mid i (by omega) b)
   | false=>
    rw [if_neg au]
    have c1:lt (pg p mid) (pg p k)=true:=by
     rw [T.tot _ _ (h.bd (by omega)) (h.bd hk) (fun q=>by have:=h.inj (by omega) hk q;omega),c];rfl
    refine G0 hk hs f (mid+1) r (by omega) h2 (by omega) (fun i a=>?_) hr
    by_cases hi:i=mid
    ·subst hi;exact c1
    ·exact T.tr _ _ _ (h.bd (by omega)) (h.bd (by omega)) (h.bd hk) (hs i mid (by omega) (by omega)) c1
omit T in
theorem Pm {k l:Nat} (hk:k<n) (hl:l<=k) (hs:Srt lt p k) (h1:∀ i,i<l->lt (pg p i) (pg p k)=true) (h2:∀ i,l<=i->i<k->lt (pg p k) (pg p i)=true):PermN n (mq p k (k - l))/\Srt lt (mq p k (k - l)) (k+1):=by
 have hp:PermN n (mq p k (k - l)):=(Array.perm_iff_toList_perm.mp (bubble_perm p k (k - l))).trans h
 have hk':k<p.size:=by rw [h.size];exact hk
 have gt:∀ i,i<k+1->pg (mq p k (k - l)) i=if i=l then pg p k else if l<i then pg p (i - 1) else pg p i:=fun i hi=>by
  have e:=getElem?_bubble hk' (k - l) (by omega) i
  have e1:(mq p k (k - l))[i]? = some (pg (mq p k (k - l)) i):=pg_get (by rw [hp.size];omega)
  rw [e1,show k - (k - l)=l by omega] at e
  by_cases a:i=l
  ·rw [if_pos a] at e ⊢
   rw [pg_get hk'] at e
   exact av e
  ·rw [if_neg a] at e ⊢
   by_cases b:l<i
   ·rw [if_pos ⟨b,by omega⟩] at e
    rw [if_pos b]
    rw [pg_get (by rw [h.size];omega)] at e
    exact av e
   ·rw [if_neg (fun q=>b q.1)] at e
    rw [if_neg b]
    rw [pg_get (by rw [h.size];omega)] at e
    exact av e
 refine⟨hp,fun i j hij hj=>?_⟩
 rw [gt i (by omega),gt j hj]
 by_cases a:i=l
 ·rw [if_pos a,if_neg (by omega),if_pos (by omega)]
  exact h2 (j - 1) (by omega) (by omega)
 ·rw [if_neg a]
  by_cases b:l<i
  ·rw [if_pos b,if_neg (by omega),if_pos (by omega)]
   exact hs (i - 1) (j - 1) (by omega) (by omega)
  ·rw [if_neg b]
   by_cases c:j=l
   ·rw [if_pos c];exact h1 i (by omega)
   ·rw [if_neg c]
    by_cases d:l<j
    ·rw [if_pos d]
     exact hs i (j - 1) (by omega) (by omega)
    ·rw [if_neg d];exact hs i j hij (by omega)
end
theorem Rz {n:Nat} {lt:Nat->Nat->Bool} (T:Tot n lt):∀ (f:Nat) (p:Array Nat) (k:Nat),PermN n p->k+f=n->Srt lt p k -> ∃ p',kRun n lt (kas_bin f p k)=some p'/\PermN n p'/\Srt lt p' n
 | 0,p,k,h,e,hs=>⟨p,rfl,h,by rw [<- e];exact hs⟩
 | f+1,p,k,h,e,hs=>by
  obtain⟨l,a1,a2,a3,a4⟩:=G0 T h (k:=k) (by omega) hs k 0 k (bj _) (aj _) (by omega) (fun i hi=>by omega) (fun i a b=>by omega)
  obtain⟨b1,b2⟩:=Pm h (by omega) a2 hs a3 a4
  obtain⟨p',c1,c2,c3⟩:=Rz T f _ (k+1) b1 (by omega) b2
  refine⟨p',?_,c2,c3⟩
  show kRun n lt ((gY p k k 0 k).bind fun l=>kas_bin f (mq p k (k - l)) (k+1))=some p'
  rw [Cz,a1]
  exact c1
theorem sort_run {n:Nat} {lt:Nat->Nat->Bool} (T:Tot n lt) (hn:1<=n):∃ p,kRun n lt (kas_sort n)=some p/\PermN n p/\Srt lt p n:=by
 have h0:PermN n (a9 (aw n)):=by show (a9 (aw n)).toList.Perm _;exact ii _
 obtain⟨m,p,r1,r2,r3,r4,r5⟩:=Ud T h0 hn
 unfold kas_sort
 rw [Cz,r1,gu]
 show ∃ q,kRun n lt (if m<n then kas_bin (n - max m 1) p (max m 1) else .ret p)=some q/\_
 by_cases h:m<n
 ·rw [if_pos h,Nat.max_eq_left r3]
  exact Rz T (n - m) p m r2 (by omega) r5
 ·rw [if_neg h]
  have:m=n:=by omega
  subst this
  exact⟨p,rfl,r2,r5⟩
end PySem.W
namespace L2
open PySem PySem.Spec PyProof.Rows
section
variable {α:Type}
noncomputable def Up (lt:α->α->Bool) (z:α):List α->List α
 | []=>[z]
 | y::ys=>if lt z y=true then z::y::ys else y::Up lt z ys
noncomputable def Cs (lt:α->α->Bool):List α->List α
 | []=>[]
 | z::zs=>Up lt z (Cs lt zs)
structure OrdL (lt:α->α->Bool) (zs:List α):Prop where
 tot:∀ a∈zs,∀ b∈zs,a≠b->lt a b = !lt b a
 tr:∀ a∈zs,∀ b∈zs,∀ c∈zs,lt a b=true->lt b c=true->lt a c=true
 nd:zs.Nodup
theorem Go (lt:α->α->Bool) (z:α):∀ ys:List α,(Up lt z ys).Perm (z::ys)
 | []=>ii _
 | y::ys=>by
  unfold Up
  split
  ·exact ii _
  ·exact ((Go lt z ys).cons y).trans (List.Perm.swap z y ys)
theorem Az (lt:α->α->Bool):∀ zs:List α,(Cs lt zs).Perm zs
 | []=>ii _
 | z::zs=>(Go lt z _).trans ((Az lt zs).cons z)
theorem OrdL.of {lt:α->α->Bool} {zs ys:List α} (h:OrdL lt zs) (hs:∀ a∈ys,a∈zs) (nd:ys.Nodup):OrdL lt ys:=⟨fun a ha b hb=>h.tot a (hs a ha) b (hs b hb),fun a ha b hb c hc=>h.tr a (hs a ha) b (hs b hb) c (hs c hc),nd⟩
theorem K3 {lt:α->α->Bool} {z:α}:∀ {ys:List α},OrdL lt (z::ys)->ys.Pairwise (fun a b=>lt a b=true)->(Up lt z ys).Pairwise (fun a b=>lt a b=true)
 | [],_,_=>List.pairwise_singleton _ _
 | y::ys,h,hp=>by
  rw [d7] at hp
  have nd:=h.nd
  rw [bM] at nd
  have ny:=nd.2
  rw [bM] at ny
  unfold Up
  split
  ·rename_i c
   refine List.pairwise_cons.mpr ⟨fun b hb=>?_,List.pairwise_cons.mpr hp⟩
   rcases List.mem_cons.mp hb with rfl|hb'
   ·exact c
   ·exact h.tr z (.head _) y (.tail _ (.head _)) b (.tail _ hb) c (hp.1 b hb')
  ·rename_i c
   have c:lt z y=false:=by simpa using c
   have c1:lt y z=true:=by rw [h.tot y (.tail _ (.head _)) z (.head _) (fun e=>nd.1 (e▸.head _)),c];rfl
   have hz:OrdL lt (z::ys):=h.of (fun a ha=>by rcases List.mem_cons.mp ha with rfl|q;exact .head _;exact .tail _ (.tail _ q)) (List.nodup_cons.mpr ⟨fun q=>nd.1 (.tail _ q),ny.2⟩)
   refine List.pairwise_cons.mpr ⟨fun b hb=>?_,K3 hz hp.2⟩
   rcases List.mem_cons.mp ((Go lt z ys).mem_iff.mp hb) with rfl|hb'
   ·exact c1
   ·exact hp.1 b hb'
theorem Fa {lt:α->α->Bool}:∀ {zs:List α},OrdL lt zs->(Cs lt zs).Pairwise (fun a b=>lt a b=true)
 | [],_=>iz
 | z::zs,h=>by
  have nd:=List.nodup_cons.mp h.nd
  have hz:OrdL lt zs:=h.of (fun a ha=>.tail _ ha) nd.2
  refine K3 (h.of (fun a ha=>?_) ?_) (Fa hz)
  ·rcases List.mem_cons.mp ha with rfl|q
   ·exact .head _
   ·exact .tail _ ((Az lt zs).mem_iff.mp q)
  ·exact List.nodup_cons.mpr ⟨fun q=>nd.1 ((Az lt zs).mem_iff.mp q),((Az lt zs).nodup_iff).mpr nd.2⟩
theorem G5 {lt:α->α->Bool}:∀ {xs ys:List α},OrdL lt xs->xs.Perm ys->xs.Pairwise (fun a b=>lt a b=true)->ys.Pairwise (fun a b=>lt a b=true)->xs=ys
 | [],ys,_,h,_,_=>(List.Perm.nil_eq h)
 | x::xs,[],_,h,_,_=>absurd h.symm.nil_eq (by simp)
 | x::xs,y::ys,o,h,hx,hy=>by
  rw [d7] at hx hy
  have e:x=y:=by
   apply ig
   intro ne
   have m1:x∈ys:=by
    have:x∈y::ys:=h.mem_iff.mp (.head _)
    rcases List.mem_cons.mp this with q|q
    ·exact absurd q ne
    ·exact q
   have m2:y∈xs:=by
    have:y∈x::xs:=h.mem_iff.mpr (.head _)
    rcases List.mem_cons.mp this with q|q
    ·exact absurd q.symm ne
    ·exact q
   have a:=hx.1 y m2
   have b:=hy.1 x m1
   rw [o.tot x (.head _) y (.tail _ m2) ne,b] at a
   cases a
  subst e
  have nd:=List.nodup_cons.mp o.nd
  rw [G5 (o.of (fun a ha=>.tail _ ha) nd.2) ((List.perm_cons x).mp h) hx.2 hy.2]
theorem Lj {lt:α->α->Bool} {xs ys:List α} (h:xs.Perm ys) (o:OrdL lt xs):Cs lt xs=Cs lt ys:=by
 have o2:OrdL lt ys:=o.of (fun a ha=>h.mem_iff.mpr ha) ((h.nodup_iff).mp o.nd)
 exact G5 (o.of (fun a ha=>(Az lt xs).mem_iff.mp ha) (((Az lt xs).nodup_iff).mpr o.nd)) ((Az lt xs).trans (h.trans (Az lt ys).symm)) (Fa o) (Fa o2)
theorem Vr {lt:α->α->Bool} {zs:List α} (d:α) (o:OrdL lt zs) (hn:1<=zs.length) :
  ∃ p,PySem.W.kRun zs.length (fun i j=>lt (zs.getD i d) (zs.getD j d)) (PySem.W.kas_sort zs.length)=some p/\p.toList.length=zs.length/\(∀ i∈p.toList,i<zs.length)/\(p.toList.map fun i=>zs.getD i d)=Cs lt zs:=by
 have gm:∀ i,i<zs.length->zs.getD i d∈zs:=fun i hi=>by rw [ao,af hi];exact cK hi
 have gi:∀ i j,i<zs.length->j<zs.length->zs.getD i d=zs.getD j d->i=j:=fun i j hi hj e=>by
  rw [ao,af hi,ao,af hj] at e
  exact (cJ o.nd).mp e
 obtain⟨p,h1,h2,h3⟩:=PySem.W.sort_run (n:=zs.length) (lt:=fun i j=>lt (zs.getD i d) (zs.getD j d)) ⟨fun i j hi hj ne=>o.tot _ (gm i hi) _ (gm j hj) (fun e=>ne (gi i j hi hj e)),fun i j k hi hj hk=>o.tr _ (gm i hi) _ (gm j hj) _ (gm k hk)⟩ hn
 have hp:(p.toList.map fun i=>zs.getD i d).Perm zs:=by
  have q:=h2.map (fun i=>zs.getD i d)
  have e:((aw zs.length).map fun i=>zs.getD i d)=zs:=by
   apply fX
   intro i
   rw [ak]
   by_cases hi:i<zs.length
   ·rw [dj hi,af hi,jL,ao,af hi];rfl
   ·rw [cD (by simp;omega),cD (by omega)];rfl
  rw [e] at q
  exact q
 refine⟨p,h1,by rw [bJ,h2.size],fun i hi=>List.mem_range.mp (h2.mem_iff.mp hi),?_⟩
 refine G5 (o.of (fun a ha=>hp.mem_iff.mp ha) ((hp.nodup_iff).mpr o.nd)) (hp.trans (Az lt zs).symm) ?_ (Fa o)
 rw [cT]
 intro i j hi hj hij
 rw [ae,bJ,h2.size] at hi hj
 have g:∀ k (hk:k<zs.length),∃ hk',(p.toList.map fun i=>zs.getD i d)[k]'hk'=zs.getD (PySem.W.pg p k) d:=fun k hk=>by
  have e:=PySem.W.pg_get (p:=p) (i:=k) (by rw [h2.size];exact hk)
  rw [<- cC] at e
  obtain⟨a,b⟩:=List.getElem?_eq_some_iff.mp e
  refine⟨by rw [ae];exact a,?_⟩
  rw [b9,b]
 obtain⟨a1,b1⟩:=g i hi
 obtain⟨a2,b2⟩:=g j hj
 rw [b1,b2]
 exact h3 i j hij hj
end
noncomputable def ltS (a b:Str):Bool:=decide (a.cps.toList<b.cps.toList)
theorem Mn {zs:List Str} (nd:zs.Nodup):OrdL ltS zs where
 nd:=nd
 tot:=fun a _ b _ ne=>by
  unfold ltS
  rw [<- decide_not]
  refine decide_eq_decide.mpr ⟨fun h q=>List.lt_irrefl _ (List.lt_trans h q),fun h=>?_⟩
  apply ig
  intro q
  exact ne (Str.ext' (Array.toList_inj.mp (List.le_antisymm (List.not_lt.mp h) (List.not_lt.mp q))))
 tr:=fun a _ b _ c _ h q=>by
  unfold ltS at h q ⊢
  exact decide_eq_true (List.lt_trans (of_decide_eq_true h) (of_decide_eq_true q))
end L2
namespace PySem.W
open PySem PySem.Calls PyProof.Rows
section
variable {prog:aS} {w:bB} {A:a_} {E:ah->al->Prop} {s:al} {vs:List ah}
theorem collect_src {T:String} {r d:Addr} {n:Nat} {P:Nat->ah->Prop} {OK:Heap->Prop} {Q:List ah->al->Prop} (K:KdlSrc prog w T r d n P OK) (hh:A.handled=none) (hok:OK s.heap) (hn:n<=sizeLine)
  (h:∀ h' tk (us:List ah),(∀ b o,s.heap.get? b=some o->h'.get? b=some o)->s.heap.objs.size<h'.objs.size->us.length=n->(∀ j v,us[j]? = some v->P j v)->Q us { s with heap:=h',toks:=tk }) :
  aJ (model prog w) A (mB (.ref r)) Q E s:=by
 have hlt:=K.there _ hok
 unfold mB
 refine ag (wpAny_runValue (cX entry_proto_collect' ?_))
 show aJ _ _ (do again (.builtin "list.__iadd__" ⟨[<- newList [],.ref r],[]⟩)) _ _ s
 refine ag (dU (ar ⟨kK _ (by decide +kernel),cX entry_list_iadd' ?_⟩))
 show aJ _ _ (Builtin.List.listExtendWith (.ref s.heap.objs.size) (.ref r) (.ref s.heap.objs.size)) _ _ { s with heap:=s.heap.push (a8 "list" #[] 0) }
 rw [cH PySem.F.plain_list_iadd _]
 refine kdl_extend (A:=A) (R:=wants _ _) (s:={ s with heap:=s.heap.push (a8 "list" #[] 0) }) K hh (K.keep _ _ hok fun b _ o e=>ai _ e) s.heap.objs.size (gh hlt.1) (gh hlt.2) _ 0 (az _ rfl) (fun h' tk acc' c' hk hS' hacc=>?_) hn
 show aJ (model prog w) A (do
   let o <- load s.heap.objs.size
   match o.data with
   | .seq xs _=>pure xs.toList
   | _=>unsupported "internal:collect") Q E { s with heap:=h',toks:=tk }
 refine ag (wpAny_load hS' ?_)
 exact ar (h h' tk acc'.toList (fun b o e=>hk b o (aN (aC e)) (ai _ e)) (aC hS') (by rw [bJ];exact hacc.1) fun j v e=>hacc.2 j v (by rw [<- cC];exact e))
theorem Ff {n:Nat} {a:Addr} {P:kW->al->Prop} (ho:s.heap.get? a=some (a8 "list" vs.toArray n)) (h2:vs.length<2)
  (h:∀ h' c,h'.get? a=some (a8 "list" vs.toArray c)->(∀ b o,b≠a->s.heap.get? b=some o->h'.get? b=some o)->P (.done (.ret .none)) { s with heap:=h' }) :
  aJ (model prog w) A (aB.«list.sort» ⟨[.ref a],[]⟩) P E s:=by
 have ha:a<s.heap.objs.size:=aC ho
 have s1:=bD s.heap a (aW fun _=>(#[]:Array ah))
 obtain⟨e1,ho1⟩:∃ e1,(s.heap.update a (aW fun _=>(#[]:Array ah))).get? a=some (a8 "list" #[] e1):=⟨_,cY ho fun _=>#[]⟩
 rw [jV]
 refine ag (ib ho rfl ?_)
 refine ag (c_ ho rfl ?_ (by rw [aq,bz];omega) (bj _))
 refine ag (fv ho1 rfl ?_)
 refine ag (ga ?_ (by show vs.length<=_;rw [bz];omega))
 refine ag (dU ?_ (bj _))
 refine bE ?_
 show aJ (model prog w) A _ P E { s with heap:=((s.heap.update a (aW fun _=>(#[]:Array ah))).push (a8 "tuple" vs.toArray 0)).push (a8 "list" #[] 0) }
 dsimp only
 have hn2:vs.toArray.size<2:=by rw [aq];omega
 rw [if_pos hn2,if_pos hn2]
 refine ag (ar ?_)
 rw [StateT.run_pure]
 refine ag (ar ?_)
 dsimp only
 have ho6:(((s.heap.update a (aW fun _=>(#[]:Array ah))).push (a8 "tuple" vs.toArray 0)).push (a8 "list" #[] 0)).get? a=some (a8 "list" #[] e1):=ai _ (ai _ ho1)
 have o6:∀ b o,b≠a->s.heap.get? b=some o->(((s.heap.update a (aW fun _=>(#[]:Array ah))).push (a8 "tuple" vs.toArray 0)).push (a8 "list" #[] 0)).get? b=some o:=fun b o nb e=>ai _ (ai _ ((s1.2 b nb).trans e))
 generalize ((s.heap.update a (aW fun _=>(#[]:Array ah))).push (a8 "tuple" vs.toArray 0)).push (a8 "list" #[] 0)=h6 at ho6 o6 ⊢
 have hout:ix (fun x:Keyed=>x.snd) (mo (gN mC (vs.toArray.zip vs.toArray) #[] 7 none))=vs.toArray:=by
  show ix (fun x:Keyed=>x.snd) (vs.toArray.zip vs.toArray)=vs.toArray
  apply Array.ext'
  simp only [Array.toList_map,Array.toList_zip]
  exact List.map_snd_zip (aj _)
 refine ag (fv (s:={ s with heap:=h6 }) ho6 rfl ?_)
 refine ag (c_ (s:={ s with heap:=h6 }) ho6 rfl ?_ (bj _) (by rw [hout,aq,bz];omega))
 have s2:=bD h6 a (aW fun _=>ix (fun x:Keyed=>x.snd) (mo (gN mC (vs.toArray.zip vs.toArray) #[] 7 none)))
 obtain⟨c2,hc2⟩:∃ c2,(h6.update a (aW fun _=>ix (fun x:Keyed=>x.snd) (mo (gN mC (vs.toArray.zip vs.toArray) #[] 7 none)))).get? a=some (a8 "list" (ix (fun x:Keyed=>x.snd) (mo (gN mC (vs.toArray.zip vs.toArray) #[] 7 none))) c2):=⟨_,cY ho6 fun _=>_⟩
 rw [hout] at hc2 s2 ⊢
 simp only [bne_self_eq_false,bH,if_false]
 exact ar (h _ c2 hc2 fun b o nb e=>(s2.2 b nb).trans (o6 b o nb e))
theorem so_sortedG {x:ah} {OKQ:List ah->al->Prop} {Q:ah->al->Prop} (hc:∀ R:List ah->al->Prop,(∀ us s',OKQ us s'->R us s')->aJ (model prog w) A.in1 (mB x) R (fun _ _=>False) s)
  (h:∀ us s',OKQ us s'->us.length<64/\((us.length<2 -> ∀ h2 c,h2.get? s'.heap.objs.size=some (a8 "list" us.toArray c)->(∀ b o,s'.heap.get? b=some o->h2.get? b=some o)->Q (.ref s'.heap.objs.size) { s' with heap:=h2 })/\(2<=us.length -> ∀ D e1 h2,s'.heap.objs.size<=D->h2.get? D=some (a8 "list" #[] e1)->(∀ b o,s'.heap.get? b=some o->h2.get? b=some o) ->
   aJ (model prog w) A.in1.in1 (mE us.toArray) (fun κ s''=>(kas_sort us.length).kasWp (kas_ask prog w A.in1.in1 κ us) (fun p s3=>SoFin D e1 (p.toList.map fun i=>us.getD i bw) (fun s4=>Q (.ref D) s4) s3) s'') (fun _ _=>False) { s' with heap:=h2 }))) :
  aJ (model prog w) A (call (.builtin "sorted") [x]) Q E s:=by
 refine ie ml lQ lP (args_sorted1 _) ?_
 unfold aB.«sorted»
 refine ag (m:=checkCount "sorted" 1 1 _) (ar ?_)
 refine ag (bR (hc _ fun us s' ok=>?_) (fun _ _ z=>z) fun _ _ z=>z.elim)
 obtain⟨h64,hs,hb⟩:=h us s' ok
 refine ag (dU ?_ (by rw [bz];omega))
 have hoL:(s'.heap.push (a8 "list" us.toArray 0)).get? s'.heap.objs.size=some (a8 "list" us.toArray 0):=az _ rfl
 show aJ _ _ _ _ _ { s' with heap:=s'.heap.push (a8 "list" us.toArray 0) }
 refine ag (bE (cq km ⟨_,hoL,rfl⟩ jT ?body (args_list_sort _)))
 case body=>
  by_cases h2:2<=us.length
  ·refine M4 (s:={ s' with heap:=s'.heap.push (a8 "list" us.toArray 0) }) hoL h2 h64 fun e1 h2' g k=>?_
   refine bR (hb h2 _ e1 h2' (aj _) g fun b o q=>k b o (aN (aC q)) (ai _ q)) (fun κ s' hk=>?_) fun _ _ x=>x
   rw [kat_ask_eq rfl] at hk ⊢
   exact kas_wp_mono hk fun p s'' hk'=>hk'.mono fun s3 hq=>⟨_,rfl,ar ⟨_,rfl,hq⟩⟩
  ·have h2:us.length<2:=by omega
   refine Ff (s:={ s' with heap:=s'.heap.push (a8 "list" us.toArray 0) }) hoL h2 fun h3 c g k=>?_
   exact⟨_,rfl,ar ⟨_,rfl,hs h2 h3 c g fun b o q=>k b o (aN (aC q)) (ai _ q)⟩⟩
end
end PySem.W
namespace L2
open PySem PySem.Spec PyProof.Rows
theorem Tx:∀ {xs:List V} {us:List ah},xs.length=us.length->(∀ (i:Nat) x u,xs[i]? = some x->us[i]? = some u->RelV x u)->Vals xs us
 | [],[],_,_=>.nil
 | [],_::_,h,_=>by simp at h
 | _::_,[],h,_=>by simp at h
 | x::xs,u::us,h,g=>.cons (g 0 x u rfl rfl) (Tx (by simpa using h) fun i a b ha hb=>g (i+1) a b ha hb)
theorem K8 {P:aS} {w:bB} {kvs:List (Key×V)} {vs:List (Key×ah)} {us:List ah} (rel:KV kvs vs) (hl:us.length=vs.length) (h:∀ (j:Nat) v,us[j]? = some v -> ∃ k x,vs[j]? = some (k,x)/\(A0 P w).is k v=true):Vals (kvs.map fun kv=>kV kv.1) us:=by
 refine Tx (by rw [ae,rel.length,hl]) fun i x u hx hu=>?_
 obtain⟨k,y,hk,his⟩:=h i u hu
 have e:(kvs.map (·.1))[i]? = some k:=by rw [rel.keys,ak,hk];rfl
 rw [ak] at hx e
 obtain⟨kv,hkv,rfl⟩:=Option.map_eq_some_iff.mp hx
 rw [hkv] at e
 cases e
 exact Ml his
section
variable {X:Cx}
noncomputable def Ze (K:ac):List V->Hp->VK->Prop:=fun xs H Q=>∃ p zs,xs=[.ref p]/\(SqL K H p (zs.map V.str) \/ ∃ kvs,Rd H p (.dK kvs)/\kvs.map (·.1)=zs.map gv)/\zs.Nodup/\zs.length<64 /\ ∀ D,H D=none->Q (.ref D) (upd H D (.lst ((Cs ltS zs).map V.str)))
theorem Tq {zs:List Str} (h:zs.length<2):Cs ltS zs=zs:=by
 match zs,h with
 | [],_=>rfl
 | [z],_=>rfl
theorem Ri {zs:List Str} {us:List ah} (r:Vals (zs.map V.str) us) {i:Nat} (h:i<zs.length):∃ t,us.getD i bw=.str (zs.getD i dX) t:=by
 have hl:us.length=zs.length:=by have:=r.length;simpa using this.symm
 obtain⟨x,hx,rx⟩:=Pe r (i:=i) (by omega)
 rw [ak,af h] at hx
 cases hx
 obtain⟨t,e⟩:=rx
 refine⟨t,?_⟩
 rw [ao (l:=zs),af h]
 exact e
theorem Zn {pins:List (Addr×Obj)} {s:al} {σ:St} {H:Hp} {Q:VK} {u:ah} {zs:List Str} (I:Inv X pins σ H s) (nd:zs.Nodup) (h64:zs.length<64)
  (hc:∀ R:List ah->al->Prop,(∀ (us:List ah) (ys:List Str) (h':Heap) (tk:Nat) (d:Drawn),ys.Perm zs->(∀ b o,s.heap.get? b=some o->h'.get? b=some o)->s.heap.objs.size<=h'.objs.size->s.toks<=tk->Vals (ys.map V.str) us->R us { s with heap:=h',toks:=tk,drawn:=d })->aJ (model X.prog X.w) X.A.in1 (mB u) R (fun _ _=>False) s)
  (q:∀ D,H D=none->Q (.ref D) (upd H D (.lst ((Cs ltS zs).map V.str)))):aJ (model X.prog X.w) X.A (call (.builtin "sorted") [u]) (EP X pins σ Q) X.xe s:=by
 refine PySem.W.so_sortedG (OKQ:=fun us s'=>∃ (ys:List Str) (h':Heap) (tk:Nat) (d:Drawn),s'={ s with heap:=h',toks:=tk,drawn:=d }/\ys.Perm zs/\(∀ b o,s.heap.get? b=some o->h'.get? b=some o)/\s.heap.objs.size<=h'.objs.size/\s.toks<=tk/\Vals (ys.map V.str) us) (fun R hR=>hc R fun us ys h' tk d p k z e r=>hR us _ ⟨ys,h',tk,d,rfl,p,k,z,e,r⟩) fun us s' ⟨ys,h',tk,d,e,perm,keep,hD,htk,rv⟩=>?_
 subst e
 have I1:Inv X pins σ H { s with drawn:=d }:={ I with }
 have nd2:ys.Nodup:=perm.nodup_iff.mpr nd
 have same:Cs ltS ys=Cs ltS zs:=Lj perm (Mn nd2)
 have hyz:=perm.length_eq
 rw [<- same] at q
 have hl:us.length=ys.length:=by have:=rv.length;simpa using this.symm
 refine⟨by omega,fun h2 h2' c g k=>?_,fun h2 D e1 h2' hD2 gD k=>?_⟩
 ·refine⟨.ref h'.objs.size,_,I1.laid (t':=tk) (fun b o e=>k b o (keep b o e)) hD (o:=.lst ((Cs ltS ys).map V.str)) ⟨?_,us,c,?_,g⟩,rfl,q _ (I.hok.fresh hD)⟩
  ·rw [Tq (by omega),ae,bz];omega
  ·rw [Tq (by omega)];exact rv
 ·refine PySem.W.kas_kind (T:=.type "str") h2 (fun v hv=>?_) rfl rfl ?_
  ·obtain⟨i,hi,rfl⟩:=List.getElem_of_mem hv
   obtain⟨t,e⟩:=Ri rv (i:=i) (by omega)
   rw [ao,af hi] at e
   rw [show us[i]=_ from e]
   exact .now
  ·obtain⟨pp,h1,h3,h4,h5⟩:=Vr (lt:=ltS) (zs:=ys) dX (Mn nd2) (by omega)
   refine PySem.W.kRun_wp (n:=us.length) (lt:=fun i j=>ltS (ys.getD i dX) (ys.getD j dX)) (a:=pp) (fun i j C hi hj hC=>?_) (by rw [hl];exact h1) ⟨gD,fun h3' c g2 sb=>?_⟩
   ·unfold PySem.W.kas_ask
    obtain⟨t1,e1⟩:=Ri rv (i:=i) (by omega)
    obtain⟨t2,e2⟩:=Ri rv (i:=j) (by omega)
    rw [e1,e2]
    exact PySem.W.kas_lt_str hC
   ·refine⟨.ref D,_,I1.laid (t':=tk) (fun b o e=>(sb.2 b (aN (aD (aC e) (aT hD hD2)))).trans (k b o (keep b o e))) (aT hD hD2) (o:=.lst ((Cs ltS ys).map V.str)) ⟨?_,_,c,?_,g2⟩,rfl,q D (I.hok.fresh (aT hD hD2))⟩
    ·rw [ae,(Az ltS ys).length_eq,bz];omega
    ·have v:=Ln rv pp.toList (fun i hi=>by rw [hl];exact h4 i hi)
     have e:(pp.toList.map fun i=>(ys.map V.str).getD i .non)=(Cs ltS ys).map V.str:=by
      rw [<- h5,aE]
      refine bL fun i hi=>?_
      have:=h4 i hi
      rw [ao,ak,af this]
      show V.str ys[i]=V.str (ys.getD i dX)
      rw [ao,af this]
      rfl
     rwa [e] at v
theorem Ps (hc:X.calm=true):B0 X (.builtin "sorted") (Ze X.K):=by
 intro pins s σ H xs us Q I r h
 obtain⟨p,zs,rfl,hp,nd,h64,q⟩:=h
 obtain⟨u,rfl,ru⟩:=C8 r
 cases ru
 refine Zn I nd h64 (fun R hR=>?_) q
 rcases hp with hp|⟨kvs,hp,ek⟩
 ·obtain⟨its,ri,pl,hz⟩:=I.list hp
  refine collect_list pl.isList (hR _ _ _ s.toks s.drawn (.refl _) (fun b o e=>?_) ?_ (aj _) ri) (by have:=ri.length;rw [ae] at this;rw [bz];omega)
  ·have hlt:b<s.heap.objs.size:=aC e
   rw [kx _ _ _ _ (aN hlt)]
   exact ai _ e
  ·rw [i9,lB]
   exact cQ _
 ·obtain⟨z,lo,vs,rel,dof⟩:=B1 I.hok hp
  obtain⟨ep,dat⟩:=dof.dictAt
  refine bu (aj _) (PySem.W.collect_src (PySem.W.kdl_dict lo) (by simp [I.ok.hd hc]) dat (by rw [<- rel.length];exact z) fun h' tk us hk hs hl hi htk=>?_)
  refine hR us zs h' tk s.drawn (.refl _) hk (dy hs) htk ?_
  have v:=K8 rel hl hi
  have e:(kvs.map fun kv=>kV kv.1)=zs.map V.str:=by
   have:=congrArg (List.map kV) ek
   rw [aE,aE] at this
   exact this
  rwa [e] at v
end
end L2
set_option maxHeartbeats 400000
namespace PySem.W
open PySem PySem.Calls PyProof.Rows
section
variable {prog:aS} {w:bB} {A:a_} {E:ah->al->Prop} {s:al} {vs:List ah} {κ:SortKind} {it:Array Keyed}
theorem Lb:∀ (f n r:Nat),r<=1->minRun' f n r<=n+r
 | 0,n,r,_=>aj (n+r)
 | f+1,n,r,h=>by
  rw [minRun'_succ]
  split
  ·exact aj _
  ·refine aT (Lb f (n / 2) (max r (n % 2)) (by omega)) (by omega)
theorem W3 {n:Nat} {Q:Unit->lM->al->Prop} {s:al} (h2:2<=n)
  (hQ:∀ st',mo st'=(a9 (aw n)).map (i8 it)->k8 st'=none->Q () st' s)
  (h:(k9 n (a9 (aw n))).kasWp (kas_cmp prog w A κ it) (fun r s'=>s'=s/\r=(n,a9 (aw n))) s) :
  kasC (model prog w) A E sortRuns' Q (mH κ it (a9 (aw n))) s:=by
 obtain⟨r,rfl⟩:∃ r,n=r+2:=⟨n - 2,by omega⟩
 have hrs:(a9 (aw (r+2))).size=r+2:=by simp
 rw [sortRuns'_eq]
 refine iN (kasC_get ?_)
 dsimp only
 have hsz:(mo (mH κ it (a9 (aw (r+2))))).size=r+2:=by
  show ((a9 (aw (r+2))).map (i8 it)).size=_
  rw [Array.size_map,hrs]
 simp only [hsz]
 have hmr:=Lb (r+2) (r+2) 0 (by omega)
 generalize minRun' (r+2) (r+2) 0=mr at hmr ⊢
 refine iN (kasC_range ?_)
 show kasC _ _ _ (forIn (0::1::l9 2 r) _ _) _ _ _
 refine kasC_cons ?_
 dsimp only
 rw [if_neg (by omega)]
 simp only [Nat.sub_zero,cL]
 refine iN (kas_count_ (by omega) (by rw [hrs];exact aj _) (fun m p' s' hm1 hm2 hp hg=>?_) h)
 obtain⟨rfl,hg⟩:=hg
 cases hg
 dsimp only
 rw [if_neg (show ¬ r+2<mr by omega)]
 refine iN (kasC_get ?_)
 rw [show (pendingOf (mH κ it (a9 (aw (r+2))))).back? = none from rfl]
 dsimp only
 refine iN (kasC_modify (mj ?_))
 show kasC _ _ _ (forIn (1::l9 2 r) _ _) _ _ _
 refine kasC_cons ?_
 dsimp only
 rw [if_pos (aj _)]
 refine mj ?_
 dsimp only
 refine iN (kasC_range ?_)
 show kasC _ _ _ (forIn (0::1::l9 2 r) _ _) _ _ _
 refine kasC_cons ?_
 refine iN (kasC_get ?_)
 rw [if_pos (show (pendingOf (setPending (mH κ it (a9 (aw (r+2)))) ((pendingOf (mH κ it (a9 (aw (r+2))))).push (0,r+2,0)))).size<=1 from aj 1)]
 refine mj ?_
 dsimp only
 exact mj (hQ _ rfl rfl)
theorem W2 {cmp:Nat->Nat->(Bool->al->Prop)->al->Prop} {n:Nat} {s:al} {Q:Nat->al->Prop} (h:∀ j C,0<j->j<n->C false s->cmp j (j - 1) C s):∀ f k:Nat,1<=k->k+f=n->Q n s->(mk (a9 (aw n)) f k).kasWp cmp Q s
 | 0,k,_,e,q=>by
  have e:k=n:=e
  subst e
  exact q
 | f+1,k,hk,e,q=>by
  have g:∀ {j:Nat},j<n->(a9 (aw n)).getD j 0=j:=fun {j} hj=>by simp [Array.getD,hj]
  show cmp ((a9 (aw n)).getD k 0) ((a9 (aw n)).getD (k - 1) 0) _ s
  rw [g (by omega),g (by omega)]
  refine h k _ hk (by omega) ?_
  simp only [bH,if_false]
  exact W2 h f (k+1) (by omega) (by omega) q
theorem Kn {cmp:Nat->Nat->(Bool->al->Prop)->al->Prop} {n:Nat} {s:al} {Q:Nat×Array Nat->al->Prop} (h1:1<=n) (h:∀ j C,0<j->j<n->C false s->cmp j (j - 1) C s) (q:Q (n,a9 (aw n)) s):(k9 n (a9 (aw n))).kasWp cmp Q s:=by
 unfold k9
 rw [KasT.kasWp_bind]
 refine W2 h (n - 1) 1 (aj _) (by omega) ?_
 simp only [beq_self_eq_true,if_true]
 exact q
theorem asc_sort {cmp:Nat->Nat->(Bool->al->Prop)->al->Prop} {n:Nat} {s:al} {Q:Array Nat->al->Prop} (h1:1<=n) (h:∀ j C,0<j->j<n->C false s->cmp j (j - 1) C s) (q:Q (a9 (aw n)) s):(kas_sort n).kasWp cmp Q s:=by
 unfold kas_sort
 rw [KasT.kasWp_bind]
 refine Kn h1 h ?_
 rw [if_neg (eV n)]
 exact q
theorem range_pick {us:List ah}:((a9 (aw us.length)).toList.map fun i=>us.getD i bw)=us:=by
 apply List.ext_getElem
 ·simp
 ·intro i h1 h2
  simp [h2]
theorem asc_list_sort {n:Nat} {a:Addr} {ns:List Int} {P:kW->al->Prop} (ho:s.heap.get? a=some (a8 "list" vs.toArray n)) (hi:iU vs ns) (asc:ns.Pairwise (· < ·)) (hl:vs.length<=1000)
  (h:∀ h' c,h'.get? a=some (a8 "list" vs.toArray c)->(∀ b o,b≠a->s.heap.get? b=some o->h'.get? b=some o)->P (.done (.ret .none)) { s with heap:=h' }) :
  aJ (model prog w) A (aB.«list.sort» ⟨[.ref a],[]⟩) P E s:=by
 by_cases h2:vs.length<2
 ·exact Ff ho h2 h
 have h2:2<=vs.length:=by omega
 have ha:a<s.heap.objs.size:=aC ho
 have s1:=bD s.heap a (aW fun _=>(#[]:Array ah))
 obtain⟨e1,ho1⟩:∃ e1,(s.heap.update a (aW fun _=>(#[]:Array ah))).get? a=some (a8 "list" #[] e1):=⟨_,cY ho fun _=>#[]⟩
 have na:(((s.heap.update a (aW fun _=>(#[]:Array ah))).push (a8 "tuple" vs.toArray 0)).push (a8 "list" #[] 0)).get? a=some (a8 "list" #[] e1):=ai _ (ai _ ho1)
 have old:∀ b o,b≠a->s.heap.get? b=some o->(((s.heap.update a (aW fun _=>(#[]:Array ah))).push (a8 "tuple" vs.toArray 0)).push (a8 "list" #[] 0)).get? b=some o:=fun b o nb e=>ai _ (ai _ ((s1.2 b nb).trans e))
 rw [jV]
 refine ag (ib ho rfl ?_)
 refine ag (c_ ho rfl ?_ (by rw [aq,bz];omega) (bj _))
 refine ag (fv ho1 rfl ?_)
 refine ag (ga ?_ (by show vs.length<=_;rw [bz];omega))
 refine ag (dU ?_ (bj _))
 refine bE ?_
 show aJ (model prog w) A _ P E { s with heap:=((s.heap.update a (aW fun _=>(#[]:Array ah))).push (a8 "tuple" vs.toArray 0)).push (a8 "list" #[] 0) }
 generalize ((s.heap.update a (aW fun _=>(#[]:Array ah))).push (a8 "tuple" vs.toArray 0)).push (a8 "list" #[] 0)=h6 at na old ⊢
 dsimp only
 have hn2:¬ vs.toArray.size<2:=by rw [aq];omega
 rw [if_neg hn2,if_neg hn2,ksk_kind (kz:=ns) hi (by rw [aq];exact h2)]
 refine ag (ar ?_)
 have est:gN lW (vs.toArray.zip vs.toArray) #[] 7 none=mH lW (vs.toArray.zip vs.toArray) (a9 (aw vs.length)):=by
  have e:=kas_range (vs.toArray.zip vs.toArray)
  rw [show (vs.toArray.zip vs.toArray).size=vs.length by simp] at e
  show gN lW (vs.toArray.zip vs.toArray) #[] 7 none=gN lW ((a9 (aw vs.length)).map (i8 (vs.toArray.zip vs.toArray))) #[] 7 none
  rw [e]
 have at_:∀ {j:Nat},j<vs.length -> ∃ t,(i8 (vs.toArray.zip vs.toArray) j).1=.int (ns.getD j 0) t:=fun {j} hj=>by
  rw [kat_item rfl]
  have:∀ {vs:List ah} {ns:List Int} {j:Nat},iU vs ns->j<vs.length -> ∃ t,vs.getD j bw=.int (ns.getD j 0) t:=by
   intro vs ns j h
   induction h generalizing j with
   | nil=>intro h;cases h
   | cons n t _ ih=>
    intro h
    cases j with
    | zero=>exact⟨t,rfl⟩
    | succ j=>exact ih (jr h)
  exact this hi hj
 refine ag (bR (Q:=fun r s'=>s'={ s with heap:=h6 }/\mo r.2=(a9 (aw vs.length)).map (i8 (vs.toArray.zip vs.toArray))/\k8 r.2=none) ?_ ?_ fun _ _ e=>e)
 ·rw [est]
  refine W3 (prog:=prog) (w:=w) (A:=A) (E:=E) (κ:=lW) (it:=vs.toArray.zip vs.toArray) (s:={ s with heap:=h6 }) (Q:=fun _ st' s'=>s'={ s with heap:=h6 }/\mo st'=(a9 (aw vs.length)).map (i8 (vs.toArray.zip vs.toArray))/\k8 st'=none) h2 (fun st' a1 a2=>⟨rfl,a1,a2⟩) (Kn (by omega) (fun j C h0 hj hC=>?_) ⟨rfl,rfl⟩)
  obtain⟨t,e⟩:=at_ hj
  obtain⟨u,e'⟩:=at_ (j:=j - 1) (by omega)
  unfold kas_cmp
  rw [e,e']
  refine kat_lt_int ?_
  have hlen:ns.length=vs.length:=hi.length.symm
  have:ns.getD (j - 1) 0<ns.getD j 0:=by
   rw [ao,af (by omega),ao,af (by omega)]
   exact List.pairwise_iff_getElem.mp asc (j - 1) j (by omega) (by omega) (by omega)
  rw [decide_eq_false (by omega)]
  exact hC
 ·rintro⟨⟨⟩,st'⟩ s' ⟨rfl,har,hf⟩
  dsimp only at har hf ⊢
  have hout:=kat_snds (ks:=vs) (vs:=vs) rfl har
  rw [range_pick] at hout
  rw [hout]
  have s2:=bD h6 a (aW fun _=>vs.toArray)
  obtain⟨c2,hc2⟩:∃ c2,(h6.update a (aW fun _=>vs.toArray)).get? a=some (a8 "list" vs.toArray c2):=⟨_,cY na fun _=>vs.toArray⟩
  refine ag (fv (s:={ s with heap:=h6 }) na rfl ?_)
  refine ag (c_ (s:={ s with heap:=h6 }) na rfl ?_ (bj _) (by rw [aq,bz];omega))
  rw [hf]
  simp only [bne_self_eq_false,bH,if_false]
  exact ar (h _ c2 hc2 fun b o nb e=>(s2.2 b nb).trans (old b o nb e))
end
end PySem.W
namespace L2
open PySem PySem.Spec PyProof.Rows
section
variable {X:Cx}
noncomputable def Zd:List V->Hp->VK->Prop:=fun xs H Q=>∃ (p:Addr) (ns:List Int) (kvs:List (Key×V)),xs=[.ref p]/\Rd H p (.dK kvs)/\kvs.map (·.1)=ns.map i4/\ns.Pairwise (· < ·)/\ns.length<=1000 /\ ∀ D,H D=none->Q (.ref D) (upd H D (.lst (ns.map V.int)))
theorem Pr (hc:X.calm=true):B0 X (.builtin "sorted") Zd:=by
 intro pins s σ H xs us Q I r h
 obtain⟨p,ns,kvs,rfl,hp,ek,asc,hl,q⟩:=h
 obtain⟨u,rfl,ru⟩:=C8 r
 cases ru
 obtain⟨z,lo,vs,rel,dof⟩:=B1 I.hok hp
 obtain⟨ep,dat⟩:=dof.dictAt
 have lk:kvs.length=ns.length:=by have:=congrArg cg ek;simpa using this
 refine ie ml lQ lP (args_sorted1 _) ?_
 unfold aB.«sorted»
 refine ag (m:=checkCount "sorted" 1 1 _) (ar ?_)
 refine ag (bu (aj _) (PySem.W.collect_src (PySem.W.kdl_dict lo) (by simp [I.ok.hd hc]) dat (by rw [<- rel.length];exact z) fun h' tk us hk hs hl' hi htk=>?_))
 have v:=K8 rel hl' hi
 have e:(kvs.map fun kv=>kV kv.1)=ns.map V.int:=by
  have:=congrArg (List.map kV) ek
  rw [aE,aE] at this
  exact this
 rw [e] at v
 have hu:us.length<=1000:=by have:=v.length;rw [ae] at this;omega
 refine ag (dU ?_ (by rw [bz];omega))
 have hoL:(h'.push (a8 "list" us.toArray 0)).get? h'.objs.size=some (a8 "list" us.toArray 0):=az _ rfl
 show aJ _ _ _ _ _ { s with heap:=h'.push (a8 "list" us.toArray 0),toks:=tk }
 refine ag (bE (cq km ⟨_,hoL,rfl⟩ jT ?body (args_list_sort _)))
 case body=>
  refine PySem.W.asc_list_sort (s:={ s with heap:=h'.push (a8 "list" us.toArray 0),toks:=tk }) hoL (Jf v) asc hu fun h3 c g k=>?_
  refine⟨_,rfl,ar ⟨_,rfl,.ref h'.objs.size,_,I.laid (t':=tk) (fun b o e=>k b o (aN (aC (hk b o e))) (ai _ (hk b o e))) (dy hs) (o:=.lst (ns.map V.int)) ⟨?_,us,c,v,g⟩,rfl,q _ (I.hok.fresh (dy hs))⟩⟩
  rw [ae,bz];omega
noncomputable def a24 (K:ac):List V->Hp->VK->Prop:=fun xs H Q=>∃ (p:Addr) (ns:List Int),xs=[.ref p]/\SqL K H p (ns.map V.int)/\Q (.int ns.sum) H
theorem Xd (hc:X.calm=true):B0 X (.builtin "sum") (a24 X.K):=by
 intro pins s σ H xs us Q I r h
 obtain⟨p,ns,rfl,hp,q⟩:=h
 obtain⟨u,rfl,ru⟩:=C8 r
 cases ru
 obtain⟨its,ri,pl,hz⟩:=I.list hp
 have ia:=Jf ri
 obtain⟨xs,e⟩:=ia.allInts.items
 have hl:=pl.isList
 rw [e] at hl
 refine bu (aj _) (sum_intListG (I.ok.hd hc) hl fun h' tk t' hk htk=>?_)
 refine⟨.int ns.sum,H,I.kept (t':=tk) hk htk,⟨t',?_⟩,q⟩
 rw [preSum_eq,fP (by simp),<- nums_intItems,<- e,show its.toArray.toList=its from rfl,ia.numsOf]
end
end L2
set_option maxHeartbeats 1000000
namespace PySem.W
open PySem PySem.Calls PyProof.Rows
section
variable {prog:aS} {w:bB} {A:a_} {E:ah->al->Prop} {s:al} {vs:List ah}
noncomputable def SkFin (a b:Addr) (e e1:Nat) (ks out:List ah) (C:al->Prop) (s:al):Prop:=
 s.heap.get? a=some (a8 "list" #[] e1)/\s.heap.get? b=some (a8 "list" ks.toArray e) /\ ∀ h' c,h'.get? a=some (a8 "list" (a9 out) c)->(∀ d,d≠a->d≠b->h'.get? d=s.heap.get? d)->C { s with heap:=h' }
theorem Tn {a kS:Addr} {ks:List ah} {st:lM} {e e1:Nat} {out:List ah} {P:kW->al->Prop} (hne:a≠kS) (har:ix (fun x:Keyed=>x.snd) (mo st)=out.toArray) (h64:out.length<64) (k64:ks.length<64) (hf:k8 st=none)
  (h:SkFin a kS e e1 ks out (fun s'=>P (.done (.ret .none)) s') s):aJ (model prog w) A (ksk_tail a false e1 (.ref kS) st) P E s:=by
 obtain⟨ha,hk,q⟩:=h
 unfold ksk_tail
 rw [har,hf]
 have s1:=bD s.heap kS (aW fun _=>(#[]:Array ah))
 have ha1:(s.heap.update kS (aW fun _=>(#[]:Array ah))).get? a=some (a8 "list" #[] e1):=(s1.2 a hne).trans ha
 refine ag (c_ hk rfl ?_ (by rw [aq,bz];omega) (bj _))
 refine ag (wpAny_letGo ?_)
 refine ag (fv (s:={ s with heap:=s.heap.update kS (aW fun _=>(#[]:Array ah)) }) ha1 rfl ?_)
 refine ag (c_ (s:={ s with heap:=s.heap.update kS (aW fun _=>(#[]:Array ah)) }) ha1 rfl ?_ (bj _) (by simp only [bH,if_false];rw [aq,bz];omega))
 simp only [bne_self_eq_false,bH,if_false]
 have s2:=bD (s.heap.update kS (aW fun _=>(#[]:Array ah))) a (aW fun _=>out.toArray)
 obtain⟨c2,hc2⟩:∃ c2,((s.heap.update kS (aW fun _=>(#[]:Array ah))).update a (aW fun _=>out.toArray)).get? a=some (a8 "list" out.toArray c2):=⟨_,cY ha1 fun _=>_⟩
 exact ar (q _ c2 hc2 fun d d1 d2=>(s2.2 d d1).trans (s1.2 d d2))
theorem ai3 {n:Nat} {a:Addr} {f:ah} {P:kW->al->Prop} (ho:s.heap.get? a=some (a8 "list" vs.toArray n)) (h64:vs.length<64)
  (h:∀ e1 kS h',s.heap.objs.size<=kS->h'.get? a=some (a8 "list" #[] e1)->h'.get? kS=some (a8 "list" #[] 0)->(∀ b o,b≠a->s.heap.get? b=some o->h'.get? b=some o) ->
   ∃ G:List ah->al->Prop,(∀ e,h'.get? kS=some (a8 "list" #[] e)->G [] { s with heap:=h' }) /\
    (∀ (j:Nat) x ks e s',vs[j]? = some x->ks.length=j->s'.heap.get? kS=some (a8 "list" ks.toArray e)->G ks s'->aJ (model prog w) A (call f [x]) (fun k s''=>s''.heap.get? kS=some (a8 "list" ks.toArray e) /\ ∀ h2 c,h2.get? kS=some (a8 "list" (ks++[k]).toArray c)->bg kS s''.heap h2->G (ks++[k]) { s'' with heap:=h2 }) (fun _ _=>False) s') /\
    (∀ ks e s',ks.length=vs.length->s'.heap.get? kS=some (a8 "list" ks.toArray e)->G ks s'->(vs.length<2->SkFin a kS e e1 ks vs (fun s3=>P (.done (.ret .none)) s3) s')/\(2<=vs.length ->
     aJ (model prog w) A (mE ks.toArray) (fun κ s''=>(kas_sort vs.length).kasWp (kas_ask prog w A κ ks) (fun p s3=>SkFin a kS e e1 ks (p.toList.map fun i=>vs.getD i bw) (fun s4=>P (.done (.ret .none)) s4) s3) s'') (fun _ _=>False) s'))) :
  aJ (model prog w) A (ksk_tree a f false) P E s:=by
 have ha:a<s.heap.objs.size:=aC ho
 have s1:=bD s.heap a (aW fun _=>(#[]:Array ah))
 obtain⟨e1,ho1⟩:∃ e1,(s.heap.update a (aW fun _=>(#[]:Array ah))).get? a=some (a8 "list" #[] e1):=⟨_,cY ho fun _=>#[]⟩
 have hsz:((s.heap.update a (aW fun _=>(#[]:Array ah))).push (a8 "tuple" vs.toArray 0)).objs.size=s.heap.objs.size+1:=by rw [lB,i9]
 unfold ksk_tree
 refine ag (ib ho rfl ?_)
 refine ag (c_ ho rfl ?_ (by rw [aq,bz];omega) (bj _))
 refine ag (fv ho1 rfl ?_)
 refine ag (ga ?_ (by show vs.length<=_;rw [bz];omega))
 refine ag (dU ?_ (bj _))
 refine bE ?_
 show aJ (model prog w) A (ksk_rest a f false vs.toArray e1 (.ref ((s.heap.update a (aW fun _=>(#[]:Array ah))).push (a8 "tuple" vs.toArray 0)).objs.size)) P E { s with heap:=((s.heap.update a (aW fun _=>(#[]:Array ah))).push (a8 "tuple" vs.toArray 0)).push (a8 "list" #[] 0) }
 have hk0:(((s.heap.update a (aW fun _=>(#[]:Array ah))).push (a8 "tuple" vs.toArray 0)).push (a8 "list" #[] 0)).get? (((s.heap.update a (aW fun _=>(#[]:Array ah))).push (a8 "tuple" vs.toArray 0)).objs.size)=some (a8 "list" #[] 0):=az _ rfl
 have ha0:(((s.heap.update a (aW fun _=>(#[]:Array ah))).push (a8 "tuple" vs.toArray 0)).push (a8 "list" #[] 0)).get? a=some (a8 "list" #[] e1):=ai _ (ai _ ho1)
 obtain⟨G,g0,gs,gf⟩:=h e1 _ _ (by rw [hsz];exact cQ _) ha0 hk0 (fun b o nb e=>ai _ (ai _ ((s1.2 b nb).trans e)))
 have hne:a≠((s.heap.update a (aW fun _=>(#[]:Array ah))).push (a8 "tuple" vs.toArray 0)).objs.size:=by rw [hsz];exact aN (df ha)
 have gz:=g0 0 hk0
 generalize ((s.heap.update a (aW fun _=>(#[]:Array ah))).push (a8 "tuple" vs.toArray 0)).objs.size=kS at *
 generalize ((s.heap.update a (aW fun _=>(#[]:Array ah))).push (a8 "tuple" vs.toArray 0)).push (a8 "list" #[] 0)=h' at *
 unfold ksk_rest
 refine ag (lC ?_)
 rw [<- hX]
 refine ag (ksk_fold (fun j s'=>∃ ks e,ks.length=j/\s'.heap.get? kS=some (a8 "list" ks.toArray e)/\G ks s') vs 0 _ ⟨[],0,rfl,hk0,gz⟩ (fun j x s' hx ⟨ks,e,hl,hk,hg⟩=>?_) fun s' ⟨ks,e,hl,hk,hg⟩=>?_)
 ·rw [cL] at hl
  have hj:j<vs.length:=(List.getElem?_eq_some_iff.mp hx).1
  refine ag (gM (bR (gs j x ks e s' hx hl hk hg) (fun k s'' hq=>?_) fun _ _ z=>z.elim))
  obtain⟨hk2,hq⟩:=hq
  dsimp only
  refine ag (c_ hk2 rfl ?_ (by rw [aq,bz];omega) (by rw [Array.size_push,aq,bz];omega))
  have e3:(ks.toArray.push k)=(ks++[k]).toArray:=by simp
  obtain⟨c,hc⟩:∃ c,(s''.heap.update kS (aW fun x=>x.push k)).get? kS=some (a8 "list" (ks++[k]).toArray c):=⟨_,by rw [<- e3];exact cY hk2 fun x=>x.push k⟩
  exact ar ⟨rfl,ks++[k],c,by rw [aZ,hl,cL];rfl,hc,hq _ c hc (bD _ _ _)⟩
 ·rw [cL] at hl
  obtain⟨q1,q2⟩:=gf ks e s' hl hk hg
  refine ag (ib hk rfl ?_)
  unfold ksk_end
  simp only [bH,if_false]
  by_cases h2:vs.toArray.size<2
  ·rw [if_pos h2,if_pos h2]
   refine ag (ar ?_)
   rw [StateT.run_pure]
   refine ag (ar ?_)
   dsimp only
   refine Tn hne ?_ h64 (by omega) rfl (q1 (by simpa using h2))
   show ix (fun x:Keyed=>x.snd) (ks.toArray.zip vs.toArray)=vs.toArray
   apply Array.ext'
   simp only [Array.toList_map,Array.toList_zip]
   exact List.map_snd_zip (by omega)
  ·have h2':2<=vs.length:=by rw [aq] at h2;omega
   rw [if_neg h2,if_neg h2]
   refine ag (bR (q2 h2') (fun κ s0 hk0=>?_) fun _ _ x=>x.elim)
   refine ag (bR (kat_run (Q:=fun st' s'=>∃ p:Array Nat,p.size=vs.length/\mo st'=p.map (i8 (ks.toArray.zip vs.toArray))/\k8 st'=none/\SkFin a kS e e1 ks (p.toList.map fun i=>vs.getD i bw) (fun s''=>P (.done (.ret .none)) s'') s')
    hl h2' h64 (fun p' st' s' a1 a2 a3 a4=>⟨p',a1,a2,a3,a4⟩) hk0) ?_ fun _ _ e=>e)
   rintro⟨⟨⟩,st'⟩ s' ⟨p,hp,har,hf,hq⟩
   exact Tn hne (kat_snds hl har) (by rw [ae,bJ,hp];exact h64) (by omega) hf hq
theorem sk_sorted {x:ah} {b:Addr} {OKQ:List ah->Heap->Nat->Prop} {Q:ah->al->Prop} (hc:∀ R:List ah->al->Prop,(∀ us h' tk,OKQ us h' tk->R us { s with heap:=h',toks:=tk })->aJ (model prog w) A.in1 (mB x) R (fun _ _=>False) s)
  (h:∀ us h' tk,OKQ us h' tk->us.length<64 /\ ∀ D e1 kS h2,h'.objs.size<=D->D<kS->h2.get? D=some (a8 "list" #[] e1)->h2.get? kS=some (a8 "list" #[] 0)->(∀ b o,h'.get? b=some o->h2.get? b=some o) ->
   ∃ G:List ah->al->Prop,G [] { s with heap:=h2,toks:=tk } /\
    (∀ (j:Nat) x ks e s',us[j]? = some x->ks.length=j->s'.heap.get? kS=some (a8 "list" ks.toArray e)->G ks s'->aJ (model prog w) A.in1.in1 (call (.ref b) [x]) (fun k s''=>s''.heap.get? kS=some (a8 "list" ks.toArray e) /\ ∀ h2 c,h2.get? kS=some (a8 "list" (ks++[k]).toArray c)->bg kS s''.heap h2->G (ks++[k]) { s'' with heap:=h2 }) (fun _ _=>False) s') /\
    (∀ ks e s',ks.length=us.length->s'.heap.get? kS=some (a8 "list" ks.toArray e)->G ks s'->(us.length<2->SkFin D kS e e1 ks us (fun s3=>Q (.ref D) s3) s')/\(2<=us.length ->
     aJ (model prog w) A.in1.in1 (mE ks.toArray) (fun κ s''=>(kas_sort us.length).kasWp (kas_ask prog w A.in1.in1 κ ks) (fun p s3=>SkFin D kS e e1 ks (p.toList.map fun i=>us.getD i bw) (fun s4=>Q (.ref D) s4) s3) s'') (fun _ _=>False) s'))) :
  aJ (model prog w) A (call (.builtin "sorted") [x] [("key", .ref b)]) Q E s:=by
 refine call_function_entry_kw ml lQ lP (ksk_s1 _ _) ?_
 unfold aB.«sorted»
 refine ag (m:=checkCount "sorted" 1 1 _) (ar ?_)
 refine ag (bR (hc _ fun us h' tk ok=>?_) (fun _ _ z=>z) fun _ _ z=>z.elim)
 obtain⟨h64,hb⟩:=h us h' tk ok
 refine ag (dU ?_ (by rw [bz];omega))
 have hoL:(h'.push (a8 "list" us.toArray 0)).get? h'.objs.size=some (a8 "list" us.toArray 0):=az _ rfl
 show aJ _ _ _ _ _ { s with heap:=h'.push (a8 "list" us.toArray 0),toks:=tk }
 refine ag (bE (wpAny_call_entry_kw km ⟨_,hoL,rfl⟩ jT ?body (ksk_l1 _ _)))
 case body=>
  rw [ksk_t1]
  refine ai3 (s:={ s with heap:=h'.push (a8 "list" us.toArray 0),toks:=tk }) hoL h64 fun e1 kS h2 hk g gk k=>?_
  have hk2:h'.objs.size<kS:=by
   have hk:(h'.push (a8 "list" us.toArray 0)).objs.size<=kS:=hk
   rw [lB] at hk;omega
  obtain⟨G,g0,gs,gf⟩:=hb h'.objs.size e1 kS h2 (aj _) hk2 g gk fun b o q=>k b o (aN (aC q)) (ai _ q)
  refine⟨G,fun _ _=>g0,gs,fun ks e s' hl hk hg=>?_⟩
  obtain⟨q1,q2⟩:=gf ks e s' hl hk hg
  refine⟨fun h2=>?_,fun h2=>bR (q2 h2) (fun κ s'' hk=>?_) fun _ _ x=>x⟩
  ·obtain⟨r1,r2,r3⟩:=q1 h2
   exact⟨r1,r2,fun h' c x y=>⟨_,rfl,ar ⟨_,rfl,r3 h' c x y⟩⟩⟩
  ·rw [kat_ask_eq hl] at hk ⊢
   exact kas_wp_mono hk fun p s3 ⟨r1,r2,r3⟩=>⟨r1,r2,fun h' c x y=>⟨_,rfl,ar ⟨_,rfl,r3 h' c x y⟩⟩⟩
end
end PySem.W
namespace L2
open PySem PySem.Spec PyProof.Rows
section
variable {X:Cx} {pins:List (Addr×Obj)} {σ:St} {H:Hp} {s:al}
theorem Inv.adopt {a d:Addr} {o:HO} {h':Heap} (I:Inv X pins σ H s) (fa:C9 X pins H a) (fd:C9 X pins H d) (k:∀ b u,b≠a->b≠d->s.heap.get? b=some u->h'.get? b=some u) (new:ObjOk X.prog X.w (upd H a o) h' a o):Inv X pins σ (upd H a o) { s with heap:=h' }:=by
 have nit:∀ b u,H b=some u->b≠a/\b≠d:=fun b u e=>⟨Ai e fa.1,Ai e fd.1⟩
 have nc:∀ {b:Addr},b∉[a,d]->b≠a/\b≠d:=fun h=>by simpa using h
 refine I.step (g':=s.gens) (d':=s.drawn) (t':=s.toks) (ch:=[a,d]) (fun b hb=>?_) (fun b u _ _ hc e _=>k b u (nc hc).1 (nc hc).2 e) (fun b u _ _ hc e _=>⟨u.slots,k b u (nc hc).1 (nc hc).2 e⟩) (fun b u hc e n=>by rw [Ad (nc hc).1];exact n)
  (fun b u hc e=>⟨u,k b u (nc hc).1 (nc hc).2 e⟩) (fun b xs q=>by rw [Ad (nit b _ q).1];exact q) (fun b u v q=>by rw [Ad (nit b _ q).1];exact q) (fun b ps q=>⟨#[],by rw [Ad (nit b _ q).1,q];simp⟩) (fun m hm=>?_) (fun b u e=>?_) I.bare
 ·rcases List.mem_cons.mp hb with rfl|hb
  ·exact⟨fa.2.2.2.1,fa.2.1,fa.2.2.2.2.1,fa.2.2.2.2.2⟩
  ·have e:b=d:=by simpa using hb
   subst e
   exact⟨fd.2.2.2.1,fd.2.1,fd.2.2.2.2.1,fd.2.2.2.2.2⟩
 ·obtain⟨u,es,ep,ho,r⟩:=hm
  exact⟨u,es,ep,k _ u (cB fa.2.1) (cB fd.2.1) ho,r⟩
 ·by_cases hb:b=a
  ·subst hb;rw [Aa] at e;cases e;exact new
  ·rw [Ad hb] at e
   refine (I.hok b u e).stay (fun c v hc q=>?_) (fun c q=>by rw [Ad (nit c _ q).1];exact q) fun c xs q=>by rw [Ad (nit c _ q).1];exact q
   rcases hc with z|z
   ·rw [z] at q ⊢;exact k _ v (nit b u e).1 (nit b u e).2 q
   ·exact k c v (nit c _ z).1 (nit c _ z).2 q
end
end L2
set_option maxHeartbeats 4000000
namespace L2
open PySem PySem.Spec PyProof.Rows
noncomputable abbrev RF:=List V->Hp->VK->Prop
noncomputable def K5 (x:V) (T:String):Bool:=match x with
 | .int _=>T == "int"
 | .bl _=>T == "bool" || T == "int"
 | .str _=>T == "str"
 | _=>false
noncomputable def okT (T:String):Bool:=["int", "bool", "str", "list", "tuple", "dict"].contains T
noncomputable def F7 (K:ac):RF:=fun xs H Q=>match xs with
 | [.int i,.ty T]=>okT T=true/\Q (.bl (K5 (.int i) T)) H
 | [.bl i,.ty T]=>okT T=true/\Q (.bl (K5 (.bl i) T)) H
 | [.str i,.ty T]=>okT T=true/\Q (.bl (K5 (.str i) T)) H
 | [.non,.ty T]=>okT T=true/\Q (.bl (K5 .non T)) H
 | [x,.ty T]=>∃ t b,TyX K H x t/\fg K t (.type T)=some b/\Q (.bl b) H
 | [x,.ref C]=>(∃ t b,TyX K H x t/\fg K t (.ref C)=some b/\Q (.bl b) H)\/False
 | _=>False
noncomputable def Di (K:ac):RF:=fun xs H Q=>match xs with
 | [.str z]=>z.length<=sizeLine/\Q (.int z.length) H
 | [.ref p]=>(∃ ys,(SqL K H p ys\/SqT K H p ys)/\Q (.int ys.length) H) \/ ∃ kvs,Rd H p (.dK kvs)/\Q (.int kvs.length) H
 | _=>False
noncomputable def Oo (K:ac):RF:=fun xs H Q=>match xs with
 | [.ref p]=>∃ bs:List Bool,SqL K H p (bs.map V.bl)/\Q (.bl (bs.all fun b=>b)) H
 | _=>False
noncomputable def Vk:RF:=fun xs H Q=>match xs with
 | [.int i]=>Q (.int i) H
 | [.bl k]=>Q (.int (if k then 1 else 0)) H
 | _=>False
noncomputable def Mz (K:ac):RF:=fun xs H Q=>match xs with
 | [.ref p]=>∃ ys,(SqL K H p ys\/SqT K H p ys) /\ ∀ l,H l=none->Q (.ref l) (upd H l (.lst ys))
 | _=>False
noncomputable def Fm (K:ac):RF:=fun xs H Q=>match xs with
 | [.ref p]=>∃ ys,(SqL K H p ys /\ ∀ l,H l=none->Q (.ref l) (upd H l (.tup ys)))\/(SqT K H p ys/\Q (.ref p) H)
 | _=>False
noncomputable def Jy (K:ac) (calm:Bool):RF:=fun xs H Q=>Mz K xs H Q\/(calm=true/\False)
noncomputable def Qu (K:ac) (calm:Bool):RF:=fun xs H Q=>False\/(calm=true/\(Ze K xs H Q\/Zd xs H Q))
inductive BF where
 | bf (id:String)|ty (T:String)
noncomputable def aq4 (K:ac) (calm:Bool) (x:Str):Option (BF×RF):=
 if x = "len" then some (.bf "len", Di K) else
 if x = "isinstance" then some (.bf "isinstance", F7 K) else
 if x = "all" then (if calm=true then some (.bf "all", Oo K) else none) else
 if x = "int" then some (.ty "int", Vk) else
 if x = "list" then some (.ty "list", Jy K calm) else
 if x = "tuple" then some (.ty "tuple", Fm K) else
 if x = "sorted" then some (.bf "sorted", Qu K calm) else
 if x = "sum" then (if calm=true then some (.bf "sum", a24 K) else none) else
 if x = "dict" then some (.ty "dict", Mx) else none
noncomputable def BF.val:BF->ah
 | .bf id=>.builtin id
 | .ty T=>.type T
section
variable {X:Cx}
theorem Qa {K:ac} {x:V} {T:String} (hx:Bu x=true) (h:okT T=true):∃ t,(∀ H,TyOf K H x t)/\fg K t (.type T)=some (K5 x T):=by
 have hT:T = "int" \/ T = "bool" \/ T = "str" \/ T = "list" \/ T = "tuple" \/ T = "dict" := by
  unfold okT at h
  simpa using h
 cases x with
 | int i=>refine⟨_,fun H=>TyOf.int i,?_⟩;rcases hT with rfl|rfl|rfl|rfl|rfl|rfl <;> rfl
 | bl i=>refine⟨_,fun H=>TyOf.bl i,?_⟩;rcases hT with rfl|rfl|rfl|rfl|rfl|rfl <;> rfl
 | str i=>refine⟨_,fun H=>TyOf.str i,?_⟩;rcases hT with rfl|rfl|rfl|rfl|rfl|rfl <;> rfl
 | non=>refine⟨_,fun H=>TyOf.non,?_⟩;rcases hT with rfl|rfl|rfl|rfl|rfl|rfl <;> rfl
 | _=>cases hx
theorem Xc:B0 X (.builtin "isinstance") (F7 X.K):=by
 intro pins s σ H xs us Q I r h
 have sc:∀ x T,xs=[x,.ty T]->Bu x=true->okT T=true->Q (.bl (K5 x T)) H->aJ (model X.prog X.w) X.A (call (.builtin "isinstance") us) (EP X pins σ Q) X.xe s:=fun x T e hx hT q=>by
  subst e
  obtain⟨t,ht,hk⟩:=Qa (K:=X.K) hx hT
  exact Xb pins s σ H _ us Q I r ⟨x,T,t,_,rfl,ht H,hk,q⟩
 unfold F7 at h
 split at h
 ·exact sc _ _ rfl rfl h.1 h.2
 ·exact sc _ _ rfl rfl h.1 h.2
 ·exact sc _ _ rfl rfl h.1 h.2
 ·exact sc _ _ rfl rfl h.1 h.2
 ·obtain⟨t,b,ty,e,q⟩:=h
  obtain⟨u,v,rfl,ru,rv⟩:=r.two
  cases rv
  exact bu (aj _) (Jh I ru ty e fun tk htk=>⟨.bl b,H,I.tok tk htk,rfl,q⟩)
 ·obtain⟨u,v,rfl,ru,rv⟩:=r.two
  rcases h with ⟨t,b,ty,e,q⟩|h
  ·cases rv
   exact bu (aj _) (Jh I ru ty e fun tk htk=>⟨.bl b,H,I.tok tk htk,rfl,q⟩)
  ·exact h.elim
 ·exact h.elim
theorem Ua:B0 X (.builtin "len") (Di X.K):=by
 intro pins s σ H xs us Q I r h
 unfold Di at h
 split at h
 ·exact Ly pins s σ H _ us Q I r ⟨_,rfl,h.1,h.2⟩
 ·rcases h with ⟨ys,h1,h2⟩|⟨kvs,h1,h2⟩
  ·exact Lx pins s σ H _ us Q I r ⟨_,ys,rfl,h1,h2⟩
  ·obtain⟨u,rfl,ru⟩:=C8 r
   cases ru
   exact a51 I h1 fun t s' I'=>⟨.int _,H,I',⟨t,rfl⟩,h2⟩
 ·exact h.elim
theorem T8 (hc:X.calm=true):B0 X (.builtin "all") (Oo X.K):=by
 intro pins s σ H xs us Q I r h
 unfold Oo at h
 split at h
 ·obtain⟨bs,h1,h2⟩:=h
  exact Xa hc pins s σ H _ us Q I r ⟨_,bs,rfl,h1,h2⟩
 ·exact h.elim
theorem T9:B0 X (.type "int") Vk:=by
 intro pins s σ H xs us Q I r h
 unfold Vk at h
 split at h
 ·exact Kt pins s σ H _ us Q I r (.inl ⟨_,rfl,h⟩)
 ·exact Kt pins s σ H _ us Q I r (.inr ⟨_,rfl,h⟩)
 ·exact h.elim
theorem Pq:B0 X (.type "list") (Mz X.K):=by
 intro pins s σ H xs us Q I r h
 unfold Mz at h
 split at h
 ·obtain⟨ys,h1,h2⟩:=h
  exact Lz pins s σ H _ us Q I r ⟨_,ys,rfl,h1,h2⟩
 ·exact h.elim
theorem Ub:B0 X (.type "tuple") (Fm X.K):=by
 intro pins s σ H xs us Q I r h
 unfold Fm at h
 split at h
 ·obtain⟨ys,h1⟩:=h
  exact Kf pins s σ H _ us Q I r ⟨_,ys,rfl,h1⟩
 ·exact h.elim
theorem ab9 (hu:X.A.units+64<cLine) {x:Str} {f:BF} {r:RF} {c:Bool} (h:aq4 X.K c x=some (f,r)) (hc:c=X.calm):cO x=some f.val/\B0 X f.val r:=by
 unfold aq4 at h
 by_cases e:x = "len"
 ·rw [if_pos e] at h;cases h;rw [e];exact⟨PySem.boot_len,Ua⟩
 rw [if_neg e] at h
 by_cases e:x = "isinstance"
 ·rw [if_pos e] at h;cases h;rw [e];exact⟨PyProof.Rows.boot_isinstance,Xc⟩
 rw [if_neg e] at h
 by_cases e:x = "all"
 ·rw [if_pos e] at h
  by_cases ec:c=true
  ·rw [if_pos ec] at h;cases h;rw [e];exact⟨PyProof.Rows.boot_all,T8 (hc▸ec)⟩
  ·rw [if_neg ec] at h;cases h
 rw [if_neg e] at h
 by_cases e:x = "int"
 ·rw [if_pos e] at h;cases h;rw [e];exact⟨jO,T9⟩
 rw [if_neg e] at h
 by_cases e:x = "list"
 ·rw [if_pos e] at h;cases h;rw [e];exact⟨fS,fun pins s σ H xs us Q I r h=>h.elim (Pq pins s σ H xs us Q I r) fun z=>z.2.elim⟩
 rw [if_neg e] at h
 by_cases e:x = "tuple"
 ·rw [if_pos e] at h;cases h;rw [e];exact⟨iX,Ub⟩
 rw [if_neg e] at h
 by_cases e:x = "sorted"
 ·rw [if_pos e] at h;cases h;rw [e];exact⟨G8,fun pins s σ H xs us Q I r h=>h.elim cu fun z=>z.2.elim (Ps (hc▸z.1) pins s σ H xs us Q I r) (Pr (hc▸z.1) pins s σ H xs us Q I r)⟩
 rw [if_neg e] at h
 by_cases e:x = "sum"
 ·rw [if_pos e] at h
  by_cases ec:c=true
  ·rw [if_pos ec] at h;cases h;rw [e];exact⟨PyProof.Rows.boot_sum,Xd (hc▸ec)⟩
  ·rw [if_neg ec] at h;cases h
 rw [if_neg e] at h
 by_cases e:x = "dict"
 ·rw [if_pos e] at h;cases h;rw [e];exact⟨boot_dict,Po⟩
 rw [if_neg e] at h
 cases h
noncomputable abbrev RM:=V->List V->Hp->VK->Prop
structure BM where
 T:String
 id:String
 r:RM
noncomputable def rMt (K:ac) (bs:List BM):V->Hp->(Hp->(List V->Hp->Prop)->Prop)->VK->Prop:=fun x H1 ta Q=>
 match bs with
 | []=>False
 | [b]=>tyV K b.T x H1/\ta H1 fun xs H2=>b.r x xs H2 Q
 | b::rest=>(tyV K b.T x H1/\ta H1 fun xs H2=>b.r x xs H2 Q)\/rMt K rest x H1 ta Q
structure an1 (X:Cx) (m:Str) (b:BM):Prop where
 pa:PlainAttrs b.T
 slot:Slot b.T m b.id
 ty:typeOf (.builtin b.id)=pure (.type "method_descriptor")
 mt:MtR X b.id b.r
noncomputable def Lh (K:ac):RM:=fun x xs H Q=>∃ z p ys,x=.str z/\xs=[.ref p]/\(SqL K H p (ys.map V.str)\/SqT K H p (ys.map V.str))/\(ys.map (·.length)).sum+ys.length * z.length<=16777216/\Q (.str (Txt.join z ys)) H
theorem X9 {X:Cx}:MtR X "str.join" (Lh X.K):=by
 intro pins s σ H x xs v us Q I rx rs h
 obtain⟨z,p,ys,rfl,rfl,hq,hz,q⟩:=h
 rcases hq with hq|hq
 ·exact ae1 pins s σ H _ _ v us Q I rx rs ⟨z,p,ys,rfl,rfl,hq,hz,q⟩
 obtain⟨t,rfl⟩:=rx
 obtain⟨u,rfl,ru⟩:=rs.one
 cases ru
 obtain⟨its,rv,pl,_⟩:=I.tuple hq
 exact bu (aj _) (PyProof.Rows.join_tuple pl (by simpa using J6 rv) hz fun t' k htk=>⟨.str _,H,I.tok k htk,⟨_,rfl⟩,q⟩)
noncomputable def Za:RM:=fun x xs H Q=>∃ i,x=.int i/\xs=[]/\Q (.int (gQ i:Nat)) H
noncomputable def Lg:RM:=fun x xs H Q=>match x,xs with
 | .ref a,[y]=>∃ o,DGet H a y o/\Q (o.getD .non) H
 | .ref a,[y,z]=>∃ o,DGet H a y o/\Q (o.getD z) H
 | _,_=>False
theorem ae0 (hu:X.A.units+64<cLine):MtR X "dict.get" Lg:=by
 intro pins s σ H x xs v us Q I rx rs h
 unfold Lg at h
 split at h
 ·obtain⟨o,g,q⟩:=h
  obtain⟨u,rfl,ru⟩:=rs.one
  cases rx
  exact aq8 (by omega) I g ru fun w' s' I' r'=>⟨_,H,I',r',q⟩
 ·obtain⟨o,g,q⟩:=h
  obtain⟨u,w,rfl,ru,rw'⟩:=rs.two
  cases rx
  exact aq9 (by omega) I g ru rw' fun w' s' I' r'=>⟨_,H,I',r',q⟩
 ·exact h.elim
noncomputable def Ie:RM:=fun x xs H Q=>∃ p kvs,x=.ref p/\xs=[]/\H p=some (.dK kvs)/\Q .non (upd H p (.dK []))
theorem U2:MtR X "dict.clear" Ie:=by
 intro pins s σ H x xs v us Q I rx rs h
 obtain⟨p,kvs,rfl,rfl,e,q⟩:=h
 cases rx
 cases rs
 exact ac1 I e fun s' I'=>⟨.non,_,I',rfl,q⟩
theorem P0 {i:Nat} (h:i<sizeLine):dn (i:Int)=true:=by
 have hs:sizeLine<=9223372036854775807:=aG rfl
 have e:(2:Int) ^ 63=9223372036854775808:=rfl
 unfold dn
 rw [e,aP]
 exact⟨decide_eq_true (by omega),decide_eq_true (by omega)⟩
noncomputable def Ih:RM:=fun x vs H Q=>∃ l xs y,∃ i:Nat,x=.ref l/\vs=[.int (i:Int),y]/\H l=some (.lst xs)/\i<=xs.length/\xs.length<sizeLine/\Q .non (upd H l (.lst (xs.take i++y::xs.drop i)))
theorem U4:MtR X "list.insert" Ih:=by
 intro pins s σ H x vs v us Q I rx rv h
 obtain⟨l,xs,y,i,rfl,rfl,hH,hi,hz,q⟩:=h
 cases rx
 obtain⟨u1,u2,rfl,⟨t,rfl⟩,r2⟩:=rv.two
 obtain⟨z,its,n,r,hl,e⟩:=I.lstM hH
 have hf:dn (i:Int)=true:=P0 (bh hi hz)
 have hz':its.toArray.size<=sizeLine:=by rw [aq,<- hl];exact z
 obtain⟨j,hj⟩:∃ j:Int,j=(i:Int):=⟨_,rfl⟩
 rw [<- hj] at hf ⊢
 have hf':¬ (!dn j)=true:=by rw [hf];decide
 have M:=AutoSeq1.list_insert_list_int_val_1 l its.toArray n j t u2 hf' hz'
 refine ly iH ⟨_,e,rfl⟩ PySem.F.entry_list_insert (PySem.F.args_list_insert_3 _ _ _) M ⟨e,?_⟩
 refine⟨.non,_,I.lset (its':=its.take i++u2::its.drop i) hH e ?_ ((r.take i).append (.cons r2 (r.drop i))) ?_,rfl,q⟩
 ·have hk:(if j<0 then (j+(its.toArray.size:Int)).toNat else min j.toNat its.toArray.size)=i:=by
   rw [if_neg (by omega),aq,hj,aU]
   omega
  show (its.toArray.extract 0 (if j<0 then (j+(its.toArray.size:Int)).toNat else min j.toNat its.toArray.size)).push u2++its.toArray.extract (if j<0 then (j+(its.toArray.size:Int)).toNat else min j.toNat its.toArray.size)=_
  rw [hk]
  apply Array.toList_inj.mp
  simp
  exact fP (by simp)
 ·rw [aZ,aK,aH,jb]
  omega
noncomputable def mtR (K:ac) (m:Str):List BM:=
 if m = "append" then [⟨"list", "list.append", Cl⟩] else
 if m = "get" then [⟨"dict", "dict.get", Lg⟩] else
 if m = "extend" then [⟨"list", "list.extend", Ig⟩] else
 if m = "clear" then [⟨"list", "list.clear", Qt⟩,⟨"dict", "dict.clear", Ie⟩] else
 if m = "join" then [⟨"str", "str.join", Lh K⟩] else
 if m = "bit_length" then [⟨"int", "int.bit_length", Za⟩] else
 if m = "insert" then [⟨"list", "list.insert", Ih⟩] else []
theorem X7 {m:Str} {b:BM} (hu:X.A.units+64<cLine) (h:b∈mtR X.K m):an1 X m b:=by
 unfold mtR at h
 by_cases e:m = "append"
 ·rw [if_pos e] at h
  have:b=⟨"list", "list.append", Cl⟩:=by simpa using h
  subst this;subst e
  exact⟨dR,PySem.F.slot_list_append,PySem.F.type_list_append,Lc⟩
 rw [if_neg e] at h
 by_cases e:m = "get"
 ·rw [if_pos e] at h
  have:b=⟨"dict", "dict.get", Lg⟩:=by simpa using h
  subst this;subst e
  exact⟨i0,dz,PySem.F.type_dict_get,ae0 hu⟩
 rw [if_neg e] at h
 by_cases e:m = "extend"
 ·rw [if_pos e] at h
  have:b=⟨"list", "list.extend", Ig⟩:=by simpa using h
  subst this;subst e
  exact⟨dR,PySem.F.slot_list_extend,PySem.F.type_list_extend,U3⟩
 rw [if_neg e] at h
 by_cases e:m = "clear"
 ·rw [if_pos e] at h
  rcases List.mem_cons.mp h with this|h
  ·subst this;subst e
   exact⟨dR,PySem.F.slot_list_clear,PySem.F.type_list_clear,X8⟩
  ·have:b=⟨"dict", "dict.clear", Ie⟩:=by simpa using h
   subst this;subst e
   exact⟨i0,i3,PySem.F.type_dict_clear,U2⟩
 rw [if_neg e] at h
 by_cases e:m = "join"
 ·rw [if_pos e] at h
  have:b=⟨"str", "str.join", Lh X.K⟩:=by simpa using h
  subst this;subst e
  exact⟨PySem.F.plainAttrs_str,PySem.F.slot_str_join,PySem.F.type_str_join,X9⟩
 rw [if_neg e] at h
 by_cases e:m = "bit_length"
 ·rw [if_pos e] at h
  have:b=⟨"int", "int.bit_length", Za⟩:=by simpa using h
  subst this;subst e
  exact⟨PySem.F.plainAttrs_int,PySem.F.slot_int_bit_length,PySem.F.type_int_bit_length,ad9⟩
 rw [if_neg e] at h
 by_cases e:m = "insert"
 ·rw [if_pos e] at h
  have:b=⟨"list", "list.insert", Ih⟩:=by simpa using h
  subst this;subst e
  exact⟨dR,iH,PySem.F.type_list_insert,U4⟩
 rw [if_neg e] at h
 cases h
theorem M0 {K:ac}:∀ {bs:List BM} {x:V} {H1:Hp} {ta:Hp->(List V->Hp->Prop)->Prop} {Q:VK},rMt K bs x H1 ta Q -> ∃ b∈bs,tyV K b.T x H1/\ta H1 fun xs H2=>b.r x xs H2 Q
 | [],_,_,_,_,h=>h.elim
 | [b],_,_,_,_,h=>⟨b,by simp,h⟩
 | b::c::rest,x,H1,ta,Q,h=>by
  rcases h with h|h
  ·exact⟨b,by simp,h⟩
  ·obtain⟨d,hd,q⟩:=M0 h
   exact⟨d,ay _ hd,q⟩
noncomputable def De:Expr->Bool
 | .Call (.Name x _) [] [] _=>!(x==("super" : Str))
 | _=>true
theorem Ea {e:Expr} (h:De e=true) (f:Str) (env:Env) (whole:Sem ah):i5 e f env whole=whole:=by
 unfold i5
 split
 ·rename_i id p pos
  have:(id==("super" : Str))=false:=by
   have h':(!(id==("super" : Str)))=true:=h
   simpa using h'
  have e2:(id != "super")=true:=by
   show (!(id == "super"))=true
   rw [this]
   rfl
  rw [e2]
  simp
 ·rfl
variable {o:Expr} {do':DE} {es:List Expr} {r:DA} {m:Str} {apos cpos:Pos}
theorem a01 {bs:List BM} (hb:∀ b∈bs,an1 X m b) (ho:QE X o do') (h1:De o=true) (h4:(apos.endLine==cpos.line)=true) :
  QE X (.Call (.Attribute o m apos) [] [] cpos) (dMt (rMt X.K bs) do' Af):=by
 intro Ex mt pins s σ H Q I h
 refine wpAny_Call_method0_late (Ea h1 m X.env _) h4 (thn (ho Ex mt pins s σ H _ I h) fun v s1 ⟨x,H1,I1,r1,q1⟩=>?_)
 obtain⟨b,hbm,ty,q⟩:=M0 q1
 obtain⟨k1,k2⟩:=aa1 I1 r1 ty
 have B:=hb b hbm
 exact⟨b.T,b.id,B.pa,B.slot,B.ty,k1,k2,jn rfl (PySem.evalArgs_none (B.mt pins s1 σ H1 x [] v [] Q I1 r1 .nil q))⟩
theorem ba6 {bs:List BM} {e:Expr} (hb:∀ b∈bs,an1 X m b) (ho:QE X o do') (ha:QA X (e::es) r) (h1:De o=true) (h2:(e::es).all Ay=true) (h3:(e::es).length<30) (h4:(apos.endLine==cpos.line)=true) :
  QE X (.Call (.Attribute o m apos) (e::es) [] cpos) (dMt (rMt X.K bs) do' r):=by
 intro Ex mt pins s σ H Q I h
 have hs:=bS▸h2
 rw [aP] at hs
 have hfew:((iL cpos (cP (e::es) X.env)).all (fun x=>!x.1)&&(mz cpos (kI [] X.env)).all (fun x=>x.1.isSome)
   && decide ((e::es).length+([]:List l7).length+(if ([]:List l7).isEmpty then 0 else 1)<30))=true:=by
  rw [Hh h2]
  have:decide ((e::es).length+([]:List l7).length+(if ([]:List l7).isEmpty then 0 else 1)<30)=true:=by
   rw [decide_eq_true_iff]
   simpa using h3
  rw [this]
  rfl
 refine wpAny_Call_method_late (Ea h1 m X.env _) hfew h4 rfl (thn (ho Ex mt pins s σ H _ I h) fun v s1 ⟨x,H1,I1,r1,q1⟩=>?_)
 obtain⟨b,hbm,ty,q⟩:=M0 q1
 obtain⟨k1,k2⟩:=aa1 I1 r1 ty
 have B:=hb b hbm
 refine⟨b.T,b.id,B.pa,B.slot,B.ty,k1,k2,?_⟩
 have hA:=ha Ex mt cpos pins s1 σ H1 _ I1 q
 rw [Av hs.1] at hA ⊢
 refine jn (by show (false||(iL cpos (cP es X.env)).any (·.1))=false;rw [Bo hs.2] <;> rfl) (Calls.evalArgs_plain ?_)
 exact thn hA fun us s2 ⟨vs,H2,I2,r2,q2⟩=>B.mt pins s2 σ H2 x vs v us Q I2 r1 r2 q2
variable {x:Str} {p pos:Pos} {G:Sg}
theorem az6 {f:BF} {rf:RF} {e:Expr} (hc:B0 X f.val rf) (hg:Gl X x) (hm:X.mg x=none) (hv:cO x=some f.val) (ha:QA X (e::es) r) (hs:(e::es).all Ay=true) (hn:x ≠ "__name__") (hdb:(x==("__debug__" : Str))=false) :
  QE X (.Call (.Name x p) (e::es) [] pos) (dFn (fun vs H Q _=>rf vs H Q) r):=by
 intro Ex mt
 have h:=bS▸hs
 rw [aP] at h
 cases f with
 | bf id=>exact Yl hc hg hm hv (ha Ex mt) hn hdb (Av h.1 es X.env) (Bo h.2 X.env pos)
 | ty T=>exact Vb hc hg hm hv (ha Ex mt) hn hdb (Av h.1 es X.env) (Bo h.2 X.env pos)
noncomputable def spE (sp:Sp) (dvs:List V):List V->Hp->VK->EK->Prop:=fun vs H Q E=>sp (vs++dvs) H Q (fun v _ H'=>∃ a,v=.ref a/\E a H')
theorem Ij {i:FI} (F:Gf X i) {j:Nat} (hj:j<=i.dfs.length) {Ex:St->EK} (mt:Meets X Ex) {pins:List (Addr×Obj)} {σ:St} {H:Hp} {s:al} {Q:VK} {us:List ah} {vs:List V}
  (I:Inv X pins σ H s) (r:Vals vs us) (h:spE i.sp (i.dfs.drop j) vs H Q (Ex σ)):aJ (model X.prog X.w) X.A (call (.ref i.f) us) (EP X pins σ Q) X.xe s:=by
 obtain⟨CX,hx,FO⟩:=F.ok
 have r2:Vals (vs++i.dfs.drop j) (us++i.ds.drop j):=r.append (F.vals.drop j)
 have hl:(us++i.ds.drop j).length=i.ps.length:=by rw [<- r2.length];exact FO.len _ _ _ _ h
 refine j0 (fE (FO.run X.A X.stack s H ⟨us,[]⟩ (us++i.ds.drop j) (vs++i.dfs.drop j) Q _ F.room I.env0 (F.binds j hj s us I.kIn hl) r2 h) fun r s' hq=>?_)
 cases r with
 | error e=>exact hx X rfl rfl Ex mt pins σ H s e s' I hq
 | ok fl=>
  cases fl with
  | ret u=>exact I.after hq
  | next=>exact cu hq
  | brk=>exact cu hq
  | cont=>exact cu hq
theorem Yz {i:FI} (F:Gf X i) {j:Nat} (hj:j<=i.dfs.length) (hg:Gl X x) (hm:X.mg x=some (.ref i.f)) (hdb:(x==("__debug__" : Str))=false) :
  QE X (.Call (.Name x p) [] [] pos) (dFn (spE i.sp (i.dfs.drop j)) Af):=by
 intro Ex mt pins s σ H Q I h
 refine bZ (F4 I hg hm ?_ hdb)
 exact gU I.kIn F.kp (Ij (us:=[]) F hj mt I .nil h)
theorem ag1 {i:FI} {e:Expr} (F:Gf X i) {j:Nat} (hj:j<=i.dfs.length) (hg:Gl X x) (hm:X.mg x=some (.ref i.f)) (ha:QA X (e::es) r) (hs:(e::es).all Ay=true) (hdb:(x==("__debug__" : Str))=false) :
  QE X (.Call (.Name x p) (e::es) [] pos) (dFn (spE i.sp (i.dfs.drop j)) r):=by
 intro Ex mt pins s σ H Q I h
 have h2:=bS▸hs
 rw [aP] at h2
 refine bZ (F4 I hg hm ?_ hdb)
 refine h9 (h₀:=X.base) I.ok.mod.kin F.kp (thn (ha Ex mt pos pins s σ H _ I h) fun us s1 ⟨vs,H1,I1,r,q⟩=>⟨I1.kIn,?_⟩) (Av h2.1 es X.env) (Bo h2.2 X.env pos)
 exact Ij F hj mt I1 r q
noncomputable def mkC (C:Addr):Option FI->Nat->List V->Hp->VK->EK->Prop
 | none,_=>fun vs H Q _=>vs=[] /\ ∀ a dx,H a=none->H dx=none->dx≠a->Q (.ref a) (upd (upd H dx (.own a)) a (.ins C dx []))
 | some i,j=>fun vs H Q E=>∀ a dx,H a=none->H dx=none->dx≠a ->
   i.sp (.ref a::(vs++i.dfs.drop j)) (upd (upd H dx (.own a)) a (.ins C dx [])) (fun v H2=>v=.non/\Q (.ref a) H2) (fun v _ H'=>∃ b,v=.ref b/\E b H')
theorem Vm {C:Addr} (h1:bX X.K C=true) (h2:aO X.K (.ref C) "__init__" = some (some (.builtin "object.__init__"))) {pins:List (Addr×Obj)} {σ:St} {H:Hp} {s:al} {Q:VK}
  (I:Inv X pins σ H s) (h:∀ a dx,H a=none->H dx=none->dx≠a->Q (.ref a) (upd (upd H dx (.own a)) a (.ins C dx []))):aJ (model X.prog X.w) X.A (call (.ref C) []) (EP X pins σ Q) X.xe s:=by
 have hq:=h (s.heap.objs.size+1) s.heap.objs.size (I.hok.fresh (cQ _)) (I.hok.fresh (aj _)) (aN (cn _))
 have I2:=Inv.made (C:=C) I
 have e2:((s.heap.push bC).push (bO C s.heap.objs.size)).get? (s.heap.objs.size+1)=some (bO C s.heap.objs.size):=by
  have z:=az (s.heap.push bC) (o:=bO C s.heap.objs.size) rfl
  rwa [dD] at z
 refine j0 (Uy I.kIn h1 h2 (fun self=>.of_pure (PySem.W.oi_bind self)) ?_)
 have ty:gI (model X.prog X.w) ((s.heap.push bC).push (bO C s.heap.objs.size)) (typeOf (.ref (s.heap.objs.size+1))) (.ref C):=(PySem.W.Looks.ld e2).andThen .now
 have io:gI (model X.prog X.w) ((s.heap.push bC).push (bO C s.heap.objs.size)) (lz (.ref (s.heap.objs.size+1)) (.type "object")) true:=
  ty.andThen ((jg (M:=model X.prog X.w) I.kIn h1).top.keeps fun b o e=>ai _ (ai _ e))
 refine j9 PySem.W.oi_plain PySem.W.entry_oi (PySem.W.check_slot (s:={ s with heap:=(s.heap.push bC).push (bO C s.heap.objs.size) }) (i := "object.__init__") (owner := "object") (self:=.ref (s.heap.objs.size+1)) PySem.W.oi_kind PySem.W.oi_split io (PySem.W.oi_args _) ?_)
 rw [PySem.W.oi_run]
 exact ar ⟨rfl,⟨.ref _,_,I2,rfl,hq⟩⟩
theorem ah9 {C f:Addr} {CX:CXT} {k:Nat} {fd:bo} {ps:List Str} {sp:Sp} {ds:List ah} {dvs:List V} {E:XK} {pins:List (Addr×Obj)} {σ:St} {H:Hp} {s:al} {Q:VK} {us:List ah} {vs:List V}
  (M:Mk X.K C f) (F:FnOk X.prog X.w X.K X.mg X.base CX k f fd ps sp) (hr:Room (k+1) X.A) (hb:Binds X.K fd ps ds) (hd:Vals dvs ds) (hx:∀ H1 s1 e s',Inv X pins σ H1 s1->CX X.stack H1 s1 E e s'->X.xe e s') (I:Inv X pins σ H s) (r:Vals vs us)
  (h:∀ x dx,H x=none->H dx=none->dx≠x->sp (.ref x::(vs++dvs)) (upd (upd H dx (.own x)) x (.ins C dx [])) (fun v H2=>v=.non/\Q (.ref x) H2) E) :
  aJ (model X.prog X.w) X.A (call (.ref C) us) (EP X pins σ Q) X.xe s:=by
 have hq:=h (s.heap.objs.size+1) s.heap.objs.size (I.hok.fresh (cQ _)) (I.hok.fresh (aj _)) (aN (cn _))
 have I2:=Inv.made (C:=C) I
 have r2:Vals (V.ref (s.heap.objs.size+1)::(vs++dvs)) (bG (s.heap.objs.size+1)::(us++ds)):=.cons rfl (r.append hd)
 have hl:(bG (s.heap.objs.size+1)::us++ds).length=ps.length:=by
  have e:=r2.length
  rw [F.len _ _ _ _ hq] at e
  exact e.symm
 refine j0 (X4 (f:=f) I.kIn M.makes M.init (beq_iff_eq.mp M.fn) (fE (F.run _ X.stack _ _ ⟨bG (s.heap.objs.size+1)::us,[]⟩ (bG (s.heap.objs.size+1)::(us++ds)) _ _ E (hr.make C us [])
  (I2.env0.make C us []) (hb _ (bG (s.heap.objs.size+1)::us) I2.kIn hl) r2 hq) fun r s' hq'=>?_))
 cases r with
 | error e=>exact hx _ _ e s' I2 hq'
 | ok fl=>
  cases fl with
  | ret u=>
   obtain⟨v,H',I3,rv,ev,q3⟩:=I2.after hq'
   subst ev
   exact⟨rv,⟨V.ref (s.heap.objs.size+1),H',I3,rfl,q3⟩⟩
  | next=>exact cu hq'
  | brk=>exact cu hq'
  | cont=>exact cu hq'
theorem Tl {C:Addr} {oi:Option FI} {j:Nat} (hi:Ww X C oi) (hj:∀ i,oi=some i->j<=i.dfs.length) {Ex:St->EK} (mt:Meets X Ex) {pins:List (Addr×Obj)} {σ:St} {H:Hp} {s:al} {Q:VK} {us:List ah} {vs:List V}
  (I:Inv X pins σ H s) (rv:Vals vs us) (kp:ba X.K (.ref C)=true) (h:mkC C oi j vs H Q (Ex σ)):aJ (model X.prog X.w) X.A (call (.ref C) us) (EP X pins σ Q) X.xe s:=by
 cases oi with
 | none=>
  obtain⟨rfl,h⟩:=h
  cases rv
  exact Vm hi.1 hi.2 I h
 | some i=>
  obtain⟨h0,h1,h2,F,hr⟩:=hi
  obtain⟨CX,hx,FO⟩:=F.ok
  exact ah9 ⟨h0,h1,h2,kp⟩ FO hr (F.binds j (hj i rfl)) (F.vals.drop j) (fun H1 s1 e s' I1 q=>hx X rfl rfl Ex mt pins σ H1 s1 e s' I1 q) I rv h
theorem Sz {C:Addr} {oi:Option FI} {j:Nat} (hi:Ww X C oi) (hj:∀ i,oi=some i->j<=i.dfs.length) (kp:ba X.K (.ref C)=true) (hg:Gl X x) (hm:X.mg x=some (.ref C)) (hdb:(x==("__debug__" : Str))=false) :
  QE X (.Call (.Name x p) [] [] pos) (dFn (mkC C oi j) Af):=by
 intro Ex mt pins s σ H Q I h
 refine bZ (F4 I hg hm ?_ hdb)
 exact gU I.kIn kp (Tl (us:=[]) hi hj mt I .nil kp h)
theorem a00 {C:Addr} {oi:Option FI} {j:Nat} {e:Expr} (hi:Ww X C oi) (hj:∀ i,oi=some i->j<=i.dfs.length) (kp:ba X.K (.ref C)=true) (hg:Gl X x) (hm:X.mg x=some (.ref C)) (ha:QA X (e::es) r) (hs:(e::es).all Ay=true) (hdb:(x==("__debug__" : Str))=false) :
  QE X (.Call (.Name x p) (e::es) [] pos) (dFn (mkC C oi j) r):=by
 intro Ex mt pins s σ H Q I h
 have h2:=bS▸hs
 rw [aP] at h2
 refine bZ (F4 I hg hm ?_ hdb)
 refine h9 (h₀:=X.base) I.ok.mod.kin kp (thn (ha Ex mt pos pins s σ H _ I h) fun us s1 ⟨vs,H1,I1,r,q⟩=>⟨I1.kIn,?_⟩) (Av h2.1 es X.env) (Bo h2.2 X.env pos)
 exact Tl hi hj mt I1 r kp q
noncomputable def Dk (m:Str) (n:Nat) (l:List MI) (o:DE) (t:DA):DE:=fun σ H Q E=>o σ H (fun x H1=>∃ a dx fs mi,x=.ref a/\mi∈l/\H1 a=some (.ins mi.C dx fs)/\fs.lookup m=none/\(n+1<=mi.i.ps.length/\mi.i.ps.length<=n+1+mi.i.dfs.length) /\
 t σ H1 (fun vs H2=>spE mi.i.sp (mi.i.dfs.drop (n+1+mi.i.dfs.length - mi.i.ps.length)) (.ref a::vs) H2 Q E) E) E
theorem Og {es:List Expr} {P:ah->al->Prop} {s:al} (h1:De o=true) (h2:es.all Ay=true) (h3:es.length<30) (h4:(apos.endLine==cpos.line)=true)
  (h:aJ (model X.prog X.w) X.A (eval o X.env) (fun ov s1=>∀ pl,aJ (model X.prog X.w) X.A (getMethod ov m pl) (fun fx s2=>aJ (model X.prog X.w) X.A (callWith cpos fx.1 fx.2 (iL cpos (cP es X.env)) (mz cpos (kI [] X.env))) P X.xe s2) X.xe s1) X.xe s) :
  aJ (model X.prog X.w) X.A (eval (.Call (.Attribute o m apos) es [] cpos) X.env) P X.xe s:=by
 have few:methodCallForm (es.length+([]:List l7).length) (iL cpos (cP es X.env)) (mz cpos (kI [] X.env))=true:=by
  unfold methodCallForm
  rw [Hh h2]
  simpa [mz,kI] using h3
 rw [arm_eval_Call,Ea h1]
 refine ag (thn h fun ov s1 h1=>ag (fN ?_))
 unfold methodCall calleeOf
 rw [few,if_pos rfl]
 refine ag (bE (thn (h1 _) fun fx s2 h2=>?_))
 have hp:methodCallPos true o X.env apos cpos=pure cpos:=by unfold methodCallPos;rw [h4];rfl
 rw [hp]
 exact ag (ar h2)
theorem ag6 {l:List MI} (hl:∀ mi∈l,Cls X.K mi.C/\Il X.K mi.C m mi.i.f/\Gf X mi.i) (ho:QE X o do') (h1:De o=true) (h4:(apos.endLine==cpos.line)=true) :
  QE X (.Call (.Attribute o m apos) [] [] cpos) (Dk m 0 l do' Af):=by
 intro Ex mt pins s σ H Q I h
 refine Og (es:=[]) h1 rfl (by decide) h4 (thn (ho Ex mt pins s σ H _ I h) fun u s1 ⟨x,H1,I1,rx,a,dx,fs,mi,ex,hm,ea,hf,hn,q⟩ pl=>?_)
 subst ex
 obtain rfl:u=bG a:=rx
 obtain⟨c,k,F⟩:=hl mi hm
 refine Jc I1 ea c k hf ?_
 exact gU (first:=[.ref a]) I1.kIn k.kp (Ij (us:=[.ref a]) (vs:=[.ref a]) F (by omega) mt I1 (.cons rfl .nil) q)
theorem a05 {l:List MI} {e:Expr} (hl:∀ mi∈l,Cls X.K mi.C/\Il X.K mi.C m mi.i.f/\Gf X mi.i) (ho:QE X o do') (ha:QA X (e::es) r) (h1:De o=true) (h2:(e::es).all Ay=true) (h3:(e::es).length<30) (h4:(apos.endLine==cpos.line)=true) :
  QE X (.Call (.Attribute o m apos) (e::es) [] cpos) (Dk m (es.length+1) l do' r):=by
 intro Ex mt pins s σ H Q I h
 refine Og h1 h2 h3 h4 (thn (ho Ex mt pins s σ H _ I h) fun u s1 ⟨x,H1,I1,rx,a,dx,fs,mi,ex,hm,ea,hf,hn,q⟩ pl=>?_)
 subst ex
 obtain rfl:u=bG a:=rx
 obtain⟨c,k,F⟩:=hl mi hm
 refine Jc I1 ea c k hf ?_
 have hs:=bS▸h2
 rw [aP] at hs
 refine h9 (first:=[.ref a]) (h₀:=X.base) I.ok.mod.kin k.kp (thn (ha Ex mt cpos pins s1 σ H1 _ I1 q) fun us s2 ⟨vs,H2,I2,r2,q2⟩=>⟨I2.kIn,?_⟩) (Av hs.1 es X.env) (Bo hs.2 X.env cpos)
 exact Ij (us:=.ref a::us) (vs:=.ref a::vs) F (by omega) mt I2 (.cons rfl r2) q2
noncomputable def Db:DE:=fun _ H Q _=>∀ p,H p=none->Q (.ref p) (upd H p (.dK []))\/Q (.ref p) (upd H p (.dT []))
theorem ag3:QE X (.Dict [] [] pos) Db:=fun Ex mt pins s σ H Q I h=>by
 have fr:=I.hok.fresh (aj s.heap.objs.size)
 rcases h _ fr with q|q
 ·exact wpAny_Dict_empty ⟨.ref _,_,I.laid (a:=s.heap.objs.size) (o:=.dK []) (t':=s.toks) (fun _ _ q=>ai _ q) (aj _) (Xi s.heap I.big),rfl,q⟩
 ·exact wpAny_Dict_empty ⟨.ref _,_,I.laid (a:=s.heap.objs.size) (o:=.dT []) (t':=s.toks) (fun _ _ q=>ai _ q) (aj _) (Xj s.heap I.big),rfl,q⟩
theorem Vh {a:Expr} {da:DE} {p2 pos2:Pos} (hc:X.calm=true) (hg:Gl X "len") (hm:X.mg "len" = none) (hg2:Gl X "set") (hm2:X.mg "set" = none) (ha:QE X a da) (hs:Ay a=true) :
  QE X (.Call (.Name "len" p) [.Call (.Name "set" p2) [a] [] pos2] [] pos) (dUn (Ii X.K) da):=by
 intro Ex mt pins s σ H Q I h
 refine bZ (C3 I hg hm PySem.boot_len (gj (d6 ?_) rfl rfl) (by decide) (by decide))
 refine bZ (C3 I hg2 hm2 PyProof.Rows.boot_set (bV ?_ (Av hs [] X.env) rfl) (by decide) (by decide))
 rw [Av hs]
 show aJ _ _ (spliced ((false,eval a X.env)::iL pos2 (cP [] X.env))) _ _ s
 refine d6 (thn (ha Ex mt pins s σ H _ I h) fun u s1 ⟨x,H1,I1,r1,q1⟩=>eO ?_)
 exact thn (ad7 hc I1 r1 q1) fun v s2 q=>eO q
theorem Qr {a:Expr} {da:DE} {p2 pos2:Pos} (hc:X.calm=true) (hg:Gl X "list") (hm:X.mg "list" = none) (hg2:Gl X "range") (hm2:X.mg "range" = none) (ha:QE X a da) (hs:Ay a=true) :
  QE X (.Call (.Name "list" p) [.Call (.Name "range" p2) [a] [] pos2] [] pos) (dUn Jz da):=by
 intro Ex mt pins s σ H Q I h
 refine bZ (C3 I hg hm fS (bV (d6 ?_) rfl rfl) (by decide) (by decide))
 refine bZ (C3 I hg2 hm2 boot_range (bV ?_ (Av hs [] X.env) rfl) (by decide) (by decide))
 rw [Av hs]
 show aJ _ _ (spliced ((false,eval a X.env)::iL pos2 (cP [] X.env))) _ _ s
 refine d6 (thn (ha Ex mt pins s σ H _ I h) fun u s1 ⟨x,H1,I1,r1,q1⟩=>eO ?_)
 cases x with
 | int n=>
  obtain⟨t,rfl⟩:=r1
  exact thn (X3 hc I1 q1.1 q1.2.1 q1.2.2) fun v s2 q=>eO q
 | _=>exact (show False from q1).elim
end
noncomputable def ap7 (lo st:Int) (n:Nat):It:=⟨fun i _=>i<n,fun i H x H'=>H'=H/\x=.int (lo+(i:Int) * st),fun i _=>n<=i⟩
theorem V1 {P:aS} {w:bB} {K:ac} {tg:Expr} (it:Addr) (lo st:Int) (n:Nat):Im P w K tg (ap7 lo st n) [it] it (fun i h=>ky h it (lo+(i:Nat) * st) ((n:Int) - (i:Nat)) st) where
 mem:=List.mem_singleton.mpr rfl
 obj:=fun i h q b hb=>by
  obtain rfl:=List.mem_singleton.mp hb
  exact⟨_,q,fun v z=>by cases (show Data.fields _=Data.cell v from z)⟩
 keep:=fun i h h' q k=>k it (List.mem_singleton.mpr rfl) _ q
 item:=by
  intro X hP hw hK hc i pins s σ H E I hf q go
  subst hP hw hK
  obtain⟨g0,g1,_,g3,g4,g5⟩:=hf it (List.mem_singleton.mpr rfl)
  refine bu (aj _) ((Walks.range (prog:=X.prog) (w:=X.w) (I.ok.hd hc) it lo st n).item i s _ _ go q fun v h' tk hv q' kk htk=>?_)
  obtain⟨t,rfl⟩:=hv
  have I1:Inv X pins σ H { s with heap:=h',toks:=tk }:=I.turned (fun b o nb e=>kk b o (fun z=>nb (List.mem_singleton.mp z)) e) g0 g1 g3 g4 g5
  exact⟨_,rfl,Ha (s:={ s with heap:=h',toks:=tk }) (n := "range_iterator") q' rfl rfl (by decide) ⟨.int (lo+(i:Int) * st),H,I1,⟨t,rfl⟩,⟨rfl,rfl⟩,q',fun b hb=>(hf b hb).1⟩⟩
 done:=by
  intro X hP hw hK hc i pins s σ H E I hf q go
  subst hP hw hK
  obtain⟨g0,g1,_,g3,g4,g5⟩:=hf it (List.mem_singleton.mpr rfl)
  exact jz (I.ok.hd hc) q (by have:n<=i:=go;omega) fun h' eb=>⟨rfl,I.turned (t':=s.toks) (fun b o nb e=>eb b o nb e) g0 g1 g3 g4 g5⟩
 self:=fun _ _ _ _ _ q h=>jv q h
section
variable {X:Cx} {tg:Expr}
theorem ai6 {pins:List (Addr×Obj)} {σ:St} {H:Hp} {s:al} {R:It->Hp->Prop} {E:ah->al->Prop} {lo hi st:Int} {t u v:Tok} {tk:Nat} (I:Inv X pins σ H s) (htk:s.toks<=tk) (sm:ku lo hi st=true)
  (q:R (ap7 lo st (cr lo hi st).toNat) H):aJ (model X.prog X.w) X.A (lR (.ref s.heap.objs.size)) (PIE X pins σ tg R) E { s with heap:=s.heap.push { cls:=.type "range", data:=.fields #[.int lo t,.int hi u,.int st v] },toks:=tk }:=by
 refine ll (l6 ..) sm ?_
 have I1:Inv X pins σ H { s with heap:=s.heap.push { cls:=.type "range", data:=.fields #[.int lo t,.int hi u,.int st v] },toks:=tk }:=I.kept fun b o e=>ai _ e
 generalize s.heap.push { cls:=.type "range", data:=.fields #[.int lo t,.int hi u,.int st v] }=h1 at I1 ⊢
 refine⟨h1.objs.size,[h1.objs.size],_,_,H,rfl,I1.kept (t':=tk) fun b o e=>ai _ e,V1 _ lo st (cr lo hi st).toNat,?_,fun b hb=>?_,q⟩
 ·have e:lo+((0:Nat):Int) * st=lo:=by rw [Int.natCast_zero,Int.zero_mul,Int.add_zero]
  have f:(((cr lo hi st).toNat:Nat):Int) - ((0:Nat):Int)=cr lo hi st:=by
   rw [<- rangeSize_toNat,Int.natCast_zero,lG]
  show ky _ _ (lo+((0:Nat):Int) * st) ((((cr lo hi st).toNat:Nat):Int) - ((0:Nat):Int)) st
  rw [e,f]
  exact az _ rfl
 ·obtain rfl:=List.mem_singleton.mp hb
  exact I1.fpOk (aj _) (I1.hok.fresh (aj _))
end
noncomputable def QI (X:Cx) (tg e:Expr) (t:DI):Prop:=∀ Ex,Meets X Ex->PI X tg e (fun σ H R=>t σ H R (Ex σ))
noncomputable def iNo:DI:=fun _ _ _ _=>False
noncomputable def onD (p:Addr) (H:Hp) (R:Obj->List (Key×V)->Hp->Prop):Prop:=(∃ kvs,H p=some (.dK kvs) /\ ∀ o,R o kvs (upd H p (.frz o (.dK kvs)))) \/ ∃ o kvs,H p=some (.frz o (.dK kvs))/\R o kvs H
theorem Yh {X:Cx} {pins:List (Addr×Obj)} {σ:St} {H:Hp} {s:al} {p:Addr} {R:Obj->List (Key×V)->Hp->Prop} (I:Inv X pins σ H s) (h:onD p H R):∃ o kvs H',Inv X pins σ H' s/\H' p=some (.frz o (.dK kvs))/\R o kvs H':=by
 rcases h with ⟨kvs,e,q⟩|⟨o,kvs,e,q⟩
 ·obtain⟨o,ep,_,_,I'⟩:=I.froze e
  exact⟨o,kvs,_,I',Aa,q o⟩
 ·exact⟨o,kvs,H,I,e,q⟩
noncomputable def Bt (K:ac) (a:DE):DI:=fun σ H R E=>a σ H (fun x H1=>match x with
 | .str z=>R (Its z) H1
 | .ref p=>((∃ xs,SqL K H1 p xs)/\R (Itl K p) H1)\/((∃ xs,SqT K H1 p xs)/\R (Itt K p) H1)\/(onD p H1 fun o kvs H2=>R (Itd p o kvs) H2) \/ ∃ kvs,H1 p=some (.dT kvs) /\ ∀ o,R (ab2 p o kvs) (upd H1 p (.frz o (.dT kvs)))
 | _=>False) E
noncomputable def F2 (t:DA):DI:=fun σ H R E=>t σ H (fun vs H1=>match vs with
 | [.int j]=>(-(2 ^ 62)<=j/\j<2 ^ 62)/\R (Itr 0 j.toNat) H1
 | [.int i,.int j]=>(-(2 ^ 62)<=i/\i<2 ^ 62 /\ -(2 ^ 62)<=j/\j<2 ^ 62)/\R (Itr i (j - i).toNat) H1
 | [.int i,.int j,.int k]=>(ku i j k=true/\1<=k/\k<=1000)/\R (ap7 i k (cr i j k).toNat) H1
 | _=>False) E
noncomputable def iEn (K:ac) (t:DA):DI:=fun σ H R E=>t σ H (fun vs H1=>match vs with
 | [.ref a]=>((∃ xs,SqL K H1 a xs)/\R (Ite K a) H1)\/onD a H1 fun o kvs H2=>R (Wv a o kvs) H2
 | _=>False) E
section
variable {X:Cx} {tg e a b:Expr} {da:DE} {r:DA} {p pos:Pos}
theorem ak6:QI X tg e iNo:=fun _ _ _ _ _ _ _ _ h=>h.elim
theorem Y6 (ha:QE X e da):QI X tg e (Bt X.K da):=by
 intro Ex mt pins s σ H R I h
 refine thn (ha Ex mt pins s σ H _ I h) fun v s1 ⟨x,H1,I1,r1,q1⟩=>?_
 cases x with
 | str z=>
  obtain⟨t,rfl⟩:=r1
  refine wpAny_pyIter_strU ?_
  refine⟨s1.heap.objs.size,[s1.heap.objs.size],_,_,H1,rfl,I1.kept (t':=s1.toks) fun b o e=>ai _ e,Z9 s1.heap.objs.size z t (strIterType z) (by unfold strIterType;split <;> simp),⟨_,az _ rfl,rfl,rfl⟩,fun b hb=>?_,q1⟩
  have e:b=s1.heap.objs.size:=by simpa using hb
  subst e
  exact I1.fpOk (aj _) (I1.hok.fresh (aj _))
 | ref a=>
  cases r1
  rcases q1 with ⟨⟨xs,hq⟩,q⟩|⟨⟨xs,hq⟩,q⟩|q|⟨kvs,hq,q⟩
  ·obtain⟨its,rv,p,hz⟩:=I1.list hq
   refine iP p.isList ?_
   refine⟨s1.heap.objs.size,[s1.heap.objs.size],_,_,H1,rfl,I1.kept (t':=s1.toks) fun b o e=>ai _ e,V0 a _,⟨_,az _ rfl,rfl,rfl⟩,fun b hb=>?_,q⟩
   have e:b=s1.heap.objs.size:=by simpa using hb
   subst e
   exact I1.fpOk (aj _) (I1.hok.fresh (aj _))
  ·obtain⟨its,rv,p,hz⟩:=I1.tuple hq
   refine wpAny_pyIter_tuple (show s1.heap.IsTuple a its.toArray from p) ?_
   refine⟨s1.heap.objs.size,[s1.heap.objs.size],_,_,H1,rfl,I1.kept (t':=s1.toks) fun b o e=>ai _ e,Rm a _,⟨_,az _ rfl,rfl,rfl⟩,fun b hb=>?_,q⟩
   have e:b=s1.heap.objs.size:=by simpa using hb
   subst e
   exact I1.fpOk (aj _) (I1.hok.fresh (aj _))
  ·obtain⟨o,kvs,H2,I2,e,q⟩:=Yh I1 q
   exact ac4 I2 e q
  ·exact a52 I1 hq q
 | _=>exact (show False from q1).elim
variable {es:List Expr}
theorem Y5 (hg:Gl X "range") (hm:X.mg "range" = none) (ha:QA X (a::es) r) (hs:(a::es).all Ay=true):QI X tg (.Call (.Name "range" p) (a::es) [] pos) (F2 r):=by
 intro Ex mt pins s σ H R I h
 have h2:=bS▸hs
 rw [aP] at h2
 refine Call_ (C3 I hg hm boot_range (bV (thn (ha Ex mt pos pins s σ H _ I h) fun us s1 ⟨vs,H1,I1,r1,q1⟩=>?_) (Av h2.1 es X.env) (Bo h2.2 X.env pos)))
 dsimp only at q1
 split at q1
 ·obtain⟨⟨h1,h2⟩,q⟩:=q1
  obtain⟨u,rfl,t,rfl⟩:=C8 r1
  exact call_range_1 (Op I1 (by first|exact aj _|exact be _ _|omega|(dsimp only;omega)) (by omega) (by omega) h1 h2 (by simpa using q))
 ·obtain⟨⟨h1,h2,h3,h4⟩,q⟩:=q1
  obtain⟨u,v,rfl,⟨t,rfl⟩,⟨t',rfl⟩⟩:=be8 r1
  exact call_range_2 (Op I1 (by first|exact aj _|exact be _ _|omega|(dsimp only;omega)) h1 h2 h3 h4 q)
 ·obtain⟨⟨h1,h2,h3⟩,q⟩:=q1
  cases r1 with
  | cons ra rr=>cases rr with
   | cons rb rr=>cases rr with
    | cons rc rr=>
     cases rr
     obtain⟨t,rfl⟩:=ra
     obtain⟨t',rfl⟩:=rb
     obtain⟨t2,rfl⟩:=rc
     exact call_range_3 (by omega) (ai6 I1 (by first|exact aj _|exact be _ _|omega|(dsimp only;omega)) h1 q) (.inl (jt (by omega)))
 ·exact q1.elim
theorem ag8 {elts:List Expr} {kt:Nat} {pt:Pos} (hg:Gl X "enumerate") (hm:X.mg "enumerate" = none) (ha:QA X (a::es) r) (hs:(a::es).all Ay=true):QI X (.Tuple elts kt pt) (.Call (.Name "enumerate" p) (a::es) [] pos) (iEn X.K r):=by
 intro Ex mt pins s σ H R I h
 have hh:=bS▸hs
 rw [aP] at hh
 refine Call_ (C3 I hg hm boot_enumerate (bV (thn (ha Ex mt pos pins s σ H _ I h) fun us s1 ⟨vs,H1,I1,r1,q1⟩=>?_) (Av hh.1 es X.env) (Bo hh.2 X.env pos)))
 dsimp only at q1
 split at q1
 ·rename_i l
  obtain⟨u,rfl,ru⟩:=C8 r1
  cases ru
  rcases q1 with ⟨⟨xs,q1⟩,q⟩|q
  case inr=>
   obtain⟨o,kvs,H2,I2,e,q⟩:=Yh I1 q
   exact Xl I2 e q
  obtain⟨its1,t1,p1,z1⟩:=I1.list q1
  refine call_enumerate_list p1.isList fun h' he hit hsz hk=>?_
  refine f8 he ?_
  refine⟨_,_,_,_,H1,rfl,I1.kept (t':=s1.toks) hk,Vz (Nat.succ_ne_self _),⟨⟨_,he⟩,hit⟩,fun b hb=>?_,q⟩
  have hb:b=s1.heap.objs.size+1\/b=s1.heap.objs.size:=by simpa using hb
  have le:s1.heap.objs.size<=b:=by
   rcases hb with e|e
   ·rw [e];exact be _ 1
   ·rw [e];exact aj _
  exact I1.fpOk le (I1.hok.fresh le)
 ·exact q1.elim
noncomputable def gNo:DG:=fun _ _ _ _=>False
noncomputable def gdS:List DG->List V->St->Hp->(St->Hp->Prop)->Prop
 | [],[],σ,H,Q=>Q σ H
 | g::gs,v::vs,σ,H,Q=>g v σ H fun σ' H'=>gdS gs vs σ' H' Q
 | _,_,_,_,_=>False
noncomputable def gdT (K:ac) (n:Nat) (gs:List DG):DG:=fun v σ H Q=>match v with
 | .ref a=>∃ xs,(SqT K H a xs\/SqL K H a xs)/\xs.length=n/\gdS gs xs σ H Q
 | _=>False
theorem Oi:PG X tg gNo:=fun _ _ _ _ _ _ _ _ _ h=>h.elim
theorem ba1:PGs X [] (gdS []):=by
 intro pins s σ H vs us Q I r h
 cases vs with
 | nil=>exact af2 pins s σ H [] us Q I r ⟨rfl,h⟩
 | cons v vs=>exact (show False from h).elim
theorem ba0 {g:DG} {gs:List DG} {ts:List Expr} (h1:PG X tg g) (h2:PGs X ts (gdS gs)) (hs:(cZ (tg::ts) X.env).map (·.2)=lN tg X.env::(cZ ts X.env).map (·.2)):PGs X (tg::ts) (gdS (g::gs)):=by
 intro pins s σ H vs us Q I r h
 cases vs with
 | nil=>exact (show False from h).elim
 | cons v vs=>exact Yn h1 h2 hs pins s σ H (v::vs) us Q I r ⟨v,vs,rfl,h⟩
theorem bg4 {ts:List Expr} {k n:Nat} {gs:List DG} (hc:X.calm=true) (h:PGs X ts (gdS gs)) (hn:(cZ ts X.env).length=n) (hst:(cZ ts X.env).findIdx? (·.1)=none):PG X (.Tuple ts k pos) (gdT X.K n gs):=by
 intro pins s σ H v u Q I r hw
 cases v with
 | ref a=>
  obtain⟨xs,h1|h1,h2,h3⟩:=hw
  ·exact ay7 hc h hn hst pins s σ H _ u Q I r ⟨a,xs,rfl,h1,h2,h3⟩
  cases r
  obtain⟨its,rv,pl,_⟩:=I.list h1
  rw [assign_Tuple]
  refine ag (fN ?_)
  unfold unpack
  rw [hst,show (cZ ts X.env).length=its.toArray.size by rw [hn,<- h2,rv.length];rfl]
  refine ag (bE (PySem.W.kun_itemsOf (I.ok.hd hc) pl.isList fun h' hx=>?_))
  have I1:Inv X pins σ H { s with heap:=h' }:=I.kept (t':=s.toks) fun b o e=>hx b o (aN (aC e)) e
  exact h pins _ σ H xs _ Q I1 (by simpa using rv) h3
 | _=>exact (show False from hw).elim
end
end L2
set_option maxHeartbeats 1000000
namespace L2
open PySem PySem.Spec PyProof.Rows
noncomputable def Ph (K:ac) (a:Addr) (n:Nat):It:=
 ⟨fun i H=>i<n /\ ∃ xs,SqL K H a xs/\xs.length=n,fun i H x H'=>H'=H /\ ∀ xs,SqL K H a xs->xs[n - 1 - i]? = some x,fun i _=>n<=i⟩
theorem Z8 {P:aS} {w:bB} {K:ac} {tg:Expr} (a it:Addr) (n:Nat):Im P w K tg (Ph K a n) [it] it (fun i h=>i<=n/\h.IsRevIter it a ((n:Int) - 1 - (i:Int))) where
 mem:=by simp
 obj:=fun i h st b hb=>by
  have e:b=it:=by simpa using hb
  subst e
  obtain⟨_,o,e,c,d⟩:=st
  exact⟨o,e,fun v z=>by rw [d] at z;cases z⟩
 keep:=fun i h h' st k=>⟨st.1,by
  obtain⟨_,o,e,c,d⟩:=st
  exact⟨o,k it (by simp) o e,c,d⟩⟩
 item:=by
  intro X hP hw hK hc i pins s σ H E I hf st hg
  subst hP hw hK
  obtain⟨hi,xs,hq,hl⟩:=hg
  obtain⟨its,rv,p,hz⟩:=I.list hq
  have hx:xs[n - 1 - i]? = some (xs[n - 1 - i]'(by omega)):=af _
  obtain⟨u,hu,ru⟩:=rv.get hx
  obtain⟨f0,f1,f2,f3,f4,f5⟩:=hf it (by simp)
  have e0:(n:Int) - 1 - (i:Int)=((n - 1 - i:Nat):Int):=by omega
  have st2:=st.2
  rw [e0] at st2
  refine wpAny_pyNext_rev_item st2 p.isList (x:=u) (by simpa using hu) fun h' st' sb=>?_
  have I1:Inv X pins σ H { s with heap:=h' }:=I.turned (t':=s.toks) (fun b o hb e=>(sb.2 b hb).trans e) f0 f1 f3 f4 f5
  obtain⟨o,e,c,d⟩:=id st'
  refine⟨u,rfl,Ha (s:={ s with heap:=h' }) e c d (by decide) ⟨_,H,I1,ru,⟨rfl,fun ys hy=>by rw [I.list_inj hy hq];exact hx⟩,⟨hi,?_⟩,fun b hb=>(hf b hb).1⟩⟩
  rw [show (n:Int) - 1 - ((i+1:Nat):Int)=((n - 1 - i:Nat):Int) - 1 by omega]
  exact st'
 done:=by
  intro X hP hw hK hc i pins s σ H E I hf st hg
  subst hP hw hK
  obtain⟨f0,f1,f2,f3,f4,f5⟩:=hf it (by simp)
  have hg:n<=i:=hg
  have st2:=st.2
  rw [show (n:Int) - 1 - (i:Int) = -1 by have:=st.1;omega] at st2
  exact wpAny_pyNext_rev_end (I.ok.hd hc) st2 fun h' eb=>⟨rfl,I.turned (t':=s.toks) (fun b o hb e=>eb b o hb e) f0 f1 f3 f4 f5⟩
 self:=fun _ _ _ _ _ st h=>kc st.2 h
noncomputable def ar5 (K:ac) (a:DE):DI:=fun σ H R E=>a σ H (fun x H1=>match x with
 | .ref p=>∃ xs,SqL K H1 p xs/\R (Ph K p xs.length) H1
 | _=>False) E
theorem W6:cO "reversed" = some (.type "reversed"):=by decide +kernel
theorem a08 {X:Cx} {tg a:Expr} {da:DE} {p pos:Pos} (hg:Gl X "reversed") (hm:X.mg "reversed" = none) (ha:QE X a da) (hs:Ay a=true):QI X tg (.Call (.Name "reversed" p) [a] [] pos) (ar5 X.K da):=by
 intro Ex mt pins s σ H R I h
 have hA:QA X [a] (Ac da Af):=Mu ha Qq hs
 refine Call_ (C3 I hg hm W6 (bV (thn (hA Ex mt pos pins s σ H (fun vs H1=>∃ x,vs=[x]/\(match x with | .ref p=>∃ xs,SqL X.K H1 p xs/\R (Ph X.K p xs.length) H1|_=>False)) I ?_) fun us s1 ⟨vs,H1,I1,r1,q1⟩=>?_) (Av hs [] X.env) rfl))
 ·have h2:da σ H (fun x H1=>∃ y,[x]=[y]/\(match y with | .ref p=>∃ xs,SqL X.K H1 p xs/\R (Ph X.K p xs.length) H1|_=>False)) (Ex σ):=by
   have e:(fun (x:V) (H1:Hp)=>∃ y,[x]=[y]/\(match y with | .ref p=>∃ xs,SqL X.K H1 p xs/\R (Ph X.K p xs.length) H1|_=>False))=fun x H1=>(match x with | .ref p=>∃ xs,SqL X.K H1 p xs/\R (Ph X.K p xs.length) H1|_=>False):=by
    funext x H1
    apply propext
    constructor
    ·rintro⟨y,e,h⟩
     cases e
     exact h
    ·exact fun h=>⟨x,rfl,h⟩
   rw [e]
   exact h
  exact h2
 ·obtain⟨x,rfl,q⟩:=q1
  obtain⟨u,rfl,ru⟩:=C8 r1
  cases x with
  | ref l=>
   cases ru
   obtain⟨xs,hq,q⟩:=q
   obtain⟨its,rv,pl,hz⟩:=I1.list hq
   refine call_reversed_list pl.isList ?_
   have e:((its.toArray.size:Nat):Int) - 1=(xs.length:Int) - 1 - ((0:Nat):Int):=by rw [aq,rv.length];omega
   rw [e]
   have st:(s1.heap.push (revObj l ((xs.length:Int) - 1 - ((0:Nat):Int)))).IsRevIter s1.heap.objs.size l ((xs.length:Int) - 1 - ((0:Nat):Int)):=⟨_,az _ rfl,rfl,rfl⟩
   refine kc st ?_
   refine⟨s1.heap.objs.size,[s1.heap.objs.size],_,_,H1,rfl,I1.kept (t':=s1.toks) fun b o e=>ai _ e,Z8 l s1.heap.objs.size xs.length,⟨bj _,st⟩,fun b hb=>?_,q⟩
   have e:b=s1.heap.objs.size:=by simpa using hb
   subst e
   exact I1.fpOk (aj _) (I1.hok.fresh (aj _))
  | _=>exact (show False from q).elim
end L2
set_option maxHeartbeats 4000000
namespace L2
open PySem PySem.Spec PyProof.Rows
noncomputable def Ca (cs:List (Str×Addr)):List (Str×cz)->List (Str×Addr)->List (Str×Addr)
 | [],acc=>acc
 | (n,k)::r,acc=>if k==.free then Ca cs r ((n,(cs.lookup n).getD 0)::acc) else Ca cs r acc
theorem Kg {scope:Scope} {env:Env} (h:∀ y∈scope.names,y.2=.free -> ∃ c,env.cells.lookup y.1=some c):jZ scope env=pure (Ca env.cells scope.names []):=by
 unfold jZ
 generalize scope.names=names at h
 suffices ∀ acc,(forIn names acc fun (x:Str×cz) cs=>do
   if (x.2==.free)=true then do
    let c <- cellOf env x.1
    pure (eo ((x.1,c)::cs))
   else pure (eo cs):Sem (List (Str×Addr)))=pure (Ca env.cells names acc) by
  have:=this []
  simp only [bind_pure]
  exact this
 induction names with
 | nil=>intro acc;rfl
 | cons y r ih=>
  intro acc
  obtain⟨n,k⟩:=y
  rw [List.forIn_cons]
  unfold Ca
  by_cases e:(k==dP)=true
  ·obtain⟨c,hc⟩:=h (n,k) (by simp) (ck e)
   have ec:cellOf env n=pure c:=by
    unfold cellOf
    rw [show env.cells.lookup n=some c from hc]
   simp only [e,if_true,ec,pure_bind]
   rw [ih (fun y hy=>h y (ay _ hy))]
   rw [show env.cells.lookup n=some c from hc]
   rfl
  ·have e':(k==dP)=false:=by simpa using e
   simp only [e',bH,if_false,pure_bind]
   rw [ih (fun y hy=>h y (ay _ hy))]
theorem Gj {cs:List (Str×Addr)}:∀ {names:List (Str×cz)} {acc:List (Str×Addr)} {p:Str×Addr},p∈Ca cs names acc->p∈acc\/((p.1,dP)∈names/\p.2=(cs.lookup p.1).getD 0)
 | [],_,_,h=>.inl h
 | (n,k)::r,acc,p,h=>by
  unfold Ca at h
  by_cases e:(k==dP)=true
  ·rw [if_pos e] at h
   rcases Gj h with h|⟨h1,h2⟩
   ·rcases List.mem_cons.mp h with h|h
    ·subst h
     exact .inr ⟨by rw [ck e];simp,rfl⟩
    ·exact .inl h
   ·exact .inr ⟨ay _ h1,h2⟩
  ·rw [if_neg e] at h
   rcases Gj h with h|⟨h1,h2⟩
   ·exact .inl h
   ·exact .inr ⟨ay _ h1,h2⟩
theorem Gi {cs:List (Str×Addr)}:∀ {names:List (Str×cz)} {acc:List (Str×Addr)} {p:Str×Addr},p∈acc->p∈Ca cs names acc
 | [],_,_,h=>h
 | (n,k)::r,acc,p,h=>by
  unfold Ca
  split
  ·exact Gi (ay _ h)
  ·exact Gi h
theorem Kv {cs:List (Str×Addr)}:∀ {names:List (Str×cz)} {acc:List (Str×Addr)} {n:Str},(n,dP)∈names->n∈(Ca cs names acc).map (·.1)
 | [],_,_,h=>by cases h
 | (m,k)::r,acc,n,h=>by
  unfold Ca
  rcases List.mem_cons.mp h with e|h
  ·cases e
   rw [if_pos (show (dP==dP)=true from rfl)]
   exact List.mem_map.mpr ⟨_,Gi (aQ),rfl⟩
  ·split <;> exact Kv h
noncomputable def Oq (sc:List (Str×cz)) (names:List (Str×cz)):List (Str×cz):=names.map fun (n,k)=>if (k==.free&&sc.lookup n==some .cell) then (n,.cell) else (n,k)
noncomputable def N3 (names:List (Str×cz)):List Str:=(names.filter fun y=>(y.2==.local) && !(y.1==(".0" : Str))).map (·.1)
noncomputable def P1 (names:List (Str×cz)):List Str:=(names.filter fun y=>y.2==.free).map (·.1)
noncomputable def cfV (o:Option cz):Bool:=o==some .cell||o==some .free
noncomputable def Cb (G:Sg) (names:List (Str×cz)):Sg:={ G with N:=N3 names++P1 names,sc:=Oq G.sc names,top:=false }
noncomputable def E3 (G:Sg) (names:List (Str×cz)):List (Option Nat):=(N3 names).map (fun _=>none)++(P1 names).map (fun x=>C6 G.N x 0)
noncomputable def En (G:Sg) (sc:Scope):Bool:=
 (sc.names.all fun y=>!(y.2==.cell))&&(sc.names.all fun y=>!(y.2==.local)||(sc.names.lookup y.1==some .local))&&(sc.kind==.function) &&
 decide (N3 sc.names++P1 sc.names).Nodup&&((P1 sc.names).all fun x=>(C6 G.N x 0).isSome&&cfV (G.sc.lookup x)&&cfV ((Oq G.sc sc.names).lookup x)) &&
 ((N3 sc.names).all fun x=>(Oq G.sc sc.names).lookup x==some .local)
section
variable {X:Cx} {G:Sg} {sc:Scope}
theorem Ft {o:Option cz} (h:cfV o=true):o=some .cell\/o=some .free:=by
 unfold cfV at h
 rw [dF] at h
 exact h.elim (fun e=>.inl (ck e)) fun e=>.inr (ck e)
theorem Fn (O:GOk X G):(ir sc X.env).names=Oq G.sc sc.names:=by
 unfold ir Oq
 apply bL
 rintro⟨n,k⟩ _
 have e:X.env.kindOf n=G.sc.lookup n:=O.sc n
 dsimp only
 rw [e,O.kind]
 simp
theorem L8 (O:GOk X G) (h:En G sc=true):Ik X (Cb G sc.names).N (E3 G sc.names) sc (Ca X.env.cells sc.names []):=by
 unfold En at h
 simp only [aP,bb,iy,decide_eq_true_eq,dF] at h
 obtain⟨⟨⟨⟨⟨h1,h2⟩,h3⟩,h4⟩,h5⟩,h6⟩:=h
 have fr:∀ y∈sc.names,y.2=.free -> ∃ c,X.env.cells.lookup y.1=some c:=fun y hy hf=>by
  refine O.cel y.1 ?_
  rw [O.sc]
  refine Ft (h5 y.1 ?_).1.2
  exact List.mem_map.mpr ⟨y,List.mem_filter.mpr ⟨hy,by rw [hf];rfl⟩,rfl⟩
 have nc:∀ y∈sc.names,y.2≠.cell:=fun y hy e=>by
  have:=h1 y hy
  rw [e] at this
  cases this
 refine⟨Kg fr,nc,ck h3,fun y hy hl=>?_,fun x c hx=>?_,fun x hx=>?_,?_,fun k j x e1 e2=>?_⟩
 ·rcases h2 y hy with z|z
  ·rw [hl] at z;cases z
  ·exact ck z
 ·have hm:=b7 hx
  rcases Gj hm with z|⟨z1,z2⟩
  ·cases z
  ·obtain⟨c',hc'⟩:=fr _ z1 rfl
   have z2':c=(X.env.cells.lookup x).getD 0:=z2
   rw [show X.env.cells.lookup x=some c' from hc'] at z2' ⊢
   rw [z2']
   rfl
 ·have hn:(ir sc X.env).names=Oq G.sc sc.names:=Fn O
  have key:∀ kd,(ir sc X.env).names.lookup x=some kd->cfV (some kd)=true -> ∃ c,(Ca X.env.cells sc.names []).lookup x=some c:=fun kd hkd hc=>by
   rw [hn] at hkd
   have hm:=b7 hkd
   unfold Oq at hm
   obtain⟨⟨n,k⟩,hy,e⟩:=List.mem_map.mp hm
   dsimp only at e
   have hfree:k=.free/\n=x:=by
    have hkc:=nc _ hy
    by_cases e1:(k==dP&&G.sc.lookup n==some .cell)=true
    ·rw [if_pos e1] at e
     rw [aP] at e1
     exact⟨ck e1.1,congrArg lV e⟩
    ·rw [if_neg e1] at e
     cases e
     rcases Ft hc with z|z
     ·exact absurd (av z) hkc
     ·exact⟨av z,rfl⟩
   obtain⟨rfl,rfl⟩:=hfree
   exact X5 (Kv hy)
  rcases hx with hx|hx
  ·exact key _ hx rfl
  ·exact key _ hx rfl
 ·unfold E3 Cb
  simp
 ·have e1':(N3 sc.names++P1 sc.names)[k]? = some x:=e1
  have e2':((N3 sc.names).map (fun _=>(none:Option Nat))++(P1 sc.names).map (fun x=>C6 G.N x 0))[k]? = some (some j):=e2
  by_cases hlt:k<(N3 sc.names).length
  ·rw [bP (by simpa using hlt),ak] at e2'
   cases q:(N3 sc.names)[k]? with
   | none=>rw [q] at e2';cases e2'
   | some z=>rw [q] at e2';cases e2'
  ·rw [bx (by simpa using hlt)] at e1' 
   rw [bx (by simpa using hlt),ae,ak,e1'] at e2'
   have hs:C6 G.N x 0=some j:=av e2'
   have hx:x∈P1 sc.names:=am e1'
   obtain⟨⟨_,c1⟩,c2⟩:=h5 x hx
   refine⟨by rw [O.N];exact Ez hs,?_,?_⟩
   ·rw [O.sc];exact Ft c1
   ·rw [Fn O];exact Ft c2
theorem R4 (O:GOk X G) (h:En G sc=true) (fp:List Addr) (C:Addr) (s:al) (H:Hp) (xe:ah->al->Prop) :
  GOk (X.comp (Cb G sc.names).N sc (Ca X.env.cells sc.names []) fp C s H xe) (Cb G sc.names):=by
 have S:=L8 O h
 unfold En at h
 simp only [aP,bb,iy,decide_eq_true_eq,dF] at h
 obtain⟨⟨⟨⟨⟨h1,h2⟩,h3⟩,h4⟩,h5⟩,h6⟩:=h
 have hn:(ir sc X.env).names=Oq G.sc sc.names:=Fn O
 refine⟨O.K,ck h3,(fun z=>by cases z),rfl,h4,fun x=>?_,fun x hx=>?_,fun z=>(by cases z),O.calm,O.hd,O.units,fun x hx=>S.has x hx,fun x g e=>?_,O.bl,fun z=>(by cases z),O.fr⟩
 ·show (ir sc X.env).names.lookup x=_
  rw [hn]
  rfl
 ·show Vis (ir sc X.env) x
  unfold Vis
  rw [hn]
  rcases List.mem_append.mp hx with q|q
  ·exact .inl (ck (h6 x q))
  ·exact .inr (Ft (h5 x q).2)
 ·refine GBOk.to (X:=X) ?_ ?_ ?_ ?_ ?_ ?_ (O.gb x g e)
  ·rfl
  ·rfl
  ·rfl
  ·rfl
  ·exact fun _ r=>r
  ·exact fun i F=>⟨F.kp,F.ok,F.room,F.binds,F.vals⟩
end
noncomputable def Iq:St->Hp->(Option Int->Hp->Prop)->EK->Prop:=fun _ H Q _=>Q none H
noncomputable def Nr (a:DE):St->Hp->(Option Int->Hp->Prop)->EK->Prop:=fun σ H Q E=>a σ H (fun x H1=>match x with
 | .int i=>Q (some i) H1
 | _=>False) E
noncomputable abbrev DO:=St->Hp->(Option Int->Hp->Prop)->EK->Prop
noncomputable def bh0 (K:ac):V->Option Int->Option Int->Hp->VK->Prop:=fun x lo hi H Q=>match x with
 | .str z=>z.length<=sizeLine/\Q (.str (Txt.slice z lo hi)) H
 | .ref a=>(∃ xs,SqL K H a xs /\ ∀ p,H p=none->Q (.ref p) (upd H p (.lst (No xs lo hi)))) \/
   (∃ xs,SqT K H a xs/\((HT.sIx xs.length 0 lo=0/\HT.sIx xs.length xs.length hi=xs.length)->Q (.ref a) H)/\(¬ (HT.sIx xs.length 0 lo=0/\HT.sIx xs.length xs.length hi=xs.length) -> ∀ p,H p=none->Q (.ref p) (upd H p (.tup (No xs lo hi)))))
 | _=>False
noncomputable def dSl (K:ac) (a:DE) (l h:DO):DE:=fun σ H Q E=>a σ H (fun x H1=>l σ H1 (fun lo H2=>h σ H2 (fun hi H3=>bh0 K x lo hi H3 Q) E) E) E
noncomputable def QO (X:Cx) (e:Option Expr) (t:DO):Prop:=∀ Ex,Meets X Ex->PO X e (fun σ H Q=>t σ H Q (Ex σ))
theorem F0 {prog:aS} {w:bB} {A:a_} {E:ah->al->Prop} {s:al} {t sl:Addr} {items:Array ah} {vl vu:ah} {lo hi:Option Int} {Q:ah->al->Prop} (ht:kC s.heap t items) (hs:s.heap.IsSliceOf sl vl vu .none) (pl:kM vl lo) (pu:kM vu hi)
  (hw:HT.sIx items.size 0 lo=0/\HT.sIx items.size items.size hi=items.size) (h:Q (.ref t) s):aJ (model prog w) A (kH (.ref t) (.ref sl)) Q E s:=by
 obtain⟨os,hos,hcs,hds⟩:=id hs
 have hTs:s.TypeIs (.ref sl) "slice" := ⟨os,hos,hcs⟩
 unfold kH
 try with_reducible refine bE ?_
 first|refine ag (ar ?_)|skip
 refine ag (wpAny_sequenceKey ht.typeIs (by decide) ?_)
 refine ag (cw (name:=cN "__getitem__") ht.typeIs bW
  (cq bW ht.typeIs PyProof.Rows.entry_tuple_getitem ?_ (PyProof.Rows.args_tuple_getitem _ _)))
 show aJ _ _ (e9 (.ref t) >>= _) _ _ s
 refine ag (tupleItemsOf_ ht ?_)
 refine ag (lT hTs ?_)
 rw [if_pos (by decide)]
 refine ag (HT.sliceApplied_gen hs pl pu ?_)
 have hy:(((HT.sIx items.size 0 lo:Nat):Int)==0&&(1:Int)==1&&(HT.sIx items.size items.size hi - HT.sIx items.size 0 lo)==items.size)=true:=by
  rw [hw.1,hw.2]
  simp
 show aJ _ _ (if (((HT.sIx items.size 0 lo:Nat):Int)==0&&(1:Int)==1&&(HT.sIx items.size items.size hi - HT.sIx items.size 0 lo)==items.size)=true then _ else _) _ _ s
 rw [if_pos hy]
 refine ag (m:=Builtin.Tuple.tupleIsExact _) (ag (lT ht.typeIs (ar ?_)))
 rw [if_pos (by decide)]
 exact ag (lC (ar ⟨_,rfl,ar h⟩))
noncomputable def bg9 (K:ac):V->Option Int->Option Int->Hp->VK->Prop:=fun x lo hi H Q=>∃ a xs,x=.ref a/\SqT K H a xs/\(HT.sIx xs.length 0 lo=0/\HT.sIx xs.length xs.length hi=xs.length)/\Q (.ref a) H
theorem a27 {X:Cx}:SlR X (bg9 X.K):=by
 intro pins s σ H x v vl vu lo hi sl Q I rx hs pl pu h
 obtain⟨a,xs,rfl,hx,hw,q⟩:=h
 cases rx
 obtain⟨its,r,ht,hz⟩:=I.tuple hx
 have hlen:its.toArray.size=xs.length:=by rw [aq];exact r.length.symm
 exact⟨"tuple", _,PyProof.Rows.slot_tuple_getitem.lookup,ht.typeIs,F0 ht hs pl pu (by rw [hlen];exact hw) ⟨.ref a,H,I,rfl,q⟩⟩
section
variable {X:Cx} {G:Sg} {e:Expr} {de:DE} {lo hi:Option Expr} {dl dh:DO} {pos p2:Pos}
theorem Tb:QO X none Iq:=fun _ _=>af3
theorem Tc (h:QE X e de):QO X (some e) (Nr de):=by
 intro Ex m pins s σ H Q I hw
 rw [evalPart_some]
 refine thn (h Ex m pins s σ H _ I hw) fun u s1 ⟨x,H1,I1,r1,q1⟩=>?_
 cases x with
 | int i=>obtain⟨t,rfl⟩:=r1;exact⟨some i,H1,I1,.int i t,q1⟩
 | _=>exact (show False from q1).elim
theorem Mp (e:Expr) (z:Str) (t:Tok) (r:ah):letTemporaryGo e (.str z t) r=pure ():=by
 cases e <;> rfl
theorem Y4 (he:QE X e de) (hl:QO X lo dl) (hh:QO X hi dh):QE X (.Subscript e (.Slice lo hi none p2) pos) (dSl X.K de dl dh):=by
 intro Ex m pins s σ H Q I h
 refine Subscript_ (thn (he Ex m pins s σ H _ I h) fun v s1 ⟨x,H1,I1,r1,q1⟩=>?_)
 refine wpAny_Slice (thn (hl Ex m pins s1 σ H1 _ I1 q1) fun vl s2 ⟨l,H2,I2,pl,q2⟩=>thn (hh Ex m pins s2 σ H2 _ I2 q2) fun vu s3 ⟨u,H3,I3,pu,q3⟩=>?_)
 rw [evalPart_none]
 refine ar ?_
 show aJ (model X.prog X.w) X.A (lh e (.Slice lo hi none p2) v (.ref s3.heap.objs.size)) (EP X pins σ Q) X.xe { s3 with heap:=s3.heap.push { cls:=.type "slice", data:=.fields #[vl,vu,.none] } }
 have I4:Inv X pins σ H3 { s3 with heap:=s3.heap.push { cls:=.type "slice", data:=.fields #[vl,vu,.none] } }:=I3.kept (t':=s3.toks) fun b ob q=>ai _ q
 have gen:∀ r,SlR X r->r x l u H3 Q->aJ (model X.prog X.w) X.A (lh e (.Slice lo hi none p2) v (.ref s3.heap.objs.size)) (EP X pins σ Q) X.xe { s3 with heap:=s3.heap.push { cls:=.type "slice", data:=.fields #[vl,vu,.none] } }:=fun r hr q=>by
  obtain⟨T,id,hT,ht,hg⟩:=hr pins _ σ H3 x v vl vu l u s3.heap.objs.size Q I4 r1 (Heap.IsSliceOf.new ..) pl pu q
  exact tail_any (ops:=[.ref s3.heap.objs.size,v]) ht hT hg (by with_unfolding_all rfl)
 cases x with
 | str z=>
  obtain⟨hz,q⟩:=q3
  obtain⟨t,rfl⟩:=r1
  have hk:KeptH (fun h=>Inv X pins σ H3 { s3 with heap:=h }):=fun h ob J=>J.kept (t':=s3.toks) fun b o eb=>ai _ eb
  have fin:∀ h' t' k,Inv X pins σ H3 { s3 with heap:=h' }->(fun (a:ah) (s':al)=>s3.toks<=s'.toks->EP X pins σ Q a s') (.str (Txt.slice z l u) t') { s3 with heap:=h',toks:=k }:=fun h' t' k J htk=>⟨.str _,H3,J.tok k htk,⟨_,rfl⟩,q⟩
  refine bu (n:=s3.toks) (aj _) ?_
  cases pl with
  | none=>
   cases pu with
   | none=>exact iu (SBH.sliceItem_nn hk I3 fin hz) (by with_unfolding_all rfl) (Mp e z t)
   | int j uj=>exact iu (SBH.sliceItem_ns hk I3 fin hz) (by with_unfolding_all rfl) (Mp e z t)
  | int i ui=>
   cases pu with
   | none=>exact iu (SBH.sliceItem_sn hk I3 fin hz) (by with_unfolding_all rfl) (Mp e z t)
   | int j uj=>exact iu (SBH.sliceItem_ss hk I3 fin hz) (by with_unfolding_all rfl) (Mp e z t)
 | ref a=>
  rcases q3 with ⟨xs,h1,h2⟩|⟨xs,h1,h2,h3⟩
  ·exact gen _ ai4 ⟨a,xs,rfl,h1,h2⟩
  ·by_cases hw:HT.sIx xs.length 0 l=0/\HT.sIx xs.length xs.length u=xs.length
   ·exact gen _ a27 ⟨a,xs,rfl,h1,hw,h2 hw⟩
   ·exact gen _ a28 ⟨a,xs,rfl,h1,hw,h3 hw⟩
 | _=>exact (show False from q3).elim
noncomputable def Jr:Expr->Bool
 | .Set _ _ _=>false
 | _=>true
theorem Js {e:Expr} (h:Jr e=true) (env:Env) (x:ah):eZ e env x=pure x:=by
 cases e with
 | Set _ _ _=>cases h
 | _=>rfl
theorem Jp:Meets X (fun _ _ _=>False):=fun _ _ _ h=>h
variable {tg iter elt:Expr} {ifs:List Expr} {sc:Scope} {wi:DI} {g:DG} {tc:DT}
noncomputable def Ql (G:Sg) (x:Str):Bool:=(G.sc.lookup x==some .local)||(G.top&&(G.sc.lookup x==some .cell))
noncomputable def wG:Nat->Sg->Expr->DG
 | 0,_,_=>gNo
 | n+1,G,e=>match e with
  | .Name x _=>match C6 G.N x 0 with
   | some i=>if Ql G x=true then gdN i else gNo
   | none=>gNo
  | .Tuple ts _ _=>if G.calm=true/\ts.all Ay=true then gdT G.K ts.length (ts.map (wG n G)) else gNo
  | _=>gNo
theorem Mr (O:GOk X G) {x:Str} (h:Ql G x=true):Loc X.env.scope x/\(X.fn x=true\/X.env.scope.names.lookup x=some .local):=by
 unfold Ql at h
 rw [dF,aP] at h
 rcases h with h|⟨h1,h2⟩
 ·have:X.env.scope.names.lookup x=some .local:=by rw [O.sc];exact ck h
  exact⟨.inl this,.inr this⟩
 ·have:X.env.scope.names.lookup x=some .cell:=by rw [O.sc];exact ck h2
  exact⟨.inr this,.inl (O.top h1 x)⟩
theorem Eh {e:Expr} (h:Ay e=true) (es:List Expr) (env:Env):cZ (e::es) env=(false,lN e env)::cZ es env:=by
 cases e with
 | Starred _ _=>cases h
 | _=>rfl
theorem Io {es:List Expr} (h:es.all Ay=true) (env:Env):(cZ es env).length=es.length/\(cZ es env).findIdx? (·.1)=none:=by
 induction es with
 | nil=>exact⟨rfl,rfl⟩
 | cons e es ih=>
  rw [bS,aP] at h
  obtain⟨h1,h2⟩:=ih h.2
  rw [Eh h.1]
  refine⟨by rw [aK,aK,h1],?_⟩
  rw [List.findIdx?_cons,h2]
  rfl
theorem Pf:∀ (n:Nat) (X:Cx) (G:Sg),GOk X G -> ∀ e,PG X e (wG n G e)
 | 0,_,_,_,_=>Oi
 | n+1,X,G,O,e=>by
  cases e with
  | Name x p=>
   unfold wG
   dsimp only
   split
   ·rename_i i e
    split
    ·rename_i h
     obtain⟨h1,h2⟩:=Mr O h
     exact af1 (by rw [O.N];exact O.nd) (by rw [O.N];exact Ez e) h1 h2
    ·exact Oi
   ·exact Oi
  | Tuple ts k p=>
   unfold wG
   dsimp only
   split
   ·rename_i h
    obtain⟨h1,h2⟩:=h
    obtain⟨h3,h4⟩:=Io h2 X.env
    rw [<- O.K]
    refine bg4 (O.calm▸h1) ?_ h3 h4
    clear h3 h4
    induction ts with
    | nil=>exact ba1
    | cons t ts ih=>
     rw [bS,aP] at h2
     refine ba0 (Pf n X G O t) (ih h2.2) ?_
     rw [Eh h2.1]
     rfl
   ·exact Oi
  | _=>exact Oi
end
section
variable {X:Cx} {G:Sg} {elt tg iter:Expr} {ifs:List Expr} {sc:Scope} {wi:DI} {g:DG} {tc:DT} {de:DE} {pos:Pos}
theorem Jo {Ex:St->EK} (m:Meets X Ex) (fr:FrH X) {pins:List (Addr×Obj)} {σ:St} {H2:Hp} {s2:al} {N':List Str} {cl:List (Str×Addr)} {fp:List Addr} {C D:Addr} {us:Option (ah->Sem Unit)} {Q2:ah->al->Prop} (I2:Inv X pins σ H2 s2) (f2:∀ b∈fp,C9 X pins H2 b)
  (hC:s2.heap.objs.size<=C):Meets (X.comp N' sc cl fp C s2 H2 (Bl X sc cl us Q2 D C)) (fun _ a H'=>Ex σ a H'):=fun _ a H h=>m σ a H h
noncomputable def ab3 (X:Cx) (ifs:List Expr) (t:DT):Prop:=∀ Ex,Meets X Ex->Tz X ifs (fun σ H Q=>t σ H Q (Ex σ))
theorem Ol:ab3 X [] B3:=fun _ _=>Yq
theorem Om {c:Expr} {t:DT} (h:QT X c t):ab3 X [c] t:=fun Ex m=>Yr (h Ex m)
theorem Sy (O:GOk X G) (hc:X.calm=true) (hk:En G sc=true) (hs:Jr iter=true) (hi:QI X tg iter wi) (hg:∀ X',GOk X' (Cb G sc.names)->PG X' tg g) (ht:∀ X',GOk X' (Cb G sc.names)->ab3 X' ifs tc) (he:∀ X',GOk X' (Cb G sc.names)->QE X' elt de) :
  QE X (.ListComp elt [⟨tg,iter,ifs,0⟩] sc pos) (Bc (E3 G sc.names) wi g tc de):=by
 intro Ex m pins s σ H Q I h
 exact Xf hc (L8 O hk) (hi Ex m) (fun Q2 fp C D s2 H2 I2 f2 hC=>
  have M:=Jo (N':=(Cb G sc.names).N) (cl:=Ca X.env.cells sc.names []) (us:=none) (Q2:=Q2) (D:=D) m O.fr I2 f2 hC
  have K:=R4 O hk fp C s2 H2 (Bl X sc (Ca X.env.cells sc.names []) none Q2 D C)
  ⟨hg _ K,ht _ K _ M,he _ K _ M⟩) I h (fun x=>Js hs X.env x)
end
noncomputable def R1 (K:ac) (op:BoolOp):List DE->DE
 | []=>dNo
 | [a]=>a
 | a::r=>match op with
  | .And=>Nq K a (R1 K op r)
  | .Or=>a50 K a (R1 K op r)
noncomputable def R0 (op:BoolOp):List DT->DT
 | []=>fun _ _ _ _=>False
 | [a]=>a
 | a::r=>match op with
  | .And=>Np a (R0 op r)
  | .Or=>dOr a (R0 op r)
noncomputable def Eg:List DE->DA
 | []=>Af
 | a::r=>Ac a (Eg r)
noncomputable def tNo:DT:=fun _ _ _ _=>False
noncomputable def V3 (G:Sg) (ops:List mw) (bs:List Expr) (a:DE) (ds:List DE):DE:=match ops,bs,ds with
 | [op],[b],[d]=>if i6 op b=false then Ah (Kl G.K op) a d else dNo
 | [op,op'],[b,c],[d,d']=>if lastMarks [op,op'] [b,c]=false then Dz (Kl G.K op) (Kl G.K op') a d d' else dNo
 | _,_,_=>dNo
noncomputable def aa4 (G:Sg) (x:Str) (es:List Expr) (ds:List DE):DE:=
 if Kj G x=true/\(C6 G.N x 0)=none/\es.all Ay=true then (match G.gb.lookup x with
  | some (.fn i)=>if es.length<=i.ps.length/\i.ps.length<=es.length+i.dfs.length then dFn (spE i.sp (i.dfs.drop (es.length+i.dfs.length - i.ps.length))) (Eg ds) else dNo
  | some (.cls C oi)=>(match oi with
   | none=>if es.isEmpty=true then dFn (mkC C none 0) (Eg ds) else dNo
   | some i=>if es.length+1<=i.ps.length/\i.ps.length<=es.length+1+i.dfs.length then dFn (mkC C (some i) (es.length+1+i.dfs.length - i.ps.length)) (Eg ds) else dNo)
  | some _=>dNo
  | none=>if G.bl.contains x=true then (match aq4 G.K G.calm x with
   | some (_,r)=>if es.isEmpty=true then dNo else dFn (fun vs H Q _=>r vs H Q) (Eg ds)
   | none=>dNo) else dNo) else dNo
noncomputable def aa6 (G:Sg) (o:Expr) (m:Str) (es:List Expr) (ap cp:Pos) (d:DE) (ds:List DE):DE:=
 if De o=true/\es.all Ay=true/\es.length<30/\(ap.endLine==cp.line)=true then (match Cu G.gb m with
  | none=>dMt (rMt G.K (mtR G.K m)) d (Eg ds)
  | some l=>Dk m es.length l d (Eg ds)) else dNo
noncomputable def R5 (d:DE):DE:=fun σ H Q E=>d σ H (fun v H'=>Thaw H H' (Q v)) E
theorem Ta {X:Cx} {e:Expr} {d:DE} (h:QE X e d):QE X e (R5 d):=fun Ex mt pins s σ H Q I q=>
 thn (h Ex mt pins s σ H _ I q) fun v s1 ⟨x,H1,I1,r1,q1⟩=>
  let ⟨H2,I2,q2⟩:=Thaw.inv I I1 q1
  ⟨x,H2,I2,r1,q2⟩
inductive Fz where
 | lenSet (a:Expr)|rngList (a:Expr)
noncomputable def fzD (K:ac) (w:Expr->DE):Fz->DE
 | .lenSet a=>dUn (Ii K) (w a)
 | .rngList a=>dUn Jz (w a)
noncomputable def Uq (G:Sg) (x:Str):Bool:=Kj G x&&(G.gb.lookup x).isNone&&G.bl.contains x
noncomputable def P2 (G:Sg) (x:Str) (es:List Expr):Option Fz:=match es with
 | [.Call (.Name y _) [a] [] _]=>if x = "len" /\ y = "set" /\ Uq G x=true/\Uq G y=true/\Ay a=true/\G.calm=true then some (.lenSet a)
  else if x = "list" /\ y = "range" /\ Uq G x=true/\Uq G y=true/\Ay a=true/\G.calm=true then some (.rngList a) else none
 | _=>none
mutual
noncomputable def wE:Nat->Sg->Expr->DE
 | 0,_,_=>dNo
 | n+1,G,e=>match e with
  | .Constant c _ _=>aa5 c
  | .Name x _=>aa7 G x
  | .BinOp a op (.ListComp x1 x2 x3 x4) _=>R5 (Ah (rOp G.K op) (wE n G a) (wE n G (.ListComp x1 x2 x3 x4)))
  | .BinOp a op b _=>Ah (rOp G.K op) (wE n G a) (wE n G b)
  | .UnaryOp .USub a _=>dUn Tf (wE n G a)
  | .UnaryOp .Not a _=>aj8 G.K (wE n G a)
  | .UnaryOp .Invert a _=>dUn Te (wE n G a)
  | .BoolOp op es _=>R1 G.K op (es.map (wE n G))
  | .Compare a ops bs _=>V3 G ops bs (wE n G a) (bs.map (wE n G))
  | .IfExp t a b _=>a49 (wT n G t) (wE n G a) (wE n G b)
  | .List es _=>if es.all Ay=true then B9 (Eg (es.map (wE n G))) else dNo
  | .Tuple es _ _=>if es.all Ay=true then Fg (Eg (es.map (wE n G))) else dNo
  | .Subscript a (.Slice lo hi none _) _=>dSl G.K (wE n G a) (match lo with|none=>Iq|some l=>Nr (wE n G l)) (match hi with|none=>Iq|some h=>Nr (wE n G h))
  | .Subscript a b _=>if D9 b=true then Ah (A5 G.K) (wE n G a) (wE n G b) else dNo
  | .Attribute o f _=>if De o=true then dUn (B6 G.K f) (wE n G o) else dNo
  | .Call (.Name x _) es [] _=>match P2 G x es with
   | some z=>fzD G.K (wE n G) z
   | none=>aa4 G x es (es.map (wE n G))
  | .Dict ks vs _=>if ks.isEmpty=true/\vs.isEmpty=true then Db else dNo
  | .Call (.Attribute o m ap) es [] cp=>aa6 G o m es ap cp (wE n G o) (es.map (wE n G))
  | .ListComp elt [⟨tg,iter,ifs,0⟩] sc _=>if G.calm=true/\En G sc=true/\Jr iter=true then
    Bc (E3 G sc.names) (wI n G tg iter) (wG n (Cb G sc.names) tg) (match ifs with | []=>B3 | [c]=>wT n (Cb G sc.names) c|_=>tNo) (wE n (Cb G sc.names) elt) else dNo
  | _=>dNo
noncomputable def wT:Nat->Sg->Expr->DT
 | 0,_,_=>tNo
 | n+1,G,e=>match e with
  | .UnaryOp .Not a _=>Dj (wT n G a)
  | .BoolOp op es _=>R0 op (es.map (wT n G))
  | .Compare a ops bs _=>Bp (V3 G ops bs (wE n G a) (bs.map (wE n G)))
  | .IfExp _ _ _ _=>tNo
  | e=>Da G.K (wE n G e)
noncomputable def wI:Nat->Sg->Expr->Expr->DI
 | 0,_,_,_=>iNo
 | n+1,G,tg,e=>match e with
  | .Call (.Name x _) (a::es) [] _=>
   if x = "range" /\ Kj G x=true/\G.gb.lookup x=none/\G.bl.contains x=true/\(a::es).all Ay=true then F2 (Eg ((a::es).map (wE n G)))
   else if x = "enumerate" /\ Kj G x=true/\G.gb.lookup x=none/\G.bl.contains x=true/\(a::es).all Ay=true then (match tg with
    | .Tuple _ _ _=>iEn G.K (Eg ((a::es).map (wE n G)))
    | _=>iNo)
   else if x = "reversed" /\ Kj G x=true/\G.gb.lookup x=none/\G.bl.contains x=true/\Ay a=true/\es.isEmpty=true then ar5 G.K (wE n G a)
   else Bt G.K (wE n G e)
  | .ListComp a b c d=>Bt G.K (R5 (wE n G (.ListComp a b c d)))
  | e=>Bt G.K (wE n G e)
end
theorem ak7 {X:Cx} {e:Expr}:QT X e tNo:=fun _ _ _ _ _ _ _ _ h=>h.elim
theorem Ck {X:Cx} {w:Expr->DE} (h:∀ e,QE X e (w e)):∀ {es:List Expr},es.all Ay=true->QA X es (Eg (es.map w))
 | [],_=>Qq
 | e::es,hs=>by
  rw [bS,aP] at hs
  exact Mu (h e) (Ck h hs.2) hs.1
theorem Mv {X:Cx} {w:Expr->DE} {op:BoolOp} {pos:Pos} (h:∀ e,QE X e (w e)):∀ {es:List Expr},QE X (.BoolOp op es pos) (R1 X.K op (es.map w))
 | []=>Bm
 | [e]=>a04 (h e)
 | e::e'::es=>by
  cases op with
  | And=>exact az5 (h e) (Mv h)
  | Or=>exact ba7 (h e) (Mv h)
theorem Mw {X:Cx} {w:Expr->DT} {op:BoolOp} {pos:Pos} (h:∀ e,QT X e (w e)):∀ {es:List Expr},QW X (.BoolOp op es pos) (R0 op (es.map w))
 | []=>fun _ _ _ _ _ _ _ _ _ h=>h.elim
 | [e]=>by
  cases op with
  | And=>exact ah5 (h e)
  | Or=>exact a19 (h e)
 | e::e'::es=>by
  cases op with
  | And=>exact a18 (h e) (Mw h)
  | Or=>exact ba9 (h e) (Mw h)
section
variable {X:Cx} {G:Sg}
theorem ag2 (O:GOk X G) {w:Expr->DE} (h:∀ e,QE X e (w e)) (a:Expr) (ops:List mw) (bs:List Expr) (pos:Pos):QE X (.Compare a ops bs pos) (V3 G ops bs (w a) (bs.map w)):=by
 unfold V3
 rw [<- O.K]
 split
 ·rename_i op b d e
  have:d=w b:=by simpa using e.symm
  subst this
  split
  ·exact az7 O.units op (h a) (h b) ‹_›
  ·exact Bm
 ·rename_i op op' b c d d' e
  have:w b=d/\w c=d':=by simpa using e
  obtain⟨rfl,rfl⟩:=this
  split
  ·exact Y1 O.units op op' (h a) (h b) (h c) ‹_›
  ·exact Bm
 ·exact Bm
theorem ah4 (O:GOk X G) {w:Expr->DE} (h:∀ e,QE X e (w e)) (a:Expr) (ops:List mw) (bs:List Expr) (pos:Pos):QT X (.Compare a ops bs pos) (Bp (V3 G ops bs (w a) (bs.map w))):=by
 unfold V3
 rw [<- O.K]
 split
 ·rename_i op b d e
  have:d=w b:=by simpa using e.symm
  subst this
  split
  ·exact a15 O.units op (h a) (h b) ‹_›
  ·exact fun _ _ _ _ _ _ _ _ h=>h.elim
 ·rename_i op op' b c d d' e
  have:w b=d/\w c=d':=by simpa using e
  obtain⟨rfl,rfl⟩:=this
  split
  ·exact Y9 O.units op op' (h a) (h b) (h c) ‹_›
  ·exact fun _ _ _ _ _ _ _ _ h=>h.elim
 ·exact fun _ _ _ _ _ _ _ _ h=>h.elim
theorem Y0 (O:GOk X G) {w:Expr->DE} (h:∀ e,QE X e (w e)) (x:Str) (es:List Expr) (p pos:Pos):QE X (.Call (.Name x p) es [] pos) (aa4 G x es (es.map w)):=by
 unfold aa4
 split
 ·rename_i hh
  obtain⟨hg,_,hs⟩:=hh
  have dd:=Xw hg
  split
  ·rename_i i e
   obtain⟨hm,F⟩:=O.at_ x _ e
   split
   ·rename_i hl
    cases es with
    | nil=>exact Yz F (by have:=hl.1;omega) (O.gl hg) hm dd.1
    | cons e es=>exact ag1 F (by have:=hl.1;omega) (O.gl hg) hm (Ck h hs) hs dd.1
   ·exact Bm
  ·rename_i C oi e
   obtain⟨hm,kp,hi⟩:=O.at_ x _ e
   split
   ·cases es with
    | nil=>exact Sz (j:=0) hi (fun i z=>nomatch z) kp (O.gl hg) hm dd.1
    | cons e es=>exact Bm
   ·rename_i i
    split
    ·rename_i hl
     cases es with
     | nil=>exact Sz hi (fun i z=>by cases z;have:=hl.1;omega) kp (O.gl hg) hm dd.1
     | cons e es=>exact a00 hi (fun i z=>by cases z;have:=hl.1;omega) kp (O.gl hg) hm (Ck h hs) hs dd.1
    ·exact Bm
  ·exact Bm
  ·rename_i e
   split
   ·rename_i hb
    split
    ·rename_i f r er
     split
     ·exact Bm
     ·rename_i hne
      cases es with
      | nil=>exact absurd rfl hne
      | cons e es=>
       rw [<- O.K] at er
       obtain⟨b1,b2⟩:=ab9 O.units er O.calm
       exact az6 b2 (O.gl hg) (O.bl x hb) b1 (Ck h hs) hs dd.2.2 dd.1
    ·exact Bm
   ·exact Bm
 ·exact Bm
theorem Y3 (O:GOk X G) {w:Expr->DE} (h:∀ e,QE X e (w e)) (o:Expr) (m:Str) (es:List Expr) (ap cp:Pos):QE X (.Call (.Attribute o m ap) es [] cp) (aa6 G o m es ap cp (w o) (es.map w)):=by
 unfold aa6
 rw [<- O.K]
 split
 ·rename_i hh
  obtain⟨h1,h2,h3,h4⟩:=hh
  split
  ·cases es with
   | nil=>exact a01 (fun b hb=>X7 O.units hb) (h o) h1 h4
   | cons e es=>exact ba6 (fun b hb=>X7 O.units hb) (h o) (Ck h h2) h1 h2 h3 h4
  ·rename_i l e
   cases es with
   | nil=>exact ag6 (O.met m l e) (h o) h1 h4
   | cons e es=>exact a05 (O.met m l ‹_›) (h o) (Ck h h2) h1 h2 h3 h4
 ·exact Bm
end
theorem Dd {X:Cx} {G:Sg} (O:GOk X G) {x:Str} (h:Uq G x=true):Gl X x/\X.mg x=none:=by
 unfold Uq at h
 rw [aP,aP] at h
 exact⟨O.gl h.1.1,O.bl _ h.2⟩
theorem ag4 {X:Cx} {G:Sg} (O:GOk X G) {w:Expr->DE} (h:∀ e,QE X e (w e)) {x:Str} {es:List Expr} {p pos:Pos} {z:Fz} (e:P2 G x es=some z) :
  QE X (.Call (.Name x p) es [] pos) (fzD G.K w z):=by
 unfold P2 at e
 split at e
 ·split at e
  ·rename_i hh
   obtain⟨rfl,rfl,h1,h2,h3,h4⟩:=hh
   cases e
   rw [<- O.K]
   exact Vh (O.calm▸h4) (Dd O h1).1 (Dd O h1).2 (Dd O h2).1 (Dd O h2).2 (h _) h3
  ·split at e
   ·rename_i hh
    obtain⟨rfl,rfl,h1,h2,h3,h4⟩:=hh
    cases e
    exact Qr (O.calm▸h4) (Dd O h1).1 (Dd O h1).2 (Dd O h2).1 (Dd O h2).2 (h _) h3
   ·cases e
 ·cases e
theorem aa8:∀ (n:Nat) (X:Cx) (G:Sg),GOk X G->(∀ e,QE X e (wE n G e))/\(∀ e,QT X e (wT n G e))/\(∀ tg e,QI X tg e (wI n G tg e)):=by
 intro n
 induction n with
 | zero=>
  intro X G O
  refine⟨fun e=>?_,fun e=>?_,fun tg e=>?_⟩
  ·unfold wE;exact Bm
  ·unfold wT;exact ak7
  ·unfold wI;exact ak6
 | succ n ih=>
  intro X G O
  obtain⟨hE,hT,hI⟩:=ih X G O
  have hv:∀ tg e,QI X tg e (Bt G.K (wE n G e)):=fun tg e=>by rw [<- O.K];exact Y6 (hE e)
  refine⟨fun e=>?_,fun e=>?_,fun tg e=>?_⟩
  ·unfold wE
   split
   ·exact Y2 _ _ _
   ·exact ag5 O _ _
   ·rw [<- O.K];exact Ta (Yy _ (hE _) (hE _))
   ·rw [<- O.K];exact Yy _ (hE _) (hE _)
   ·exact a02 (hE _)
   ·rw [<- O.K];exact a03 (hE _)
   ·exact az8 (hE _)
   ·rw [<- O.K];exact Mv hE
   ·exact ag2 O hE _ _ _ _
   ·exact ba4 (hT _) (hE _) (hE _)
   ·split
    ·exact az9 (Ck hE ‹_›)
    ·exact Bm
   ·split
    ·exact a06 (Ck hE ‹_›)
    ·exact Bm
   ·rw [<- O.K]
    refine Y4 (hE _) ?_ ?_
    ·split
     ·exact Tb
     ·exact Tc (hE _)
    ·split
     ·exact Tb
     ·exact Tc (hE _)
   ·split
    ·rename_i hs
     rw [<- O.K];exact ba5 O.units (hE _) (hE _) hs
    ·exact Bm
   ·split
    ·rw [<- O.K];exact ag0 (hE _) (Ea ‹_› _ X.env _)
    ·exact Bm
   ·split
    ·exact ag4 O hE ‹_›
    ·exact Y0 O hE _ _ _ _
   ·rename_i ks vs p0
    split
    ·rename_i hh
     have e1:ks=[]:=by simpa using hh.1
     have e2:vs=[]:=by simpa using hh.2
     subst e1 e2
     exact ag3
    ·exact Bm
   ·exact Y3 O hE _ _ _ _ _
   ·split
    ·rename_i hh
     obtain⟨h1,h2,h3⟩:=hh
     refine Sy O (O.calm▸h1) h2 h3 (hI _ _) (fun X' O'=>Pf n X' _ O' _) (fun X' O'=>?_) (fun X' O'=>(ih X' _ O').1 _)
     split
     ·exact Ol
     ·exact Om ((ih X' _ O').2.1 _)
     ·exact fun _ _ _ _ _ _ _ _ h=>h.elim
    ·exact Bm
   ·exact Bm
  ·unfold wT
   split
   ·exact a16 (hT _)
   ·exact fun Ex m=>PW.pt (Mw hT Ex m)
   ·exact ah4 O hE _ _ _ _
   ·exact ak7
   ·rename_i h1 h2 h3 h4
    rw [<- O.K]
    refine a17 (hE _) ?_
    cases e with
    | UnaryOp op a p=>cases op <;> first|rfl|exact absurd rfl (h1 _ _)
    | BoolOp op es p=>exact absurd rfl (h2 _ _ _)
    | Compare a b c p=>exact absurd rfl (h3 _ _ _ _)
    | IfExp a b c p=>exact absurd rfl (h4 _ _ _ _)
    | _=>rfl
  ·unfold wI
   split
   ·split
    ·rename_i hh
     obtain⟨rfl,h1,_,h2,h3⟩:=hh
     exact Y5 (O.gl h1) (O.bl _ h2) (Ck hE h3) h3
    ·split
     ·rename_i hh
      obtain⟨rfl,h1,_,h2,h3⟩:=hh
      split
      ·rw [<- O.K];exact ag8 (O.gl h1) (O.bl _ h2) (Ck hE h3) h3
      ·exact ak6
     ·split
      ·rename_i hh
       obtain⟨rfl,h1,_,h2,h3,h4⟩:=hh
       rw [List.isEmpty_iff.mp h4,<- O.K]
       exact a08 (O.gl h1) (O.bl _ h2) (hE _) h3
      ·exact hv _ _
   ·rw [<- O.K];exact Y6 (Ta (hE _))
   ·exact hv _ _
noncomputable def Cx.tr (X:Cx) (pn:List (Addr×Obj)) (xe:ah->al->Prop):Cx:={ X with pn:=pn,xe:=xe }
section
variable {X:Cx} {pins pins':List (Addr×Obj)} {σ:St} {H:Hp} {s:al} {a C:Addr} {dx:Option Addr} {xe:ah->al->Prop}
theorem a64 {pn:List (Addr×Obj)} (o:X.Ok):(X.tr pn xe).Ok:=⟨o.mod,o.kind,o.glob,o.blt,o.above,o.inj,o.has,o.cab,o.hd,o.frames,o.stk,o.exf,o.bs,o.bsz,o.noex,o.exfs,o.funs,o.frf,o.tk⟩
theorem ae3 {pn:List (Addr×Obj)} (o:(X.tr pn xe).Ok):X.Ok:=⟨o.mod,o.kind,o.glob,o.blt,o.above,o.inj,o.has,o.cab,o.hd,o.frames,o.stk,o.exf,o.bs,o.bsz,o.noex,o.exfs,o.funs,o.frf,o.tk⟩
theorem as3 (I:Inv X pins σ H s):Inv (X.tr X.pn xe) pins σ H s:=⟨a64 I.ok,I.os,I.bare,I.base,I.loc,I.cell,I.free,I.freeC,I.pin,I.hok,I.len⟩
theorem F3 (I:Inv (X.tr X.pn xe) pins σ H s):Inv X pins σ H s:=⟨ae3 I.ok,I.os,I.bare,I.base,I.loc,I.cell,I.free,I.freeC,I.pin,I.hok,I.len⟩
theorem ai5 {D:Nf} {f:Flow} (h:SP (X.tr X.pn xe) pins D f s):SP X pins D f s:=by
 cases f with
 | next=>obtain⟨σ',H',I,q⟩:=h;exact⟨σ',H',F3 I,q⟩
 | brk=>obtain⟨σ',H',I,q⟩:=h;exact⟨σ',H',F3 I,q⟩
 | cont=>obtain⟨σ',H',I,q⟩:=h;exact⟨σ',H',F3 I,q⟩
 | ret u=>obtain⟨v,σ',H',I,r,q⟩:=h;exact⟨v,σ',H',F3 I,r,q⟩
noncomputable def Xh (tb:DS):DS:=fun D σ H=>tb { D with ex:=fun _ _ _=>False } σ H
theorem ah3 {Y:Cx} {body:List Stmt} {h0:ExceptHandler} {hs:List ExceptHandler} {pos:Pos} {tb:DS} (hb:QSs (Y.tr Y.pn fun _ _=>False) body tb):QS Y (.Try body (h0::hs) [] [] pos) (Xh tb):=by
 intro Ex m pins s σ H D I hw
 refine wpAny_Try_except ?_
 refine bR (hb (fun _ _ _=>False) Jp pins s σ H D (as3 I) hw) (fun f s1 q=>?_) fun _ _ z=>z.elim
 have q:=ai5 q
 cases f with
 | next=>exact jW q
 | _=>exact q
end
noncomputable def Gu:Expr->Bool
 | .ListComp _ _ _ _=>false
 | .SetComp _ _ _ _=>false
 | .DictComp _ _ _ _ _=>false
 | _=>true
theorem Gv {e:Expr} (h:Gu e=true) (t:Option Expr) (l:Nat) (env:Env):iO e t l env=pure false:=by
 cases e with
 | ListComp _ _ _ _=>cases h
 | SetComp _ _ _ _=>cases h
 | DictComp _ _ _ _ _=>cases h
 | _=>rfl
section
variable {X:Cx} {G:Sg} {st:Stmt} {rest:List Stmt} {t u:DS} {e:Expr} {de:DE} {pos p':Pos}
theorem Bv:QS X st Bd:=fun _ _ _ _ _ _ _ _ h=>h.elim
theorem Td:QSs X [] Ag:=fun _ _=>af7
theorem On (h1:QS X st t) (h2:QSs X rest u):QSs X (st::rest) (Ae t u):=fun Ex m=>Yv (h1 Ex m) (h2 Ex m)
theorem ah1:QS X (.Pass pos) Ag:=fun _ _=>af5
theorem a10:QS X (.Break pos) a47:=fun _ _=>Yu
theorem a11:QS X (.Continue pos) a48:=fun _ _=>Oj
theorem Y7 (h:QE X e de):QS X (.Return (some e) pos) (Aw de):=fun Ex m=>ay9 (h Ex m)
theorem ah2:QS X (.Return none pos) aj9:=fun _ _=>af6
theorem ah0 (h:QE X e de) (hn:Gu e=true):QS X (.Expr e pos) (Dc de):=fun Ex m=>af4 (h Ex m) (Gv hn _ _ _)
theorem ba8 {c:Expr} {a b:List Stmt} {tc:DT} (hc:QT X c tc) (ha:QSs X a t) (hb:QSs X b u):QS X (.If c a b pos) (dIf tc t u):=fun Ex m=>ba2 (hc Ex m) (ha Ex m) (hb Ex m)
theorem Y8 {i:Nat} {x:Str} (O:GOk X G) (hi:C6 G.N x 0=some i) (hx:Ql G x=true) (h:QE X e de) (hn:iO e (some (.Name x p')) pos.line X.env=pure false):QS X (.Assign [.Name x p'] e pos) (Ao i de):=by
 obtain⟨h1,h2⟩:=Mr O hx
 exact fun Ex m=>az0 (by rw [O.N];exact O.nd) (by rw [O.N];exact Ez hi) h1 (h Ex m) hn h2
variable {tg iter elt:Expr} {ifs:List Expr} {sc:Scope} {wi:DI} {g:DG} {tc:DT}
theorem Qs {i:Nat} {x:Str} {cp:Pos} (O:GOk X G) (hi:C6 G.N x 0=some i) (hx:Ql G x=true) (hc:X.calm=true) (hk:En G sc=true) (hs:Jr iter=true) (hq:QI X tg iter wi) (hg:∀ X',GOk X' (Cb G sc.names)->PG X' tg g)
  (ht:∀ X',GOk X' (Cb G sc.names)->ab3 X' ifs tc) (he:∀ X',GOk X' (Cb G sc.names)->QE X' elt de) :
  QS X (.Assign [.Name x p'] (.ListComp elt [⟨tg,iter,ifs,0⟩] sc cp) pos) (Ao i (Bc (E3 G sc.names) wi g tc de)):=by
 obtain⟨h1,h2⟩:=Mr O hx
 have sw:iO (.ListComp elt [⟨tg,iter,ifs,0⟩] sc cp) (some (.Name x p')) pos.line X.env=pure (X.env.blockKind==.function&&X.env.kindOf x==some .local&&p'.line==(Expr.ListComp elt [⟨tg,iter,ifs,0⟩] sc cp).pos.line
   && !(sc.names.any fun (n,k)=>n==x&&(k==.local||k==.cell))):=rfl
 cases hb:(X.env.blockKind==.function&&X.env.kindOf x==some .local&&p'.line==(Expr.ListComp elt [⟨tg,iter,ifs,0⟩] sc cp).pos.line
   && !(sc.names.any fun (n,k)=>n==x&&(k==.local||k==.cell))) with
 | false=>
  rw [hb] at sw
  exact Y8 O hi hx (Sy O hc hk hs hq hg ht he) sw
 | true=>
  rw [hb] at sw
  simp only [aP] at hb
  have hl:X.env.scope.names.lookup x=some .local:=ck hb.1.1.2
  intro Ex m pins s σ H D I h
  exact Xe hc (by rw [O.N];exact O.nd) (by rw [O.N];exact Ez hi) hl (L8 O hk) (hq Ex m) (fun us Q2 fp C D s2 H2 I2 f2 hC=>
   have M:=Jo (N':=(Cb G sc.names).N) (cl:=Ca X.env.cells sc.names []) (us:=us) (Q2:=Q2) (D:=D) m O.fr I2 f2 hC
   have K:=R4 O hk fp C s2 H2 (Bl X sc (Ca X.env.cells sc.names []) us Q2 D C)
   ⟨hg _ K,ht _ K _ M,he _ K _ M⟩) I h sw (fun x=>Js hs X.env x)
theorem a13 {body:List Stmt} (O:GOk X G) (ht:G.top=true) (hc:X.calm=true) (hi:QI X tg iter wi) (hg:PG X tg g) (hb:QSs X body t) (hs:Jr iter=true):QS X (.For tg iter body [] pos) (Ce wi g t):=by
 intro Ex m pins s σ H D I h
 refine bR (ay8 (O.own ht) hc (hi Ex m) hg (hb Ex m) (fun x=>Js hs X.env x) pins s σ H { D with nx:=fun σ' H'=>Thaw H H' (D.nx σ') } I h) (fun f s' q=>?_) fun _ _ z=>z
 cases f with
 | next=>
  obtain⟨σ',H',I',q⟩:=q
  obtain⟨H2,I2,q2⟩:=Thaw.inv I I' q
  exact⟨σ',H2,I2,q2⟩
 | _=>exact q
noncomputable def Yc:Expr->Bool
 | .Tuple _ _ _=>false
 | _=>true
theorem Yd {e:Expr} (h:Yc e=true) (tg:Expr) (env:Env):swappedStores [tg] e env=pure none:=by
 cases e with
 | Tuple _ _ _=>cases h
 | _=>cases tg <;> rfl
theorem a09 {ts:List Expr} {kt:Nat} {pt:Pos} {g:DG} (h:QE X e de) (hg:PG X (.Tuple ts kt pt) g) (hn:Gu e=true) (ht:Yc e=true):QS X (.Assign [.Tuple ts kt pt] e pos) (Ej de g):=
 fun Ex m=>Yt (h Ex m) hg (show lj [.Tuple ts kt pt] e pos.line X.env=pure false from Gv hn (some (.Tuple ts kt pt)) pos.line X.env) (Yd ht _ _)
noncomputable def Cc (K:ac) (o i:DE):DG:=fun v σ H Q=>o σ H (fun x H1=>i σ H1 (fun y H2=>Zf x y v H2 (Q σ)) fun _ _=>False) fun _ _=>False
theorem a14 {o i:Expr} {do' di:DE} (hu:X.A.units+64<cLine) (ho:QE X o do') (hi:QE X i di) (h:QE X e de) (hsl:D9 i=true):QS X (.Assign [.Subscript o i p'] e pos) (Ej de (Cc X.K do' di)):=by
 intro Ex m
 have hg:PG X (.Subscript o i p') (Cc X.K do' di):=ay6 (ho _ Jp) (hi _ Jp) (am6 hu) (by
  intro v
  cases i with
  | Slice _ _ _ _=>cases hsl
  | _=>rfl)
 exact Yt (h Ex m) hg (show lj [.Subscript o i p'] e pos.line X.env=pure false from by show iO e (some (.Subscript o i p')) pos.line X.env=pure false;cases e <;> rfl) (by cases e <;> rfl)
noncomputable def Fu (K:ac) (f:Str) (o e:DE):DS:=fun D σ H=>e σ H (fun y H1=>o σ H1 (fun x H2=>Zc K f x y H2 (D.nx σ)) (D.ex σ)) (D.ex σ)
theorem a12 {o:Expr} {f:Str} {do':DE} (ho:QE X o do') (h:QE X e de):QS X (.Assign [.Attribute o f p'] e pos) (Fu X.K f do' de):=by
 intro Ex m pins s σ H D I hw
 refine plainObj_wpAny_Assign_Attribute (thn (h Ex m pins s σ H _ I hw) fun u s1 ⟨y,H1,I1,ry,q⟩=>thn (ho Ex m pins s1 σ H1 _ I1 q) fun ov s2 ⟨x,H2,I2,rx,q2⟩=>?_) (by cases e <;> rfl)
 exact bb4 I2 rx ry q2 fun H' s' I' hN=>⟨σ,H',I',hN⟩
end
section
variable {X:Cx} {e:Expr} {de:DE} {pos p':Pos}
noncomputable def Xg (K:ac) (o i e:DE):DS:=fun D σ H=>o σ H (fun x H1=>i σ H1 (fun y H2=>∃ p xs a,∃ k:Nat,x=.ref p/\y=.int k/\H2 p=some (.lst xs)/\xs[k]? = some (.int a)/\e σ H2 (fun z H3=>∃ b,z=.int b/\H3 p=some (.lst xs)/\D.nx σ (upd H3 p (.lst (xs.set k (.int (a+b)))))) (D.ex σ)) (D.ex σ)) (D.ex σ)
theorem ag9 {o i:Expr} {do' di:DE} (hu:X.A.units+64<cLine) (ho:QE X o do') (hi:QE X i di) (h:QE X e de) (hsl:D9 i=true):QS X (.AugAssign (.Subscript o i p') .Add e pos) (Xg X.K do' di de):=by
 intro Ex m pins s σ H D I hw
 refine wpAny_AugAssign_SubscriptAny (thn (ho Ex m pins s σ H _ I hw) fun ov s1 ⟨x1,H1,I1,r1,q1⟩=>?_) (by
  intro ov iv new
  cases i with
  | Slice _ _ _ _=>cases hsl
  | _=>rfl)
 refine thn (hi Ex m pins s1 σ H1 _ I1 q1) fun iv s2 ⟨x2,H2,I2,r2,q2⟩=>?_
 obtain⟨p,xs,a,k,rfl,rfl,hp,hk,q2⟩:=q2
 cases r1
 obtain⟨t,rfl⟩:=r2
 obtain⟨its,ri,pl,hz⟩:=I2.list (SqL.of hp)
 obtain⟨u,eu,ru⟩:=ri.get hk
 have hl:=ri.length
 have hlt:k<xs.length:=(List.getElem?_eq_some_iff.mp hk).1
 refine wpAny_getItem_list pl.isList (kL k) (by have:=Es;omega) (by simpa using eu) ?_
 refine thn (h Ex m pins s2 σ H2 _ I2 q2) fun v s4 ⟨x4,H4,I4,r4,q4⟩=>?_
 obtain⟨b,rfl,hp4,q4⟩:=q4
 refine thn (as4 pins s4 σ H4 _ _ u v (fun z H5=>Zf (.ref p) (.int k) z H5 fun H6=>D.nx σ H6) I4 ru r4 ⟨a,b,rfl,rfl,.inl ⟨xs,k,hp4,?_,q4⟩⟩) fun new s5 ⟨x5,H5,I5,r5,q5⟩=>?_
 ·unfold ixN
  simp [hlt]
 ·exact thn (am6 hu pins s5 σ H5 (.ref p) (.int k) x5 _ _ new _ I5 rfl ⟨t,rfl⟩ r5 q5) fun _ s6 ⟨H6,I6,q6⟩=>⟨σ,H6,I6,q6⟩
end
theorem be7 {X:Cx} {pn:List (Addr×Obj)} {xe:ah->al->Prop} {i:FI} (F:Gf X i):Gf (X.tr pn xe) i:=⟨F.kp,F.ok,F.room,F.binds,F.vals⟩
theorem a34 {X:Cx} {G:Sg} (O:GOk X G) {pn:List (Addr×Obj)} {xe:ah->al->Prop} (ho:jM (model X.prog X.w) X.A X.env xe):GOk (X.tr pn xe) G where
 K:=O.K
 kind:=O.kind
 own:=fun _=>ho
 N:=O.N
 nd:=O.nd
 sc:=O.sc
 vis:=O.vis
 top:=O.top
 calm:=O.calm
 hd:=O.hd
 units:=O.units
 cel:=O.cel
 gb:=fun x g e=>by
  refine GBOk.to (X:=X) ?_ ?_ ?_ ?_ ?_ ?_ (O.gb x g e)
  ·rfl
  ·rfl
  ·rfl
  ·rfl
  ·exact fun _ r=>r
  ·exact fun i F=>be7 F
 bl:=O.bl
 frm:=O.frm
 fr:=O.fr
mutual
noncomputable def wS:Nat->Sg->Stmt->DS
 | 0,_,_=>Bd
 | n+1,G,st=>match st with
  | .Pass _=>Ag
  | .Break _=>a47
  | .Continue _=>a48
  | .Return (some e) _=>Aw (wE n G e)
  | .Return none _=>aj9
  | .Expr e _=>if Gu e=true then Dc (wE n G e) else Bd
  | .If c a b _=>dIf (wT n G c) (wSs n G a) (wSs n G b)
  | .Assign [.Name x _] (.ListComp elt [⟨tg,iter,ifs,0⟩] sc _) _=>match C6 G.N x 0 with
   | some i=>if Ql G x=true/\G.calm=true/\En G sc=true/\Jr iter=true then
     Ao i (Bc (E3 G sc.names) (wI n G tg iter) (wG n (Cb G sc.names) tg) (match ifs with | []=>B3 | [c]=>wT n (Cb G sc.names) c|_=>tNo) (wE n (Cb G sc.names) elt)) else Bd
   | none=>Bd
  | .Assign [.Name x _] e _=>match C6 G.N x 0 with
   | some i=>if Ql G x=true/\Gu e=true then Ao i (wE n G e) else Bd
   | none=>Bd
  | .Assign [.Tuple ts kt pt] e _=>if Gu e=true/\Yc e=true then Ej (wE n G e) (wG n G (.Tuple ts kt pt)) else Bd
  | .Assign [.Attribute o f _] e _=>Fu G.K f (wE n G o) (wE n G e)
  | .Assign [.Subscript o i _] e _=>if D9 i=true then Ej (wE n G e) (Cc G.K (wE n G o) (wE n G i)) else Bd
  | .AugAssign (.Subscript o i _) .Add e _=>if D9 i=true then Xg G.K (wE n G o) (wE n G i) (wE n G e) else Bd
  | .For tg iter body [] _=>if G.calm=true/\Jr iter=true/\G.top=true then Ce (wI n G tg iter) (wG n G tg) (wSs n G body) else Bd
  | .Try body (_::_) [] [] _=>Xh (wSs n G body)
  | _=>Bd
noncomputable def wSs:Nat->Sg->List Stmt->DS
 | 0,_,_=>Bd
 | _+1,_,[]=>Ag
 | n+1,G,s::r=>Ae (wS n G s) (wSs n G r)
end
theorem bf0:∀ (n:Nat) (X:Cx) (G:Sg),GOk X G->(∀ s,QS X s (wS n G s))/\(∀ ss,QSs X ss (wSs n G ss)):=by
 intro n
 induction n with
 | zero=>
  intro X G O
  refine⟨fun s=>?_,fun s=>?_⟩
  ·unfold wS;exact Bv
  ·unfold wSs;exact fun _ _ _ _ _ _ _ _ h=>h.elim
 | succ n ih=>
  intro X G O
  obtain⟨hS,hSs⟩:=ih X G O
  obtain⟨hE,hT,hI⟩:=aa8 n X G O
  refine⟨fun s=>?_,fun s=>?_⟩
  ·unfold wS
   split
   ·exact ah1
   ·exact a10
   ·exact a11
   ·exact Y7 (hE _)
   ·exact ah2
   ·split
    ·exact ah0 (hE _) ‹_›
    ·exact Bv
   ·exact ba8 (hT _) (hSs _) (hSs _)
   ·split
    ·rename_i i e
     split
     ·rename_i hh
      obtain⟨h1,h2,h3,h4⟩:=hh
      refine Qs O e h1 (O.calm▸h2) h3 h4 (hI _ _) (fun X' O'=>Pf n X' _ O' _) (fun X' O'=>?_) (fun X' O'=>(aa8 n X' _ O').1 _)
      split
      ·exact Ol
      ·exact Om ((aa8 n X' _ O').2.1 _)
      ·exact fun _ _ _ _ _ _ _ _ h=>h.elim
     ·exact Bv
    ·exact Bv
   ·split
    ·rename_i i e
     split
     ·rename_i hh
      exact Y8 O e hh.1 (hE _) (Gv hh.2 _ _ _)
     ·exact Bv
    ·exact Bv
   ·split
    ·rename_i hh
     exact a09 (hE _) (Pf n X G O _) hh.1 hh.2
    ·exact Bv
   ·rw [<- O.K];exact a12 (hE _) (hE _)
   ·split
    ·rename_i hh
     rw [<- O.K];exact a14 O.units (hE _) (hE _) (hE _) hh
    ·exact Bv
   ·split
    ·rename_i hh
     rw [<- O.K];exact ag9 O.units (hE _) (hE _) (hE _) hh
    ·exact Bv
   ·split
    ·rename_i hh
     exact a13 O hh.2.2 (O.calm▸hh.1) (hI _ _) (Pf n X G O _) (hSs _) hh.2.1
    ·exact Bv
   ·exact ah3 ((ih _ _ (a34 O jN)).2 _)
   ·exact Bv
  ·cases s with
   | nil=>unfold wSs;exact Td
   | cons a r=>unfold wSs;exact On (hS a) (hSs r)
section
variable {P:aS} {w:bB} {K:ac} {mg:Str->Option ah} {base:Heap}
structure FnIn (P:aS) (w:bB) (K:ac) (mg:Str->Option ah) (base:Heap) (k:Nat) (x:Str) (i:FI):Prop where
 at_:mg x=some (.ref i.f)
 kp:ba K (.ref i.f)=true
 ok:∃ CX,(∀ X':Cx,X'.prog=P->X'.w=w->Rq CX X')/\FnOk P w K mg base CX i.k i.f i.fd i.ps i.sp
 le:i.k<=k
 binds:∀ j,j<=i.dfs.length->Binds K i.fd i.ps (i.ds.drop j)
 vals:Vals i.dfs i.ds
structure FiIn (P:aS) (w:bB) (K:ac) (mg:Str->Option ah) (base:Heap) (k:Nat) (i:FI):Prop where
 kp:ba K (.ref i.f)=true
 ok:∃ CX,(∀ X':Cx,X'.prog=P->X'.w=w->Rq CX X')/\FnOk P w K mg base CX i.k i.f i.fd i.ps i.sp
 le:i.k<=k
 binds:∀ j,j<=i.dfs.length->Binds K i.fd i.ps (i.ds.drop j)
 vals:Vals i.dfs i.ds
theorem FiIn.mono {k k':Nat} {i:FI} (F:FiIn P w K mg base k i) (h:k<=k'):FiIn P w K mg base k' i:=⟨F.kp,F.ok,aT F.le h,F.binds,F.vals⟩
noncomputable def bf3 (P:aS) (w:bB) (K:ac) (mg:Str->Option ah) (base:Heap) (k:Nat) (C:Addr):Option FI->Prop
 | none=>bX K C=true/\aO K (.ref C) "__init__" = some (some (.builtin "object.__init__"))
 | some i=>bX K C=true/\aO K (.ref C) "__init__" = some (some (.ref i.f))/\cE K (.ref i.f)=true/\FiIn P w K mg base k i/\i.k+1<=k
structure ClsIn (P:aS) (w:bB) (K:ac) (mg:Str->Option ah) (base:Heap) (k:Nat) (x:Str) (C:Addr) (oi:Option FI):Prop where
 at_:mg x=some (.ref C)
 kp:ba K (.ref C)=true
 made:bf3 P w K mg base k C oi
theorem ClsIn.mono {k k':Nat} {x:Str} {C:Addr} {oi:Option FI} (F:ClsIn P w K mg base k x C oi) (h:k<=k'):ClsIn P w K mg base k' x C oi:=by
 refine⟨F.at_,F.kp,?_⟩
 cases oi with
 | none=>exact F.made
 | some i=>obtain⟨a,b,c,d,e⟩:=F.made;exact⟨a,b,c,d.mono h,aT e h⟩
structure MetIn (P:aS) (w:bB) (K:ac) (mg:Str->Option ah) (base:Heap) (k:Nat) (m:Str) (mi:MI):Prop where
 cls:Cls K mi.C
 at_:Il K mi.C m mi.i.f
 fi:FiIn P w K mg base k mi.i
theorem MetIn.mono {k k':Nat} {m:Str} {mi:MI} (F:MetIn P w K mg base k m mi) (h:k<=k'):MetIn P w K mg base k' m mi:=⟨F.cls,F.at_,F.fi.mono h⟩
noncomputable def GBIn (P:aS) (w:bB) (K:ac) (mg:Str->Option ah) (base:Heap) (k:Nat) (x:Str):GB->Prop
 | .fn i=>FnIn P w K mg base k x i
 | .val v u=>mg x=some u/\RelV v u
 | .cls C oi=>ClsIn P w K mg base k x C oi
 | .met m l=>∀ mi∈l,MetIn P w K mg base k m mi
structure Tab (P:aS) (w:bB) (K:ac) (mg:Str->Option ah) (base:Heap) (k:Nat) (gb:List (Str×GB)) (bl:List Str):Prop where
 all:∀ x g,(x,g)∈gb->GBIn P w K mg base k x g
 bl:∀ x∈bl,mg x=none
theorem FnIn.mono {k k':Nat} {x:Str} {i:FI} (F:FnIn P w K mg base k x i) (h:k<=k'):FnIn P w K mg base k' x i:=⟨F.at_,F.kp,F.ok,aT F.le h,F.binds,F.vals⟩
theorem GBIn.mono {k k':Nat} {x:Str} {g:GB} (F:GBIn P w K mg base k x g) (h:k<=k'):GBIn P w K mg base k' x g:=by
 cases g with
 | fn i=>exact FnIn.mono F h
 | val v u=>exact F
 | cls C oi=>exact ClsIn.mono F h
 | met m l=>exact fun mi hm=>(F mi hm).mono h
theorem GBIn.there {X:Cx} {k:Nat} {x:Str} {g:GB} (F:GBIn X.prog X.w X.K X.mg X.base k x g) (hr:Room k X.A):GBOk X x g:=by
 cases g with
 | fn i=>exact⟨F.at_,F.kp,F.ok,hr.mono F.le,F.binds,F.vals⟩
 | val v u=>exact F
 | cls C oi=>
  refine⟨F.at_,F.kp,?_⟩
  cases oi with
  | none=>exact F.made
  | some i=>obtain⟨a,b,c,d,e⟩:=F.made;exact⟨a,b,c,⟨d.kp,d.ok,hr.mono d.le,d.binds,d.vals⟩,hr.mono e⟩
 | met m l=>exact fun mi hm=>⟨(F mi hm).cls,(F mi hm).at_,⟨(F mi hm).fi.kp,(F mi hm).fi.ok,hr.mono (F mi hm).fi.le,(F mi hm).fi.binds,(F mi hm).fi.vals⟩⟩
theorem Eu (X:Cx):Rq CX0 X:=fun _ _ _ _ _ _ _ _ _ h=>h.elim
noncomputable def Px (K:ac) (N:List Str) (sc:Scope) (gb:List (Str×GB)) (bl:List Str):Sg:=⟨K,N,sc.names,gb,bl,true,true⟩
noncomputable def Lo (N:List Str) (sc:Scope):Bool:=N.all fun x=>(sc.names.lookup x==some .local)||(sc.names.lookup x==some .cell)
noncomputable def Xk (Q:VK) (E:EK):Wx:=⟨fun _ H'=>Q .non H',Q,fun _ _=>False,fun _ _=>False,fun _=>E⟩
structure FunD (K:ac) (x qual:Str) (st:Stmt) (f:Addr) (fd:bo) (dV:ah):Prop where
 ex:∃ (oc:ah) (od:Option Addr) (kV doc pm:ah) (an:Option Addr) (cdv ct:ah) (osl:Array (Option ah)),
  fd=cf x qual (Bq st) (A8 st) (Am st) dV kV doc pm an cdv ct/\K.lookup f=some ⟨oc,od,.func fd,osl⟩/\cU K cdv qual=true
 kp:ba K (.ref f)=true
theorem Fun.toD {x qual:Str} {st:Stmt} {f:Addr} {fd:bo} (F:Fun K x qual st f fd):FunD K x qual st f fd .none:=⟨F.ex,F.kp⟩
theorem ad0 {x qual:Str} {st:Stmt} {f:Addr} {oc:ah} {od an:Option Addr} {osl:Array (Option ah)} {dV kV doc pm cdv ct:ah} (l:K.lookup f=some ⟨oc,od,.func (cf x qual (Bq st) (A8 st) (Am st) dV kV doc pm an cdv ct),osl⟩)
  (c:cU K cdv qual=true) (k:ba K (.ref f)=true):FunD K x qual st f (cf x qual (Bq st) (A8 st) (Am st) dV kV doc pm an cdv ct) dV:=⟨⟨oc,od,kV,doc,pm,an,cdv,ct,osl,rfl,l,c⟩,k⟩
theorem FunD.ok {x qual:Str} {st:Stmt} {f:Addr} {fd:bo} {dV:ah} {N ps:List Str} {k:Nat} {sp:Sp} (F:FunD K x qual st f fd dV) (S:Ch N ps (Am st)) (len:∀ vs H Q E,sp vs H Q E->vs.length=ps.length)
  (hbody:∀ (cdv:ah) (A:a_) (outer:List Env) (s:al) (H:Hp) (vs:List V) (Q:VK) (E:XK),Room k (A.deeper (kl qual (Am st) s.heap.objs.size f cdv))->sp vs H Q E ->
   ∃ t,PSs (Ip CX0 P w K mg base N qual (Am st) f cdv A outer s H E).nox (A8 st) t/\t { nx:=fun _ H'=>Q .non H',rt:=Q } (C7 N vs) H):FnOk P w K mg base CX0 (k+1) f fd ps sp:=by
 obtain⟨oc,od,kV,doc,pm,an,cdv,ct,osl,rfl,lk,hcd⟩:=F.ex
 refine ak2 lk hcd S len fun A outer s H vs Q E hr hsp=>?_
 obtain⟨t,h,q⟩:=hbody cdv A outer s H vs Q E hr hsp
 exact⟨t,h.nox,q⟩
theorem Pl {fd:bo} {ps:List Str} {T:Addr} {o:Obj} {items:Array ah} {n:Nat} {ds:List ah} (hd:fd.defaults=.ref T) (ho:K.lookup T=some o) (hs:o.data=.seq items n)
  (h:∀ us:List ah,(us++ds).length=ps.length -> ∃ k:Option (Array ah)->Sem (List (Str×ah)),h_ fd ⟨us,[]⟩=seqItems? fd.defaults >>= k/\k (some items)=pure (ps.zip (us++ds))):Binds K fd ps ds:=fun s us X hl=>by
 obtain⟨k,h1,h2⟩:=h us hl
 exact PySem.W.binds_K X hd ho hs h1 h2
theorem FunD.okW0 {x qual:Str} {st:Stmt} {f:Addr} {fd:bo} {N ps:List Str} {k n:Nat} {sp:Sp} {gb:List (Str×GB)} {bl:List Str} {t:DS} {dV:ah} (F:FunD K x qual st f fd dV) (S:Ch N ps (Am st)) (hv:Lo N (Am st)=true)
  (T:Tab P w K mg base k gb bl) (rd:wSs n (Px K N (Am st) gb bl) (A8 st)=t) (len:∀ vs H Q E,sp vs H Q E->vs.length=ps.length)
  (hbody:∀ (vs:List V) (H:Hp) (Q:VK) (E:XK),sp vs H Q E->t (Xk Q fun _ _=>False) (C7 N vs) H):FnOk P w K mg base CX0 (k+1) f fd ps sp:=by
 refine F.ok S len fun cdv A outer s H vs Q E hr h=>?_
 have O:GOk (Ip CX0 P w K mg base N qual (Am st) f cdv A outer s H E).nox (Px K N (Am st) gb bl):=by
  refine⟨rfl,S.kind,(fun _=>jN),rfl,S.nd,fun x=>rfl,fun x hx=>?_,fun _ _=>rfl,rfl,(fun _=>hr.hd),hr.units,fun x hx=>?_,fun x g e=>?_,fun x hx=>?_,(fun _=>⟨rfl,rfl⟩),⟨_,_,_,rfl,rfl,rfl⟩⟩
  ·have:=List.all_eq_true.mp hv x hx
   rw [dF] at this
   exact this.elim (fun z=>.inl (ck z)) fun z=>.inr (.inl (ck z))
  ·rcases hx with hx|hx
   ·exact Fs hx
   ·exact absurd rfl (S.nofree _ (b7 hx))
  ·exact (T.all x g e).there hr
  ·exact T.bl x (by have hx':bl.contains x=true:=hx;simpa using hx')
 refine⟨_,(bf0 n _ _ O).2 (A8 st) (fun _ _ _=>False) (fun _ _ _ h=>h),?_⟩
 rw [rd]
 exact hbody vs H Q E h
end
end L2
set_option maxHeartbeats 400000
namespace L2
open PySem PySem.Spec PyProof.Rows
noncomputable def Ng (p:Addr) (H H':Hp):Prop:=∀ b u,b≠p->H b=some u->H' b=some u
theorem Xq {P:aS} {w:bB} {K:ac} {mg:Str->Option ah} {base:Heap} {N ps:List Str} {qual:Str} {scope:Scope} {f:Addr} {cdv:ah} {A:a_} {outer:List Env} {s:al} {H:Hp} {E:XK} {k:Nat} {gb:List (Str×GB)} {bl:List Str}
  (S:Ch N ps scope) (hv:Lo N scope=true) (T:Tab P w K mg base k gb bl) (hr:Room k (A.deeper (kl qual scope s.heap.objs.size f cdv))):GOk (Ip CX0 P w K mg base N qual scope f cdv A outer s H E).nox (Px K N scope gb bl):=by
 refine⟨rfl,S.kind,(fun _=>jN),rfl,S.nd,fun x=>rfl,fun x hx=>?_,fun _ _=>rfl,rfl,(fun _=>hr.hd),hr.units,fun x hx=>?_,fun x g e=>?_,fun x hx=>?_,(fun _=>⟨rfl,rfl⟩),⟨_,_,_,rfl,rfl,rfl⟩⟩
 ·have:=List.all_eq_true.mp hv x hx
  rw [dF] at this
  exact this.elim (fun z=>.inl (ck z)) fun z=>.inr (.inl (ck z))
 ·rcases hx with hx|hx
  ·exact Fs hx
  ·exact absurd rfl (S.nofree _ (b7 hx))
 ·exact (T.all x g e).there hr
 ·exact T.bl x (by have hx':bl.contains x=true:=hx;simpa using hx')
theorem ah8 {P:aS} {w:bB} {K:ac} {mg:Str->Option ah} {base:Heap} {k:Nat} {f c':Addr} {name qual:Str} {params:Arguments} {lb:Expr} {scope:Scope} {pm ctv:ah} {N ps:List Str} {A:a_} {outer:List Env} {s:al} {H:Hp} {us:List ah} {vs:List V} {Q:VK} {E:XK}
  (hr:Room (k+1) A) (e0:Env0 P w K mg base A outer s H) (ho:s.heap.get? f=some (PySem.W.kla_obj name qual params lb scope [] pm c' ctv)) (hcd:s.heap.CodeRec (.ref c') qual) (S:Ch N ps scope)
  (hb:h_ (kj name qual params lb scope [] pm (.ref c') ctv) ⟨us,[]⟩=pure (ps.zip us)) (hl:vs.length=ps.length) (r:Vals vs us)
  (hbody:Room k (A.deeper (kl qual scope s.heap.objs.size f (.ref c'))) -> ∃ t,PE (Ip CX0 P w K mg base N qual scope f (.ref c') A outer s H E).nox lb t/\t (C7 N vs) H Q) :
  ip (model P w) A (.call (.ref f) ⟨us,[]⟩) (CR CX0 outer P w H s Q E) s:=by
 have lim:s.heap.NoLimit:=e0.mod.nolimit.keeps fun b o e=>(e0.bs b o e).1
 have hkind:∀ y∈ps.zip us,scope.names.lookup y.1=some .local\/(scope.names.lookup y.1=some .cell/\((mf (s.heap.objs.size+1) scope.names []).lookup y.1).isSome=true):=fun⟨n,v⟩ hy=>by
  rcases S.par n (gS hy).1 with q|q
  ·exact .inl q
  ·exact .inr ⟨q,fU _ _ _ (.inl q)⟩
 refine PySem.W.kla_callFunE hr.depth ho rfl S.co S.gen rfl hcd ?_
 rw [hb]
 refine ar (bu (aj _) (hV S.kind hkind fun env he s1 x htk=>?_))
 subst he
 refine⟨lim.keeps x.toInCall.keep,PySem.W.kla_codeExpr ?_⟩
 obtain⟨t,ht,hq⟩:=hbody (hr.deeper _)
 have I:Inv (Ip CX0 P w K mg base N qual scope f (.ref c') A outer s H E) [] (C7 N vs) H s1:=K4 S hr.hd e0 htk hl r x
 exact bR (ht.nox [] s1 (C7 N vs) H _ I hq) (fun u s' ⟨v,H',J,rv,q⟩=>⟨v,H',J.os,J.bare,J.base,J.hok,rv,q⟩) fun e s' hs=>hs
section
variable {X:Cx} {pins:List (Addr×Obj)} {σ:St} {H:Hp} {s:al}
theorem Inv.grow {p:Addr} {ps more:Array ah} {h':Heap} {t':Nat} (I:Inv X pins σ H s) (hp:H p=some (.tbl ps)) (k:∀ b o,b≠p->s.heap.get? b=some o->h'.get? b=some o) (g:h'.get? p=some (fh (ps++more))) (ht:s.toks<=t'):Inv X pins σ (upd H p (.tbl (ps++more))) { s with heap:=h',toks:=t' }:=by
 have ne:∀ {b:Addr},H b=none->b≠p:=fun e z=>by rw [z,hp] at e;cases e
 refine I.step (g':=s.gens) (d':=s.drawn) (ch:=[]) (fun _ z=>nomatch z) (fun b o _ _ _ e n=>k b o (ne n) e) (fun b o _ _ _ e n=>⟨o.slots,k b o (ne n) e⟩) (fun b o _ _ n=>by rw [Ad (ne n)];exact n)
  (fun b o _ e=>?_) (fun b xs e=>by rw [Ad fun z=>by rw [z,hp] at e;cases e];exact e) (fun b o u e=>by rw [Ad fun z=>by rw [z,hp] at e;cases e];exact e) (fun b qs e=>?_) (fun m hm=>?_) (fun b u e=>?_) I.bare ht
 ·by_cases z:b=p
  ·exact⟨_,z▸g⟩
  ·exact⟨o,k b o z e⟩
 ·by_cases z:b=p
  ·subst z
   rw [hp] at e
   cases e
   exact⟨more,Aa⟩
  ·exact⟨#[],by rw [Ad z,e];simp⟩
 ·obtain⟨o,es,ep,ho,r⟩:=hm
  exact⟨o,es,ep,k _ o (ne I.free) ho,r⟩
 ·by_cases z:b=p
  ·subst z
   rw [Aa] at e
   cases e
   exact g
  ·rw [Ad z] at e
   refine (I.hok b u e).stay (fun c v hc q=>k c v ?_ q) (fun c q=>by rw [Ad fun z=>by rw [z,hp] at q;cases q];exact q) fun c xs q=>by rw [Ad fun z=>by rw [z,hp] at q;cases q];exact q
   rcases hc with hc|hc
   ·rw [hc];exact z
   ·exact fun z=>by rw [z,hp] at hc;cases hc
theorem Z2 (hc:X.calm=true) {fn p:Addr} {ds:List (Int×V)} {Q:VK} (I:Inv X pins σ H s) (hp:SqL X.K H p (ds.map (·.2))) (h64:ds.length<64) (asc:(ds.map (·.1)).Pairwise (· < ·))
  (hk:∀ d∈ds,∀ (pl:List (Addr×Obj)) (s':al) (H3:Hp) (u:ah),Inv X (pins++pl) σ H3 s'->Same H H3->RelV d.2 u->aJ (model X.prog X.w) X.A.in1.in1 (call (.ref fn) [u]) (EP X (pins++pl) σ fun v H4=>v=.int d.1/\Same H3 H4) (fun _ _=>False) s')
  (q:∀ H3 D,Same H H3->H D=none->H3 D=some (.lst (ds.map (·.2)))->Q (.ref D) H3) :
  aJ (model X.prog X.w) X.A (call (.builtin "sorted") [.ref p] [("key", .ref fn)]) (EP X pins σ Q) X.xe s:=by
 refine PySem.W.sk_sorted (OKQ:=fun us h' tk=>(∀ b o,s.heap.get? b=some o->h'.get? b=some o)/\s.heap.objs.size<=h'.objs.size/\s.toks<=tk/\Vals (ds.map (·.2)) us) (fun R hR=>?_) fun us h' tk ⟨keep,hD,htk,rv⟩=>?_
 ·obtain⟨its,ri,pl,hz⟩:=I.list hp
  refine collect_list pl.isList (hR _ _ s.toks ⟨fun b o e=>?_,?_,aj _,ri⟩) (by have:=ri.length;rw [ae] at this;rw [bz];omega)
  ·have hlt:b<s.heap.objs.size:=aC e
   rw [kx _ _ _ _ (aN hlt)]
   exact ai _ e
  ·rw [i9,lB]
   exact cQ _
 ·have hl:us.length=ds.length:=by have:=rv.length;simpa using this.symm
  refine⟨by omega,fun D e1 kS h2 hD2 hDk gD gk k=>?_⟩
  have lD:s.heap.objs.size<=D:=aT hD hD2
  have lk:s.heap.objs.size<=kS:=aT lD (dy hDk)
  have I2:Inv X pins σ H { s with heap:=h2,toks:=tk }:=I.kept (t':=tk) fun b o e=>k b o (keep b o e)
  have fD:∀ {H':Hp},H' D=none->C9 X pins H' D:=fun hn=>I.fpOk lD hn
  have fk:∀ {H':Hp},H' kS=none->C9 X (pins++[(D,a8 "list" #[] e1)]) H' kS:=fun hn=>by
   obtain⟨a1,a2,a3,a4,a5,a6⟩:=I.fpOk (H':=H) lk (I.hok.fresh lk)
   refine⟨hn,a2,a3,a4,a5,fun p hp=>?_⟩
   rw [<- iB] at hp
   rcases List.mem_append.mp hp with hp|hp
   ·exact a6 p hp
   ·rw [List.mem_singleton.mp hp]
    exact aN hDk
  refine⟨fun ks s'=>∃ H',Inv X (pins++[(D,a8 "list" #[] e1)]) σ H' s'/\Same H H'/\H' kS=none/\iU ks ((ds.map (·.1)).take ks.length),⟨H,?_,Same.refl _,I.hok.fresh lk,.nil⟩,?_,?_⟩
  ·refine I2.pins_of fun p hp=>?_
   rcases List.mem_append.mp hp with hp|hp
   ·exact I2.pin p (aR _ hp)
   ·rw [List.mem_singleton.mp hp]
    have f:=fD (I.hok.fresh lD)
    exact⟨gD,f.1,f.2.1,f.2.2.1,fun v z=>by cases z⟩
  ·intro j x ks e s' hx hlk hks ⟨H',I',S,hn,ka⟩
   have hj:j<us.length:=(List.getElem?_eq_some_iff.mp hx).1
   obtain⟨u,hu,ru⟩:=rv.get (i:=j) (x:=(ds[j]'(by omega)).2) (by rw [ak,af (by omega)];rfl)
   rw [hx] at hu
   cases hu
   have I1:Inv X (pins++([(D,a8 "list" #[] e1)]++[(kS,a8 "list" ks.toArray e)])) σ H' s':=I'.pins_of fun p hp=>by
    rw [<- iB] at hp
    rcases List.mem_append.mp hp with hp|hp
    ·exact I'.pin p (aR _ hp)
    ·rw [List.mem_singleton.mp hp]
     have f:=fk hn
     exact⟨hks,f.1,f.2.1,f.2.2.1,fun v z=>by cases z⟩
   refine bR (hk _ (cK _) _ s' H' _ I1 S ru) (fun k s'' hq=>?_) fun _ _ z=>z
   obtain⟨v,H'',I'',rk,rfl,S2⟩:=hq
   obtain⟨t,rfl⟩:=rk
   have pk:=I''.pin (kS,a8 "list" ks.toArray e) (by simp)
   refine⟨pk.1,fun h3 c g sb=>⟨H'',?_,S.trans S2,pk.2.1,?_⟩⟩
   ·have f:=fk pk.2.1
    have I3:Inv X (pins++[(D,a8 "list" #[] e1)]) σ H'' s'':=I''.pins_of fun p hp=>I''.pin p (by
     rcases List.mem_append.mp hp with hp|hp
     ·exact aR _ (c8 _ hp)
     ·exact aR _ (aR _ (c8 _ hp)))
    exact I3.turned (t':=s''.toks) (fun b o nb e=>(sb.2 b nb).trans e) f.1 f.2.1 f.2.2.2.1 f.2.2.2.2.1 f.2.2.2.2.2
   ·subst hlk
    rw [aZ,eC,aV,ak,af (by omega)]
    exact ksk_snoc ka
  ·intro ks e s' hlk hks ⟨H',I',S,hn,ka⟩
   have pD:=I'.pin (D,a8 "list" #[] e1) (by simp)
   have Iu:=I'.unpinned
   rw [fP (by rw [ae];omega)] at ka
   have fk':C9 X pins H' kS:=by
    have f:=fk hn
    exact⟨f.1,f.2.1,f.2.2.1,f.2.2.2.1,f.2.2.2.2.1,fun p hp=>f.2.2.2.2.2 p (by rw [<- iB];exact c8 _ hp)⟩
   have fin:PySem.W.SkFin D kS e e1 ks us (fun s3=>EP X pins σ Q (.ref D) s3) s':=by
    refine⟨pD.1,hks,fun h4 c g sm=>?_⟩
    refine⟨.ref D,upd H' D (.lst (ds.map (·.2))),Iu.adopt (fD pD.2.1) fk' (fun b u b1 b2 e=>(sm b b1 b2).trans e) ⟨?_,us,c,rv,g⟩,rfl,q _ D (fun b o e=>?_) (I.hok.fresh lD) Aa⟩
    ·rw [ae,bz];omega
    ·rw [Ad (Ai (S b o e) pD.2.1)]
     exact S b o e
   refine⟨fun _=>fin,fun h2=>?_⟩
   rw [ksk_kind (keys:=ks.toArray) ka (by rw [aq];omega)]
   refine ar (PySem.W.asc_sort (by omega) (fun j C h0 hj hC=>?_) ?_)
   ·unfold PySem.W.kas_ask
    have at_:∀ {vs:List ah} {ns:List Int} {j:Nat},iU vs ns->j<vs.length -> ∃ t,vs.getD j bw=.int (ns.getD j 0) t:=by
     intro vs ns j h
     induction h generalizing j with
     | nil=>intro h;cases h
     | cons n t _ ih=>
      intro h
      cases j with
      | zero=>exact⟨t,rfl⟩
      | succ j=>exact ih (jr h)
    obtain⟨t,e⟩:=at_ (j:=j) ka (by omega)
    obtain⟨u,e'⟩:=at_ (j:=j - 1) ka (by omega)
    rw [e,e']
    refine PySem.W.kat_lt_int ?_
    have:(ds.map (·.1)).getD (j - 1) 0<(ds.map (·.1)).getD j 0:=by
     rw [ao,af (by rw [ae];omega),ao,af (by rw [ae];omega)]
     exact List.pairwise_iff_getElem.mp asc (j - 1) j (by rw [ae];omega) (by rw [ae];omega) (by omega)
    rw [decide_eq_false (by omega)]
    exact hC
   ·rw [PySem.W.range_pick]
    exact fin
noncomputable def bf1 (K:ac) (Pt bm:Addr) (N:List Str) (dl:DE) (v:V) (H:Hp) (Q:VK):Prop:=∃ (b:Addr) (ob:Obj) (u:HO) (ds:List (Int×V)),v=.ref b/\SqL K H b (ds.map (·.2))/\ds.length<64/\(ds.map (·.1)).Pairwise (· < ·)/\H Pt=some (.tbl #[])/\H bm=some (.frz ob u) /\
 (ob.cls=.type "module" /\ ob.dict=some iM/\ob.data=.plain)/\(∀ d∈ds,∀ H3,Ng Pt H H3->dl (C7 N [d.2]) H3 (fun v H4=>v=.int d.1/\Same H3 H4) (fun _ _=>False)) /\ ∀ H' D,Ng Pt H H'->H D=none->H' D=some (.lst (ds.map (·.2)))->Q (.ref D) H'
noncomputable def ak0 (K:ac) (Pt bm:Addr) (N:List Str) (dl a:DE):DE:=fun σ H Q E=>Ac a Af σ H (fun xs H1=>∃ v,xs=[v]/\bf1 K Pt bm N dl v H1 Q) E
theorem ag7 {a lb:Expr} {da dl:DE} {p kp lpos pos:Pos} {c Pt bm:Addr} {lp:Arguments} {ls:Scope} {N:List Str} {j n:Nat} {gb:List (Str×GB)} {bl:List Str} (hc:X.calm=true) (hg:Gl X "sorted") (hm:X.mg "sorted" = none) (ha:QE X a da) (hs:Ay a=true)
  (hr:Room (j+3) X.A) (T:Tab X.prog X.w X.K X.mg X.base j gb bl) (hcode:X.env.code=.ref c) (hd:du X.K c Pt=true) (hbm:X.mg "__builtins__" = some (.ref bm)) (hcl:jZ ls X.env=pure []) (hdf:defaultsOf lp X.env=([],[])) (S:Ch N N ls) (hv:Lo N ls=true) (hN:N.length=1)
  (hb:∀ (q:Str) (pm cd ct:ah) (u:ah),h_ (kj "<lambda>" q lp lb ls [] pm cd ct) ⟨[u],[]⟩=pure (N.zip [u])) (rd:wE n (Px X.K N ls gb bl) lb=dl) :
  QE X (.Call (.Name "sorted" p) [a] [⟨some "key", .Lambda lp lb ls lpos,kp⟩] pos) (ak0 X.K Pt bm N dl da):=by
 intro Ex mt pins s σ H Q I h
 have hA:QA X [a] (Ac da Af):=Mu ha Qq hs
 refine bZ (C3 I hg hm G8 ?_ (by decide) (by decide))
 refine callWith_builtin_kwB (first:=[]) ?_ rfl ?_
 ·rw [Av hs [] X.env];rfl
 have e0:cP [a] X.env=[(false,eval a X.env)]:=by rw [Av hs [] X.env];rfl
 have hh:=hA Ex mt pos pins s σ H _ I h
 rw [e0] at hh ⊢
 refine ag (thn hh fun us s1 ⟨vs,H1,I1,r1,q1⟩=>ag (ar (bE ?_)))
 obtain⟨v,rfl,b,ob,u,ds,rfl,hp,h64,asc,hP,hB,⟨b1,b2,b3⟩,hk,q⟩:=q1
 obtain⟨u1,rfl,ru⟩:=C8 r1
 cases ru
 show aJ (model X.prog X.w) X.A (do
  let l <- evalAll [do let v <- eval (.Lambda lp lb ls lpos) X.env;standAt pos;pure v]
  let ps <- (pure [bG b]:Sem (List ah))
  pure (⟨ps,[("key" : Str)].zip l⟩:Args)) _ _ s1
 have gP:s1.heap.get? Pt=some (fh #[]):=I1.hok Pt _ hP
 have gB:s1.heap.get? bm=some ob:=(I1.hok bm _ hB).1
 have ns:=I1.mod.glob.keeps I1.bk
 have nG:∀ {z:Addr} {o:Obj},s1.heap.get? z=some o->(∀ es ep,o.data≠.dict es ep)->z≠mainGlobals:=fun e d z=>by
  obtain⟨o',es,ep,e2,d2,_⟩:=ns
  rw [z,e2] at e;cases e;exact d _ _ d2
 refine ag (wpAny_evalAll_cons (ag (PySem.W.kla_eval hdf (bu (aj _) (PySem.W.kla_makeFunction (mg:=X.mg) (ps:=#[]) hcl I1.ok.glob ns hcode (kE I1.kIn hd) gP trivial rfl (cB (nG gP fun _ _ z=>by cases z)) ⟨bm,ob,hbm,?_,nG gB (fun es ep z=>by rw [b3] at z;cases z),?_,gB,b1,b2,b3⟩ fun c' ctv h' tk hx hge hlt hrec htb htk=>?_)))))
 ·obtain⟨mb,nb,_⟩:=I1.mod.blt
  obtain⟨o',es,ep,e2,d2,_⟩:=nb.keeps I1.bk
  rintro rfl
  rw [e2] at gB;cases gB;rw [b3] at d2;cases d2
 ·rintro rfl
  rw [hP] at hB;cases hB
 generalize ef:PySem.W.kla_obj "<lambda>" (X.env.qual ++ "<lambda>") lp lb ls [] ((X.mg "__name__").getD .none) c' ctv=fo
 have I2:Inv X pins σ (upd H1 Pt (.tbl (#[] ++ #[dN lpos.line,dN lpos.col,.ref c']))) { s1 with heap:=h'.push fo,toks:=tk }:=
  I1.grow hP (fun b o nb e=>ai _ (hx b o nb e)) (ai _ htb) htk
 have gF:(h'.push fo).get? h'.objs.size=some fo:=by rw [<- ef];exact az _ rfl
 obtain⟨c2,oc,vs,t,e2,hoc,hdc,hvc⟩:=hrec
 cases e2
 have nP:∀ {b:Addr},s1.heap.objs.size<=b->b≠Pt:=fun h z=>absurd (aC gP) (Nat.not_lt.mpr (z▸h))
 have f1:C9 X pins (upd H1 Pt (.tbl (#[] ++ #[dN lpos.line,dN lpos.col,.ref c']))) c':=I1.fpOk hge (by rw [Ad (nP hge)];exact I1.hok.fresh hge)
 have hle:s1.heap.objs.size<=h'.objs.size:=dy (bh hge hlt)
 have f2:C9 X pins (upd H1 Pt (.tbl (#[] ++ #[dN lpos.line,dN lpos.col,.ref c']))) h'.objs.size:=I1.fpOk hle (by rw [Ad (nP hle)];exact I1.hok.fresh hle)
 have O2:Ng Pt H1 (upd H1 Pt (.tbl (#[] ++ #[dN lpos.line,dN lpos.col,.ref c']))):=fun b u nb e=>by rw [Ad nb];exact e
 have nD:∀ D,upd H1 Pt (.tbl (#[] ++ #[dN lpos.line,dN lpos.col,.ref c'])) D=none->H1 D=none:=fun D e=>by
  by_cases z:D=Pt
  ·rw [z,Aa] at e;cases e
  ·rwa [Ad z] at e
 generalize upd H1 Pt (.tbl (#[] ++ #[dN lpos.line,dN lpos.col,.ref c']))=H2 at I2 f1 f2 O2 nD
 have I3:Inv X (pins++[(c',oc),(h'.objs.size,fo)]) σ H2 { s1 with heap:=h'.push fo,toks:=tk }:=I2.pins_of fun p hp=>by
  rcases List.mem_append.mp hp with hp|hp
  ·exact I2.pin p (aR _ hp)
  ·simp only [aI,c7,or_false] at hp
   rcases hp with rfl|rfl
   ·exact⟨ai _ hoc,f1.1,f1.2.1,f1.2.2.1,fun v z=>by have z:oc.data=.cell v:=z;rw [hdc] at z;cases z⟩
   ·exact⟨gF,f2.1,f2.2.1,f2.2.2.1,fun v z=>by have z:fo.data=.cell v:=z;rw [<- ef] at z;cases z⟩
 have hp2:SqL X.K H2 b (ds.map (·.2)):=by
  rcases hp with hp|hp
  ·rcases hp with hp|⟨o,hp⟩
   ·exact .inl (.inl (O2 _ _ (fun z=>by rw [z,hP] at hp;cases hp) hp))
   ·exact .inl (.inr ⟨o,O2 _ _ (fun z=>by rw [z,hP] at hp;cases hp) hp⟩)
  ·exact .inr hp
 refine ag (fN (ar (wpAny_evalAll_nil (ag (ar (ar ?_))))))
 refine bR (Z2 (Q:=Q) hc I3 hp2 h64 asc (fun d hd pl s' H3 u I' S' ru=>?_) fun H3 D S3 nd e3=>q H3 D (fun b u nb e=>S3 _ _ (O2 b u nb e)) (nD D nd) e3) (fun v s' ⟨y,H',J,r,qq⟩=>⟨y,H',J.unpinned,r,qq⟩) fun _ _ z=>z
 have g1:=(I'.pin (h'.objs.size,fo) (by simp)).1
 have g2:=(I'.pin (c',oc) (by simp)).1
 rw [<- ef] at g1
 have hl:[d.2].length=N.length:=hN.symm
 refine j0 (fE (ah8 (k:=j) (E:=fun _ _ _=>False) (Q:=fun v H4=>v=.int d.1/\Same H3 H4) hr.in1.in1 I'.env0.in1.in1 g1 ⟨c',oc,vs,t,rfl,g2,hdc,hvc⟩ S (hb _ _ _ _ u) hl (.cons ru .nil) fun hr'=>?_) fun r s'' hq=>?_)
 ·refine⟨_,(aa8 n _ _ (Xq S hv T hr')).1 lb (fun _ _ _=>False) (fun _ _ _ h=>h),?_⟩
  rw [rd]
  exact hk d hd H3 (fun b u nb e=>S' _ _ (O2 b u nb e))
 ·cases r with
  | error e=>exact cu hq
  | ok fl=>
   cases fl with
   | ret u=>exact I'.after hq
   | next=>exact cu hq
   | brk=>exact cu hq
   | cont=>exact cu hq
end
theorem ar3 {P:aS} {w:bB} {K:ac} {mg:Str->Option ah} {base:Heap} {x qual:Str} {st:Stmt} {f:Addr} {fd:bo} {dV:ah} {a lb:Expr} {da dl:DE} {p kp lpos pos rp:Pos} {c Pt bm:Addr} {lp:Arguments} {ls:Scope} {N ps N':List Str} {j m n:Nat} {gb gb':List (Str×GB)} {bl:List Str} {sp:Sp}
  (F:FunD K x qual st f fd dV) (S:Ch N ps (Am st)) (hv:Lo N (Am st)=true) (T:Tab P w K mg base (j+3) gb bl) (T':Tab P w K mg base j gb' bl) (hst:A8 st=[.Return (some (.Call (.Name "sorted" p) [a] [⟨some "key", .Lambda lp lb ls lpos,kp⟩] pos)) rp])
  (hg:(Am st).names.lookup ("sorted" : Str)=some .globalImplicit) (hm:mg "sorted" = none) (hs:Ay a=true) (hcode:fd.code=.ref c) (hd:du K c Pt=true) (hbm:mg "__builtins__" = some (.ref bm)) (hcl:∀ env,jZ ls env=pure []) (hdf:∀ env,defaultsOf lp env=([],[]))
  (S':Ch N' N' ls) (hv':Lo N' ls=true) (hN:N'.length=1) (hb:∀ (q:Str) (pm cd ct:ah) (u:ah),h_ (kj "<lambda>" q lp lb ls [] pm cd ct) ⟨[u],[]⟩=pure (N'.zip [u])) (rd:wE n (Px K N' ls gb' bl) lb=dl) (ra:wE m (Px K N (Am st) gb bl) a=da)
  (len:∀ vs H Q E,sp vs H Q E->vs.length=ps.length) (hsp:∀ (vs:List V) (H:Hp) (Q:VK) (E:XK),sp vs H Q E->ak0 K Pt bm N' dl da (C7 N vs) H Q (fun _ _=>False)):FnOk P w K mg base CX0 (j+4) f fd ps sp:=by
 obtain⟨oc,od,kV,doc,pm,an,cdv,ct,osl,rfl,lk,hcd⟩:=F.ex
 obtain rfl:cdv=.ref c:=hcode
 refine ak2 (k:=j+3) lk hcd S len fun A outer s H vs Q E hr hq=>?_
 have O:=Xq (qual:=qual) (f:=f) (cdv:=.ref c) (A:=A) (outer:=outer) (s:=s) (H:=H) (E:=E) S hv T hr
 have ha:=(aa8 m _ _ O).1 a
 rw [ra] at ha
 have h:=On (Y7 (pos:=rp) (ag7 (X:=(Ip CX0 P w K mg base N qual (Am st) f (.ref c) A outer s H E).nox) (p:=p) (kp:=kp) (lpos:=lpos) (pos:=pos) (bm:=bm) rfl hg hm ha hs hr T' rfl hd hbm (hcl _) (hdf _) S' hv' hN hb rd)) Td (fun _ _ _=>False) (fun _ _ _ h=>h)
 rw [hst]
 exact⟨_,h.nox,hsp vs H Q E hq⟩
noncomputable def Wz (H:Hp) (Pt bm:Addr):Prop:=H Pt=some (.tbl #[]) /\ ∃ ob u,H bm=some (.frz ob u)/\ob.cls=.type "module" /\ ob.dict=some iM/\ob.data=.plain
theorem Ut {P:aS} {w:bB} {K:ac} {mg mb:Str->Option ah} {k:Nat} {fa a c Pt bm:Addr} {fd:bo} {x:Str} {sp:Sp} {s₁:al} {vs:List ah} {ns:List Int} {ob:Obj}
  (KX:K.In s₁.heap) (hns:s₁.heap.Ns mainGlobals mg) (hb:s₁.heap.Ns iM mb) (hbb:∀ x:Str,x ≠ "__name__" -> mb x=cO x) (htk:Rt K s₁.toks) (hlim:s₁.heap.NoLimit) (hg:s₁.gens = #[])
  (ha:s₁.heap.get? a=some { cls:=.type "list", data:=.seq vs.toArray }) (hi:iU vs ns) (hl:ns.length<=sizeLine) (hr:Room k me)
  (F:∀ base:Heap,K.In base->base.Ns mainGlobals mg->FnOk P w K mg base CX0 k fa fd [x] sp) (hbind:∀ (s:al) (u:ah),lq s fd ⟨[u],[]⟩ [(x,u)])
  (hP:s₁.heap.get? Pt=some (fh #[])) (hT:isCodeTable s₁.heap Pt) (hB:s₁.heap.get? bm=some ob) (b1:ob.cls=.type "module") (b2:ob.dict=some iM) (b3:ob.data=.plain) (kP:K.lookup Pt=none) (kB:K.lookup bm=none) (kA:K.lookup a=none)
  (hsp:∀ H:Hp,Wz H Pt bm->SqL K H a (ns.map V.int)->sp [.ref a] H (fun v _=>v=.bl true) fun _ _ _=>False) :
  ip (model P w) me (.call (.ref fa) ⟨[.ref a],[]⟩) (fun r s'=>r=.ok (.ret (.bool true))/\OldK s₁.heap s'.heap/\s'.os=s₁.os/\kr s'.gens) s₁:=by
 have rv:=Lm hi
 have n1:Pt≠a:=fun z=>by rw [z,ha] at hP;cases hP
 have n2:bm≠a:=fun z=>by
  rw [z,ha] at hB
  cases hB
  have b1:fC "list" = fC "module" := b1
  injection b1 with b1
  exact absurd b1 (by decide)
 have n3:bm≠Pt:=fun z=>by rw [z,hP] at hB;cases hB;cases b1
 let H:Hp:=fun b=>if b=a then some (.frz { cls:=.type "list", data:=.seq vs.toArray } (.lst (ns.map V.int))) else if b=Pt then some (.tbl #[]) else if b=bm then some (.frz ob (.ext fun _=>True)) else none
 have eA:H a=some (.frz { cls:=.type "list", data:=.seq vs.toArray } (.lst (ns.map V.int))):=if_pos rfl
 have eP:H Pt=some (.tbl #[]):=by show (if _ then _ else _)=_;rw [if_neg n1,if_pos rfl]
 have eB:H bm=some (.frz ob (.ext fun _=>True)):=by show (if _ then _ else _)=_;rw [if_neg n2,if_neg n3,if_pos rfl]
 have only:∀ b u,H b=some u->(b=a/\u=.frz { cls:=.type "list", data:=.seq vs.toArray } (.lst (ns.map V.int)))\/(b=Pt/\u=.tbl #[])\/(b=bm/\u=.frz ob (.ext fun _=>True)):=fun b u e=>by
  by_cases z:b=a
  ·rw [z,eA] at e;exact .inl ⟨z,(av e).symm⟩
  by_cases z2:b=Pt
  ·rw [z2,eP] at e;exact .inr (.inl ⟨z2,(av e).symm⟩)
  by_cases z3:b=bm
  ·rw [z3,eB] at e;exact .inr (.inr ⟨z3,(av e).symm⟩)
  have e:(if b=a then _ else if b=Pt then _ else if b=bm then _ else none)=some u:=e
  rw [if_neg z,if_neg z2,if_neg z3] at e
  cases e
 have hok:HOk P w H s₁.heap:=fun b u e=>by
  rcases only b u e with ⟨rfl,rfl⟩|⟨rfl,rfl⟩|⟨rfl,rfl⟩
  ·exact⟨ha,by rw [ae];exact hl,vs,_,rv,ha⟩
  ·exact hP
  ·exact⟨hB,trivial,⟨ob,hB⟩,fun _ _ _ _=>trivial⟩
 have base_of:∀ {b:Addr} {o:Obj},s₁.heap.get? b=some o->H b=none->(Mi s₁.heap H).get? b=some o:=fun e n=>Xr e n
 have noA:∀ {b:Addr} {o:Obj} {es:Array lY} {ep:Nat},s₁.heap.get? b=some o->o.data=.dict es ep->H b=none:=fun {b o es ep} e d=>by
  cases q:H b with
  | none=>rfl
  | some u=>
   rcases only b u q with ⟨rfl,_⟩|⟨rfl,_⟩|⟨rfl,_⟩
   ·rw [ha] at e;cases e;cases d
   ·rw [hP] at e;cases e;cases d
   ·rw [hB] at e;cases e;rw [b3] at d;cases d
 have nsK:∀ {b:Addr} {m:Str->Option ah},s₁.heap.Ns b m->(Mi s₁.heap H).Ns b m:=fun {b m} ⟨o,es,ep,e,d,r⟩=>⟨o,es,ep,base_of e (noA e d),d,r⟩
 have hKb:K.In (Mi s₁.heap H):=fun b o e=>base_of (KX b o e) (by
  cases q:H b with
  | none=>rfl
  | some u=>
   rcases only b u q with ⟨rfl,_⟩|⟨rfl,_⟩|⟨rfl,_⟩
   ·rw [kA] at e;cases e
   ·rw [kP] at e;cases e
   ·rw [kB] at e;cases e)
 have hM:Mod K mg (Mi s₁.heap H):=⟨hKb,nsK hns,⟨mb,nsK hb,hbb⟩,let ⟨mc,h1,h2⟩:=hlim;⟨mc,nsK h1,h2⟩⟩
 have e0:Env0 P w K mg (Mi s₁.heap H) me [] s₁ H:=⟨rfl,hM,fun b o e=>ae2 e,lJ (Um _ _),trivial,fun b hb=>absurd (show b∈([]:List Addr) from hb) (by simp),hok,.of_eq hg,htk⟩
 refine fE ((F _ hKb (nsK hns)).run me [] s₁ H ⟨[.ref a],[]⟩ [.ref a] [.ref a] _ _ hr e0 (hbind s₁ (.ref a)) (.cons rfl .nil) (hsp H ⟨eP,ob,_,eB,b1,b2,b3⟩ (.inl (.inr ⟨_,eA⟩)))) fun r s' h=>?_
 cases r with
 | error e=>exact cu h
 | ok fl=>
  cases fl with
  | next=>exact cu h
  | brk=>exact cu h
  | cont=>exact cu h
  | ret u=>
   obtain⟨v,H',os,bare,un,hok',r',q⟩:=h
   have q':v=.bl true:=q
   subst q'
   obtain rfl:u=gO true:=r'
   have keep:∀ b o,b≠Pt->s₁.heap.get? b=some o->s'.heap.get? b=some o:=fun b o nb e=>by
    cases q:H b with
    | none=>exact un.keep b o e q (by intro z;exact absurd (show b∈([]:List Addr) from z) (by simp)) (by simp)
    | some u=>
     have fz:∀ {o':Obj} {u':HO},H b=some (.frz o' u')->s'.heap.get? b=some o:=fun z=>by
      have z2:=un.frzs b _ _ z
      obtain⟨e1,_⟩:=hok b _ z
      obtain⟨e2,_⟩:=hok' b _ z2
      rw [e] at e1;cases e1
      exact e2
     rcases only b u q with ⟨rfl,rfl⟩|⟨rfl,_⟩|⟨rfl,rfl⟩
     ·exact fz eA
     ·exact absurd rfl nb
     ·exact fz eB
   obtain⟨more,hm⟩:=un.tbls Pt #[] eP
   have gP:s'.heap.get? Pt=some (fh (#[]++more)):=hok' Pt _ hm
   refine⟨rfl,⟨fun b o e=>?_,fun b o e=>?_⟩,os.1,bare⟩
   ·by_cases z:b=Pt
    ·subst z
     rw [hP] at e
     cases e
     exact .inr (.inl ⟨hT,rfl,#[],#[]++more,rfl,by rw [Array.empty_append];exact gP⟩)
    ·exact .inl (keep b o z e)
   ·by_cases z:b=Pt
    ·exact⟨_,z▸gP⟩
    ·exact⟨o,keep b o z e⟩
theorem walk_ofT {l:jP} {n k:Nat} {q:aS} {loose:List Str} {XP:(Str->Option ah)->Heap->Prop} {YP:bB->Heap->Prop} {d:DefRec} {K:Params->ac} {sp:bB->Sp} {x:Str} {Pt bm:Addr}
  (hT:∀ (w:bB) (m:Nat),Rt (K w.params) m) (hn:l.most=some n) (hn2:n<=sizeLine) (hdf:d.params.defaults=[]) (hr:Room k me)
  (hY:∀ (w:bB) (h:Heap),YP w h->(K w.params).In h/\h.get? Pt=some (fh #[]))
  (hK:∀ w:bB,(∃ c,du (K w.params) c Pt=true)/\(K w.params).lookup Pt=none/\(K w.params).lookup bm=none/\cM (K w.params) mainGlobals "__builtins__" = some (some (.ref bm))/\((K w.params).all fun p=>!(p.2.cls==fC "list"))=true)
  (F:∀ (w:bB) (mg:Str->Option ah) (fa:Addr) (h:Heap),(K w.params).In h->h.Ns mainGlobals mg->mg d.name=some (.ref fa) ->
   ∃ fd:bo,(∀ (s:al) (u:ah),lq s fd ⟨[u],[]⟩ [(x,u)]) /\ ∀ base:Heap,(K w.params).In base->base.Ns mainGlobals mg->FnOk l.prog w (K w.params) mg base CX0 k fa fd [x] (sp w))
  (hsp:∀ (w:bB) (H:Hp) (a:Addr) (ns:List Int),ns.length<=n->Wz H Pt bm->SqL (K w.params) H a (ns.map V.int)->sp w [.ref a] H (fun v _=>v=.bl true) fun _ _ _=>False) :
  PySem.W.WalkO q loose XP YP l.row.toRowW d [] (fun f vs=>PySem.call f vs):=by
 refine Att.attach_call hn hdf fun w s₀ s₁ mg mb fa o pm cd doc a vs ns G Y ho hd hcd hmg hobj hints hlen hg=>?_
 obtain⟨KX,hP⟩:=hY w _ Y
 obtain⟨⟨c,k1⟩,k2,k3,k4,k5⟩:=hK w
 obtain⟨fd,hb,hF⟩:=F w mg fa _ KX G.T.g hmg
 obtain⟨bm',ob,c1,c2,c3,c4,c5,c6⟩:=G.T.bmain
 have eb:bm'=bm:=by
  have:=eX KX G.T.g k4
  rw [c1] at this
  injection this with this
  injection this
 subst eb
 have kA:(K w.params).lookup a=none:=by
  cases e:(K w.params).lookup a with
  | none=>rfl
  | some o=>
   have:=KX a o e
   rw [hobj] at this
   cases this
   have:=List.all_eq_true.mp k5 _ (PySem.W.mem_of_lookupK e)
   simp at this
 exact Ut (c:=c) KX G.T.g G.T.b G.T.builtins (hT _ _) G.T.nolimit hg hobj hints (aT hlen hn2) hr hF hb hP (((kE KX k1).tab hP).isCodeTable) c3 c4 c5 c6 k2 k3 kA fun H h1 h2=>hsp w H a ns hlen h1 h2
end L2
set_option maxHeartbeats 4000000
namespace L2
open PySem PySem.Spec PyProof.Rows
theorem Same.upd {H:Hp} {a:Addr} {o:HO} (h:H a=none):Same H (upd H a o):=fun b u e=>by rw [Ad (Ai e h)];exact e
theorem Same.set {H H':Hp} {a:Addr} {o:HO} (s:Same H H') (h:H a=none):Same H (L2.upd H' a o):=fun b u e=>by rw [Ad (Ai e h)];exact s b u e
theorem Same.seqT {K:ac} {H H':Hp} {a:Addr} {xs:List V} (e:Same H H') (h:SqT K H a xs):SqT K H' a xs:=by
 rcases h with (h|⟨o,h⟩)|h
 ·exact .inl (.inl (e _ _ h))
 ·exact .inl (.inr ⟨o,e _ _ h⟩)
 ·exact .inr h
structure Cd (J:It) (its:List V) (ok:Hp->Prop):Prop where
 go:∀ i H,ok H->i<its.length->J.go i H
 stop:∀ H,ok H->J.stop its.length H
 yld:∀ i H x H',ok H->i<its.length->J.yld i H x H'->H'=H/\its[i]? = some x
structure Hn (J:It) (its:List (V×V)) (ok:Hp->Prop):Prop where
 go:∀ i H,ok H->i<its.length->J.go i H
 stop:∀ H,ok H->J.stop its.length H
 yld:∀ i H v H',ok H->i<its.length->J.yld i H v H' -> ∃ T x y,H T=none/\v=.ref T/\its[i]? = some (x,y)/\H'=upd H T (.tup [x,y])
noncomputable def Ew (z:Str):List V:=z.cps.toList.map fun c=>V.str ⟨#[c]⟩
theorem a39 (z:Str):Cd (Its z) (Ew z) (fun _=>True):=by
 have e:(Ew z).length=z.cps.size:=by unfold Ew;simp
 refine⟨fun i H _ h=>?_,fun H _=>?_,fun i H x H' _ _ h=>?_⟩
 ·show i<z.cps.size;omega
 ·show (Ew z).length=z.cps.size;exact e
 ·obtain⟨h1,c,h2,h3⟩:=h
  refine⟨h1,?_⟩
  unfold Ew
  rw [ak,cC,h2,h3]
  rfl
theorem Ba {K:ac} {a:Addr} (xs:List V):Cd (Itl K a) xs (fun H=>SqL K H a xs):=by
 refine⟨fun i H q h=>⟨xs,xs[i],q,by simp [h]⟩,fun H q=>⟨xs,q,aj _⟩,fun i H x H' q _ h=>?_⟩
 obtain⟨h1,h2⟩:=h
 exact⟨h1,h2 xs q⟩
theorem ab0 {K:ac} {a:Addr} (xs:List V):Cd (Itt K a) xs (fun H=>SqT K H a xs):=by
 refine⟨fun i H q h=>⟨xs,xs[i],q,by simp [h]⟩,fun H q=>⟨xs,q,aj _⟩,fun i H x H' q _ h=>?_⟩
 obtain⟨h1,h2⟩:=h
 exact⟨h1,h2 xs q⟩
noncomputable def Qw (lo:Int) (n:Nat):List V:=(aw n).map fun (i:Nat)=>V.int (lo+(i:Int))
theorem Ax (lo:Int) (n:Nat):(Qw lo n).length=n:=by unfold Qw;simp
theorem Os {lo:Int} {n i:Nat} (h:i<n):(Qw lo n)[i]? = some (.int (lo+(i:Int))):=by unfold Qw;simp [h]
theorem Br (lo:Int) (n:Nat):Cd (Itr lo n) (Qw lo n) (fun _=>True):=by
 refine⟨fun i H _ h=>?_,fun H _=>?_,fun i H x H' _ hi h=>?_⟩
 ·rw [Ax] at h;exact h
 ·show n<=(Qw lo n).length;rw [Ax];exact aj _
 ·obtain⟨h1,h2⟩:=h
  rw [Ax] at hi
  exact⟨h1,by rw [Os hi,h2]⟩
noncomputable def Dm:Nat->List V->List (V×V)
 | _,[]=>[]
 | k,x::r=>(.int k,x)::Dm (k+1) r
theorem Bf:∀ (k:Nat) (xs:List V),(Dm k xs).length=xs.length
 | _,[]=>rfl
 | k,_::r=>by rw [Dm,aK,aK,Bf (k+1) r]
theorem Cf:∀ {k i:Nat} {xs:List V} {x:V},xs[i]? = some x->(Dm k xs)[i]? = some (.int ((k+i:Nat):Int),x)
 | _,_,[],_,h=>by simp at h
 | k,0,y::r,x,h=>by
  simp only [c9,eW] at h
  subst h
  rfl
 | k,i+1,y::r,x,h=>by
  rw [bA] at h
  rw [Dm,bA,Cf h]
  congr 4
  omega
theorem Ef {K:ac} {a:Addr} (xs:List V):Hn (Ite K a) (Dm 0 xs) (fun H=>SqL K H a xs):=by
 have e:=Bf 0 xs
 refine⟨fun i H q h=>⟨xs,xs[i]'(by omega),q,by simp⟩,fun H q=>⟨xs,q,by omega⟩,fun i H v H' q _ h=>?_⟩
 obtain⟨T,x,hT,h1,h2,h4⟩:=h
 refine⟨T,.int i,x,hT,h1,?_,h4⟩
 have:=Cf (k:=0) (h2 xs q)
 rw [cL] at this
 exact this
section
variable {J:It} {its:List V} {ok:Hp->Prop} {g:DG} {tb:DS} {D:Wx} {σ:St} {H:Hp}
theorem Bh (Y:Cd J its ok) (Pv:Nat->St->Hp->Prop) (h0:Pv 0 σ H) (hok:∀ i σ H,i<=its.length->Pv i σ H->ok H)
  (hs:∀ i x σ H,its[i]? = some x->Pv i σ H->g x σ H fun σ2 H2=>tb { D with nx:=Pv (i+1),ct:=Pv (i+1),bk:=D.nx } σ2 H2) (hd:∀ σ H,Pv its.length σ H->D.nx σ H):Gg J g tb D σ H:=by
 refine⟨fun i m σ H=>m=its.length - i/\i<=its.length/\Pv i σ H,⟨its.length,by simp,bj _,h0⟩,?_⟩
 rintro i m σ H ⟨rfl,hi,p⟩
 by_cases hlt:i<its.length
 ·refine .inr ⟨Y.go i H (hok i σ H hi p) hlt,Pv (i+1),fun σ' H' p'=>⟨its.length - (i+1),by omega,rfl,hlt,p'⟩,fun x H' y=>?_⟩
  obtain⟨e,y2⟩:=Y.yld i H x H' (hok i σ H hi p) hlt y
  subst e
  exact hs i x σ _ y2 p
 ·have e:i=its.length:=by omega
  subst e
  exact .inl ⟨Y.stop H (hok _ σ H hi p),hd σ H p⟩
theorem Hu {its:List (V×V)} (Y:Hn J its ok) (Pv:Nat->St->Hp->Prop) (h0:Pv 0 σ H) (hok:∀ i σ H,i<=its.length->Pv i σ H->ok H)
  (hs:∀ i x y T σ H,its[i]? = some (x,y)->H T=none->Pv i σ H->g (.ref T) σ (upd H T (.tup [x,y])) fun σ2 H2=>tb { D with nx:=Pv (i+1),ct:=Pv (i+1),bk:=D.nx } σ2 H2) (hd:∀ σ H,Pv its.length σ H->D.nx σ H):Gg J g tb D σ H:=by
 refine⟨fun i m σ H=>m=its.length - i/\i<=its.length/\Pv i σ H,⟨its.length,by simp,bj _,h0⟩,?_⟩
 rintro i m σ H ⟨rfl,hi,p⟩
 by_cases hlt:i<its.length
 ·refine .inr ⟨Y.go i H (hok i σ H hi p) hlt,Pv (i+1),fun σ' H' p'=>⟨its.length - (i+1),by omega,rfl,hlt,p'⟩,fun x H' y=>?_⟩
  obtain⟨T,u,v,hT,e1,e2,e3⟩:=Y.yld i H x H' (hok i σ H hi p) hlt y
  subst e1 e3
  exact hs i u v T σ _ e2 hT p
 ·have e:i=its.length:=by omega
  subst e
  exact .inl ⟨Y.stop H (hok _ σ H hi p),hd σ H p⟩
variable {tc:DT} {te:DE} {L:Addr} {R:Hp->Prop} {E:EK}
theorem Dg (Y:Cd J its ok) (Pv:Nat->St->Hp->Prop) (h0:Pv 0 σ H) (hok:∀ i σ H,i<=its.length->Pv i σ H->ok H)
  (hs:∀ i x σ H,its[i]? = some x->Pv i σ H->g x σ H fun σ3 H3=>tc σ3 H3 (fun b H4=>if b=true then te σ3 H4 (fun v H5=>∃ ys,H5 L=some (.lst ys)/\ys.length<sizeLine/\Pv (i+1) σ3 (upd H5 L (.lst (ys++[v])))) E else Pv (i+1) σ3 H4) E)
  (hd:∀ σ H,Pv its.length σ H->R H):El J g tc te L R σ H E:=by
 refine⟨fun i m σ H=>m=its.length - i/\i<=its.length/\Pv i σ H,⟨its.length,by simp,bj _,h0⟩,?_⟩
 rintro i m σ H ⟨rfl,hi,p⟩
 by_cases hlt:i<its.length
 ·refine .inr ⟨Y.go i H (hok i σ H hi p) hlt,Pv (i+1),fun σ' H' p'=>⟨its.length - (i+1),by omega,rfl,hlt,p'⟩,fun x H' y=>?_⟩
  obtain⟨e,y2⟩:=Y.yld i H x H' (hok i σ H hi p) hlt y
  subst e
  exact hs i x σ _ y2 p
 ·have e:i=its.length:=by omega
  subst e
  exact .inl ⟨Y.stop H (hok _ σ H hi p),hd σ H p⟩
theorem Hq {its:List (V×V)} (Y:Hn J its ok) (Pv:Nat->St->Hp->Prop) (h0:Pv 0 σ H) (hok:∀ i σ H,i<=its.length->Pv i σ H->ok H)
  (hs:∀ i x y T σ H,its[i]? = some (x,y)->H T=none->Pv i σ H->g (.ref T) σ (upd H T (.tup [x,y])) fun σ3 H3=>tc σ3 H3 (fun b H4=>if b=true then te σ3 H4 (fun v H5=>∃ ys,H5 L=some (.lst ys)/\ys.length<sizeLine/\Pv (i+1) σ3 (upd H5 L (.lst (ys++[v])))) E else Pv (i+1) σ3 H4) E)
  (hd:∀ σ H,Pv its.length σ H->R H):El J g tc te L R σ H E:=by
 refine⟨fun i m σ H=>m=its.length - i/\i<=its.length/\Pv i σ H,⟨its.length,by simp,bj _,h0⟩,?_⟩
 rintro i m σ H ⟨rfl,hi,p⟩
 by_cases hlt:i<its.length
 ·refine .inr ⟨Y.go i H (hok i σ H hi p) hlt,Pv (i+1),fun σ' H' p'=>⟨its.length - (i+1),by omega,rfl,hlt,p'⟩,fun x H' y=>?_⟩
  obtain⟨T,u,v,hT,e1,e2,e3⟩:=Y.yld i H x H' (hok i σ H hi p) hlt y
  subst e1 e3
  exact hs i u v T σ _ e2 hT p
 ·have e:i=its.length:=by omega
  subst e
  exact .inl ⟨Y.stop H (hok _ σ H hi p),hd σ H p⟩
theorem Ei {α β:Type} {its:List α} {i:Nat} {x:α} (h:its[i]? = some x) (p:α->Bool) (f:α->β):((its.take (i+1)).filter p).map f=((its.take i).filter p).map f++(if p x=true then [f x] else []):=by
 rw [aV,h]
 simp only [cA,fI,ax]
 congr 1
 cases e:p x <;> simp [e]
theorem L0 (Y:Cd J its ok) (Sg:St->Prop) (p:V->Bool) (f:V->V) (h0:H L=none) (hok:∀ H1,Same H H1->ok H1) (hn:its.length<sizeLine) (hσ:Sg σ)
  (hs:∀ x σ H1,x∈its->Sg σ->Same H H1 -> ∀ (Fin:V->St->Hp->Prop) (Skip:St->Hp->Prop),(∀ v σ3 H5,Sg σ3->Same H1 H5->p x=true->v=f x->Fin v σ3 H5)->(∀ σ3 H4,Sg σ3->Same H1 H4->p x=false->Skip σ3 H4) ->
   g x σ H1 fun σ3 H3=>tc σ3 H3 (fun b H4=>if b=true then te σ3 H4 (fun v H5=>Fin v σ3 H5) E else Skip σ3 H4) E)
  (hd:∀ H',Same H H'->H' L=some (.lst ((its.filter p).map f))->R H'):El J g tc te L R σ (upd H L (.lst [])) E:=by
 refine Dg Y (fun i σ' H'=>Sg σ'/\Same H H'/\H' L=some (.lst (((its.take i).filter p).map f))) ⟨hσ,Same.upd h0,Aa⟩ (fun i σ' H' _ q=>hok H' q.2.1) ?_ ?_
 ·rintro i x σ' H' hx ⟨q1,q2,q3⟩
  have hi:i<its.length:=(List.getElem?_eq_some_iff.mp hx).1
  refine hs x σ' H' (am hx) q1 q2 (fun v σ3 H5=>∃ ys,H5 L=some (.lst ys)/\ys.length<sizeLine/\Sg σ3/\Same H (upd H5 L (.lst (ys++[v])))/\upd H5 L (.lst (ys++[v])) L=some (.lst (((its.take (i+1)).filter p).map f)))
   (fun σ3 H4=>Sg σ3/\Same H H4/\H4 L=some (.lst (((its.take (i+1)).filter p).map f))) (fun v σ3 H5 s1 s2 hp hv=>?_) (fun σ3 H4 s1 s2 hp=>?_)
  ·refine⟨_,s2 _ _ q3,?_,s1,(q2.trans s2).set h0,?_⟩
   ·rw [ae]
    have h1:=cW p (its.take i)
    have h2:(its.take i).length<=i:=by rw [aH];omega
    omega
   ·rw [Aa,Ei hx,if_pos hp,hv]
  ·refine⟨s1,q2.trans s2,?_⟩
   rw [s2 _ _ q3,Ei hx,if_neg (by rw [hp];exact au),dI]
 ·rintro σ' H' ⟨_,q2,q3⟩
  rw [aL] at q3
  exact hd H' q2 q3
end
section
variable {K:ac} {H H':Hp}
theorem Same.seqL {a:Addr} {xs:List V} (e:Same H H') (h:SqL K H a xs):SqL K H' a xs:=by
 rcases h with (h|⟨o,h⟩)|h
 ·exact .inl (.inl (e _ _ h))
 ·exact .inl (.inr ⟨o,e _ _ h⟩)
 ·exact .inr h
theorem W0 {J:It} {its:List V} {ok:Hp->Prop} {te:DE} {σ:St} {D:Addr} {R:Hp->Prop} {E:EK} (Y:Cd J its ok) (Sg:St->Prop) (hD:H D=none) (hok:∀ H1,Same H H1->ok H1) (hn:its.length<sizeLine) (hσ:Sg σ) (hS:∀ σ x,Sg σ->Sg (σ.set 0 (some x)))
  (he:∀ x σ H1 Q1,x∈its->Sg σ->Same H H1->(∀ H2,Same H1 H2->Q1 (.bl true) H2)->te (σ.set 0 (some x)) H1 Q1 E) (k:∀ H',Same H H'->SqL K H' D ((its.map fun _=>true).map V.bl)->R H') :
  El J (gdN 0) B3 te D R σ (upd H D (.lst [])) E:=by
 refine L0 Y Sg (fun _=>true) (fun _=>.bl true) hD hok hn hσ ?_ ?_
 ·intro x σ H1 hx hs S Fin Skip hF hK
  exact he x σ H1 _ hx hs S fun H2 S2=>hF _ _ _ (hS _ _ hs) S2 rfl rfl
 ·intro H' S hD'
  exact k H' S (SqL.of (hD'.trans (by rw [List.filter_eq_self.mpr (fun _ _=>rfl),aE];rfl)))
theorem Ry (its:List V):((its.map fun _=>true).all fun b=>b)=true:=by rw [ge,bb];exact fun _ _=>rfl
end
end L2
namespace L2
open PySem PySem.Spec PySem.W
theorem G7 {K:ac} {fd:bo} {ps:List Str} {T:Addr} {o:Obj} {items:Array ah} {n:Nat} {ds:List ah} (m:Nat) (hd:fd.defaults=.ref T) (ho:K.lookup T=some o) (hs:o.data=.seq items n) (hm:m+ds.length=ps.length)
  (h:∀ us:List ah,us.length=m -> ∃ k:Option (Array ah)->Sem (List (Str×ah)),h_ fd ⟨us,[]⟩=seqItems? fd.defaults >>= k/\k (some items)=pure (ps.zip (us++ds))):Binds K fd ps ds:=
 Pl hd ho hs fun us hl=>h us (by rw [aZ] at hl;omega)
end L2
namespace Pn
open PySem L2
noncomputable abbrev Sw:=List (Str×List Str)
noncomputable def Ic (c:Nat):Bool:=decide (97<=c)&&decide (c<=122)
noncomputable def okW (z:Str):Prop:=1<=z.length/\z.length<=8/\z.cps.toList.all Ic=true
noncomputable def okL (l:List Str):Prop:=(∀ z∈l,okW z)/\l.Nodup/\l.length<=8
noncomputable def Fe (l:List Str):Prop:=okL l/\2<=l.length/\l.length<=4
noncomputable def By (sw:Sw):Nat:=sw.foldl (fun n x=>n * x.2.length) 1
noncomputable def okSw (sw:Sw):Prop:=1<=sw.length/\sw.length<=5/\(sw.map (·.1)).Nodup/\(∀ x∈sw,okW x.1/\Fe x.2)/\By sw<=256
noncomputable def Du (acc:List (List Str)) (x:Str×List Str):List (List Str):=acc.flatMap fun a=>x.2.map fun z=>a++[z]
noncomputable def Ak (sw:Sw):List (List Str):=sw.foldl Du [[]]
noncomputable def Vp (ns:List Nat):Int:=ns.foldl (fun (c:Int) n=>cS c (2 ^ n)) 0
noncomputable def Fo (ms:List Int):Int:=ms.foldl (fun c m=>cS c m) 0
noncomputable def C2 (p:Nat) (z:Str):Nat->List (List Str)->List Nat
 | _,[]=>[]
 | k,r::rs=>if r[p]? = some z then k::C2 p z (k+1) rs else C2 p z (k+1) rs
noncomputable def Dp (rows:List (List Str)) (p:Nat) (z:Str):Int:=Vp (C2 p z 0 rows)
noncomputable def Fk (sw:Sw) (w:Str):Nat:=sw.findIdx fun x=>decide (x.1=w)
noncomputable def Hk (sw:Sw) (e:Str×List Str):Int:=Fo (e.2.map (Dp (Ak sw) (Fk sw e.1)))
noncomputable def Lq (sw:Sw):Int:=2 ^ (Ak sw).length - 1
noncomputable def W7 (sw:Sw) (rule:Sw):Int:=rule.foldl (fun c e=>cm c (Hk sw e)) (Lq sw)
noncomputable def G6 (sw:Sw) (rules:List Sw):List Int:=rules.map (W7 sw)
noncomputable def Ja (sw:Sw) (rules:List Sw):Int:=cm (Lq sw) (ce (Fo (G6 sw rules)))
noncomputable def Gx (sw:Sw) (e:Str×List Str):Prop:=e.2≠[]/\okL e.2 /\ ∃ x∈sw,x.1=e.1 /\ ∀ z∈e.2,z∈x.2
noncomputable def Eb (sw:Sw) (rule:Sw):Prop:=rule≠[]/\rule.length<=100/\(rule.map (·.1)).Nodup /\ ∀ e∈rule,Gx sw e
theorem Lk (acc:List (List Str)) (x:Str×List Str):(Du acc x).length=acc.length * x.2.length:=by
 unfold Du
 induction acc with
 | nil=>simp
 | cons a acc ih=>rw [iC,aZ,ih,ae,aK,Nat.add_mul,Nat.one_mul,lI]
theorem F9:∀ (sw:Sw) (acc:List (List Str)),(sw.foldl Du acc).length=sw.foldl (fun n x=>n * x.2.length) acc.length
 | [],_=>rfl
 | x::sw,acc=>by rw [bU,bU,F9 sw,Lk]
theorem F8 (sw:Sw):(Ak sw).length=By sw:=F9 sw [[]]
noncomputable def Ju (k:Nat) (rs:List (List Str)):Prop:=rs.Nodup/\(∀ r∈rs,r.length=k) /\ ∀ r∈rs,∀ z∈r,okW z
theorem Z3 {k:Nat} {acc:List (List Str)} {x:Str×List Str} (h:Ju k acc) (hx:Fe x.2):Ju (k+1) (Du acc x):=by
 obtain⟨h1,h2,h3⟩:=h
 refine⟨?_,?_,?_⟩
 ·unfold Du
  clear h3
  induction acc with
  | nil=>exact kg
  | cons a acc ih=>
   rw [iC,iF]
   rw [bM] at h1
   refine⟨?_,ih h1.2 (fun r hr=>h2 r (ay _ hr)),?_⟩
   ·refine eQ _ ?_ hx.1.2.1
    intro y z ne e
    exact ne (by simpa using e)
   ·intro r hr q hq e
    subst e
    obtain⟨y,hy,rfl⟩:=List.mem_map.mp hr
    obtain⟨b,hb,hq⟩:=List.mem_flatMap.mp hq
    obtain⟨z,hz,e⟩:=List.mem_map.mp hq
    have:b=a/\z=y:=by simpa using e
    rw [this.1] at hb
    exact h1.1 hb
 ·intro r hr
  obtain⟨b,hb,hq⟩:=List.mem_flatMap.mp hr
  obtain⟨z,hz,rfl⟩:=List.mem_map.mp hq
  rw [aZ,h2 b hb]
  rfl
 ·intro r hr y hy
  obtain⟨b,hb,hq⟩:=List.mem_flatMap.mp hr
  obtain⟨z,hz,rfl⟩:=List.mem_map.mp hq
  rcases List.mem_append.mp hy with hy|hy
  ·exact h3 b hb y hy
  ·have:y=z:=by simpa using hy
   subst this
   exact hx.1.1 _ hz
theorem Hj:∀ {sw:Sw} {k:Nat} {acc:List (List Str)},Ju k acc->(∀ x∈sw,Fe x.2)->Ju (k+sw.length) (sw.foldl Du acc)
 | [],_,_,h,_=>h
 | x::sw,k,acc,h,hs=>by
  have:=Hj (Z3 h (hs x (aQ))) (fun y hy=>hs y (ay _ hy))
  rw [bU,aK,show k+(sw.length+1)=k+1+sw.length by omega]
  exact this
theorem Ga {sw:Sw} (h:∀ x∈sw,Fe x.2):Ju sw.length (Ak sw):=by
 have:=Hj (sw:=sw) (k:=0) (acc:=[[]]) ⟨by simp,by simp,by simp⟩ h
 rwa [cL] at this
theorem Cj:∀ {sw:Sw} {n:Nat},1<=n->(∀ x∈sw,Fe x.2)->n<=sw.foldl (fun n x=>n * x.2.length) n
 | [],n,_,_=>aj _
 | x::sw,n,h,hs=>by
  rw [bU]
  have h2:2<=x.2.length:=(hs x aQ).2.1
  have:n<=n * x.2.length:=Nat.le_mul_of_pos_right _ (by omega)
  exact aT this (Cj (by omega) (fun y hy=>hs y (ay _ hy)))
theorem okSw.sets {sw:Sw} (h:okSw sw):∀ x∈sw,Fe x.2:=fun x hx=>(h.2.2.2.1 x hx).2
theorem okSw.len {sw:Sw} (h:okSw sw):(Ak sw).length<=256:=by rw [F8];exact h.2.2.2.2
theorem okSw.pos {sw:Sw} (h:okSw sw):1<=(Ak sw).length:=by rw [F8];exact Cj (aj 1) h.sets
theorem Ve {sw:Sw} (h:okSw sw) (i:Nat):By (sw.take i)<=By sw:=by
 conv=>rhs;rw [<- List.take_append_drop i sw]
 unfold By
 rw [eU]
 exact Cj (Cj (aj 1) fun x hx=>h.sets x (fb hx)) fun x hx=>h.sets x (List.mem_of_mem_drop hx)
theorem Cg {α β:Type} {l:List α} {i:Nat} {x:α} (h:l[i]? = some x) (f:β->α->β) (b:β):(l.take (i+1)).foldl f b=f ((l.take i).foldl f b) x:=by
 rw [aV,h,cA,eU]
 rfl
theorem B7 {α β:Type} {l:List α} {i:Nat} {x:α} (h:l[i]? = some x) (f:α->β):(l.take (i+1)).map f=(l.take i).map f++[f x]:=by
 rw [aV,h,cA,ax]
 rfl
noncomputable abbrev Own (ok:Addr->Prop) (H:Hp) (a:Addr) (o:HO):Prop:=ok a/\H a=some o
noncomputable abbrev Kp (ok:Addr->Prop) (H:Hp) (ok':Addr->Prop) (H':Hp):Prop:=∀ a o,Own ok H a o->Own ok' H' a o
noncomputable abbrev fresh (H:Hp):Addr->Prop:=fun a=>H a=none
noncomputable abbrev any:Addr->Prop:=fun _=>True
theorem Kp.same {ok:Addr->Prop} {H H':Hp} (S:Same H H'):Kp ok H ok H':=fun a o h=>⟨h.1,S _ _ h.2⟩
theorem Kp.any {ok:Addr->Prop} {H:Hp}:Kp ok H Pn.any H:=fun a o h=>⟨trivial,h.2⟩
theorem Kp.weak {ok ok':Addr->Prop} {H:Hp} (h:∀ a,ok a->ok' a):Kp ok H ok' H:=fun a o q=>⟨h a q.1,q.2⟩
theorem Kp.trans {ok1 ok2 ok3:Addr->Prop} {H1 H2 H3:Hp} (h:Kp ok1 H1 ok2 H2) (g:Kp ok2 H2 ok3 H3):Kp ok1 H1 ok3 H3:=fun a o q=>g a o (h a o q)
theorem Vn {H H':Hp} (S:Same H H') {a:Addr} (h:H' a=none):H a=none:=by
 cases e:H a with
 | none=>rfl
 | some o=>rw [S _ _ e] at h;cases h
theorem Kp.fresh {H1 H2 H:Hp} (S:Same H1 H2):Kp (fresh H2) H (Pn.fresh H1) H:=Kp.weak fun a h=>Vn S h
theorem Kp.off {ok:Addr->Prop} {H:Hp} {p:Addr} {o:HO} (h:¬ ok p):Kp ok H ok (upd H p o):=fun a u q=>⟨q.1,by
 have n:a≠p:=fun e=>h (by rw [<- e];exact q.1)
 rw [Ad n];exact q.2⟩
noncomputable abbrev kR (x:(Str×List Str)×Addr):Key×V:=(.inr x.1.1,.ref x.2)
noncomputable abbrev Cw (r:List Str):HO:=.tup (r.map V.str)
noncomputable abbrev Be (r:List Str):HO:=.lst (r.map V.str)
noncomputable def SwAt (ok:Addr->Prop) (H:Hp) (d:Addr) (sw:Sw):Prop:=∃ ds:List ((Str×List Str)×Addr),ds.map (·.1)=sw/\Own ok H d (.dK (ds.map kR)) /\ ∀ x∈ds,Own ok H x.2 (Cw x.1.2)
noncomputable def RuleAt (ok:Addr->Prop) (H:Hp) (d:Addr) (sw:Sw):Prop:=∃ ds:List ((Str×List Str)×Addr),ds.map (·.1)=sw/\Own ok H d (.dK (ds.map kR)) /\ ∀ x∈ds,Own ok H x.2 (Be x.1.2)
noncomputable def TupsAt (ok:Addr->Prop) (H:Hp) (l:Addr) (rows:List (List Str)):Prop:=∃ ds:List (List Str×Addr),ds.map (·.1)=rows/\Own ok H l (.lst (ds.map fun x=>.ref x.2)) /\ ∀ x∈ds,Own ok H x.2 (Cw x.1)
noncomputable def SwIn (ok:Addr->Prop) (H:Hp) (l:Addr) (sw:Sw):Prop:=∃ ds:List (((Str×List Str)×Addr)×Addr),ds.map (·.1.1)=sw/\Own ok H l (.lst (ds.map fun x=>.ref x.2)) /\ ∀ x∈ds,Own ok H x.2 (.tup [.str x.1.1.1,.ref x.1.2])/\Own ok H x.1.2 (Be x.1.1.2)
noncomputable def Kk (r:List Str):TK:=.tup (r.map fun z=>.at_ (.inr z))
noncomputable def Jt (k:Nat):List (List Str)->List (TK×V)
 | []=>[]
 | r::rs=>(Kk r,.int (k:Int))::Jt (k+1) rs
noncomputable def NumAt (ok:Addr->Prop) (H:Hp) (n:Addr) (rows:List (List Str)):Prop:=Own ok H n (.dT (Jt 0 rows))
noncomputable def Qx (rows:List (List Str)) (i:Nat) (l:List Str):HO:=.dK (l.map fun z=>(.inr z,.int (Dp rows i z)))
noncomputable def SetsAt (ok:Addr->Prop) (H:Hp) (d:Addr) (sw:Sw):Prop:=∃ ds:List ((Str×List Str)×Addr),ds.map (·.1)=sw/\Own ok H d (.dK (ds.map kR)) /\ ∀ i x,ds[i]? = some x->Own ok H x.2 (Qx (Ak sw) i x.1.2)
noncomputable def RulesAt (ok:Addr->Prop) (H:Hp) (k:Addr) (rules:List Sw):Prop:=∃ ds:List (Sw×Addr),ds.map (·.1)=rules/\Own ok H k (.lst (ds.map fun x=>.ref x.2)) /\ ∀ x∈ds,RuleAt ok H x.2 x.1
section
variable {ok ok':Addr->Prop} {H H':Hp} {d:Addr} {sw:Sw} {rows:List (List Str)} {rules:List Sw}
theorem SwAt.mono (h:SwAt ok H d sw) (k:Kp ok H ok' H'):SwAt ok' H' d sw:=by
 obtain⟨ds,e,o,q⟩:=h;exact⟨ds,e,k _ _ o,fun x hx=>k _ _ (q x hx)⟩
theorem RuleAt.mono (h:RuleAt ok H d sw) (k:Kp ok H ok' H'):RuleAt ok' H' d sw:=by
 obtain⟨ds,e,o,q⟩:=h;exact⟨ds,e,k _ _ o,fun x hx=>k _ _ (q x hx)⟩
theorem TupsAt.mono (h:TupsAt ok H d rows) (k:Kp ok H ok' H'):TupsAt ok' H' d rows:=by
 obtain⟨ds,e,o,q⟩:=h;exact⟨ds,e,k _ _ o,fun x hx=>k _ _ (q x hx)⟩
theorem SwIn.mono (h:SwIn ok H d sw) (k:Kp ok H ok' H'):SwIn ok' H' d sw:=by
 obtain⟨ds,e,o,q⟩:=h;exact⟨ds,e,k _ _ o,fun x hx=>⟨k _ _ (q x hx).1,k _ _ (q x hx).2⟩⟩
theorem SetsAt.mono (h:SetsAt ok H d sw) (k:Kp ok H ok' H'):SetsAt ok' H' d sw:=by
 obtain⟨ds,e,o,q⟩:=h;exact⟨ds,e,k _ _ o,fun i x hx=>k _ _ (q i x hx)⟩
theorem RulesAt.mono (h:RulesAt ok H d rules) (k:Kp ok H ok' H'):RulesAt ok' H' d rules:=by
 obtain⟨ds,e,o,q⟩:=h;exact⟨ds,e,k _ _ o,fun x hx=>(q x hx).mono k⟩
theorem NumAt.mono (h:NumAt ok H d rows) (k:Kp ok H ok' H'):NumAt ok' H' d rows:=k _ _ h
end
noncomputable def a54 (d l n s k b:Addr) (f:Int):List (Str×V):=[("settings", .ref d),("tuples", .ref l),("numbers", .ref n),("sets", .ref s),("kept_rules", .ref k),("bars", .ref b),("free", .int f)]
structure a43 (C:Addr) (ok:Addr->Prop) (H:Hp) (p:Addr) (sw:Sw) (rules:List Sw) (dx d l n s k b:Addr):Prop where
 ins:Own ok H p (.ins C dx (a54 d l n s k b (Ja sw rules)))
 sws:SwAt ok H d sw
 tps:TupsAt ok H l (Ak sw)
 nms:NumAt ok H n (Ak sw)
 sts:SetsAt ok H s sw
 rls:RulesAt ok H k rules
 brs:Own ok H b (.lst ((G6 sw rules).map V.int))
noncomputable def PanelAt (C:Addr) (ok:Addr->Prop) (H:Hp) (p:Addr) (sw:Sw) (rules:List Sw):Prop:=∃ dx d l n s k b,a43 C ok H p sw rules dx d l n s k b
theorem PanelAt.mono {C p:Addr} {ok ok':Addr->Prop} {H H':Hp} {sw:Sw} {rules:List Sw} (h:PanelAt C ok H p sw rules) (k:Kp ok H ok' H'):PanelAt C ok' H' p sw rules:=by
 obtain⟨dx,d,l,n,s,kk,b,h⟩:=h
 exact⟨dx,d,l,n,s,kk,b,⟨k _ _ h.ins,h.sws.mono k,h.tps.mono k,h.nms.mono k,h.sts.mono k,h.rls.mono k,k _ _ h.brs⟩⟩
noncomputable def SelfAt (C:Addr) (ok:Addr->Prop) (H:Hp) (p l s:Addr):Prop:=∃ dx fs,Own ok H p (.ins C dx fs)/\fs.lookup ("tuples" : Str)=some (.ref l)/\fs.lookup ("sets" : Str)=some (.ref s) /\ ∀ m∈(["all_choices", "box", "many", "term", "read_rule", "read_rules"]:List Str),fs.lookup m=none
theorem SelfAt.mono {C p l s:Addr} {ok ok':Addr->Prop} {H H':Hp} (h:SelfAt C ok H p l s) (k:Kp ok H ok' H'):SelfAt C ok' H' p l s:=by
 obtain⟨dx,fs,o,q⟩:=h;exact⟨dx,fs,k _ _ o,q⟩
theorem Fb {p:Addr} {o:Obj} (kvs:List (Key×V)):Cd (Itd p o kvs) (kvs.map fun kv=>kV kv.1) (fun H=>H p=some (.frz o (.dK kvs))):=by
 refine⟨fun i H q h=>⟨q,by simpa using h⟩,fun H q=>⟨q,by simp⟩,fun i H x H' q hi h=>?_⟩
 obtain⟨h1,k,v,h2,h3⟩:=h
 refine⟨h1,?_⟩
 rw [ak,h2,h3]
 rfl
theorem aa9 {p:Addr} {o:Obj} (kvs:List (Key×V)):Hn (Wv p o kvs) (Dm 0 (kvs.map fun kv=>kV kv.1)) (fun H=>H p=some (.frz o (.dK kvs))):=by
 have e:(Dm 0 (kvs.map fun kv=>kV kv.1)).length=kvs.length:=by rw [Bf];simp
 refine⟨fun i H q h=>⟨q,by omega⟩,fun H q=>⟨q,by omega⟩,fun i H x H' q hi h=>?_⟩
 obtain⟨T,k,v,hT,h1,h2,h3⟩:=h
 refine⟨T,.int i,kV k,hT,h1,?_,h3⟩
 have:=Cf (k:=0) (xs:=kvs.map fun kv=>kV kv.1) (i:=i) (x:=kV k) (by rw [ak,h2];rfl)
 rw [cL] at this
 exact this
theorem Same.thaw {H H':Hp} {p:Addr} {o:Obj} {kvs:List (Key×V)} (h:H p=some (.dK kvs)) (S:Same (upd H p (.frz o (.dK kvs))) H'):Same H (upd H' p (.dK kvs)):=by
 intro b u e
 by_cases hb:b=p
 ·subst hb;rw [Aa,<- h,e]
 ·rw [Ad hb];exact S _ _ (by rw [Ad hb];exact e)
theorem E9 {H:Hp} {d:Addr} {u:HO} (h:H d=some u):¬ Pn.fresh H d:=fun e=>by
 have e:H d=none:=e
 rw [h] at e
 cases e
theorem Hb {b:Bool} {A B:Prop} (e:b=false) (h:B):if b=true then A else B:=by subst e;exact Xx h
theorem N2 {b:Bool} {A B:Prop} (e:b=true) (h:A):if b=true then A else B:=by subst e;exact P7 h
theorem Al {α β:Type} {l:List α} {f:α->β} {i:Nat} {x:β} (h:(l.map f)[i]? = some x):∃ m,l[i]? = some m/\x=f m:=by
 rw [ak] at h
 cases e:l[i]? with
 | none=>rw [e] at h;cases h
 | some m=>rw [e] at h;exact⟨m,rfl,by simpa using h.symm⟩
theorem Aj {α:Type} {l:List α} {i:Nat} {x:α} (h:l[i]? = some x):i<l.length:=(List.getElem?_eq_some_iff.mp h).1
theorem Cr {n i:Nat} {x:V} (h:(Qw 0 n)[i]? = some x):i<n/\x=.int (i:Int):=by
 have hi:=Aj h
 rw [Ax] at hi
 rw [Os hi] at h
 refine⟨hi,?_⟩
 have:V.int (0+(i:Int))=x:=by simpa using h
 rw [<- this,Int.zero_add]
theorem Gb (z:Str):z.cps.toList.length=z.length:=by simp [Str.length]
theorem Yi (a c:Nat):decide ([c]<[a])=decide (c<a):=by
 rw [bT,decide_eq_true_iff,decide_eq_true_iff,List.cons_lt_cons_iff]
 simp
theorem leL {s:Str} {a c:Nat} (h:s.cps.toList=[a]):(!decide ((⟨#[c]⟩:Str).cps.toList<s.cps.toList))=decide (a<=c):=by
 rw [h]
 show (!decide ([c]<[a]))=_
 rw [Yi,<- decide_not]
 exact decide_eq_decide.mpr Nat.not_lt
theorem leR {s:Str} {a c:Nat} (h:s.cps.toList=[a]):(!decide (s.cps.toList<(⟨#[c]⟩:Str).cps.toList))=decide (c<=a):=by
 rw [h]
 show (!decide ([a]<[c]))=_
 rw [Yi,<- decide_not]
 exact decide_eq_decide.mpr Nat.not_lt
theorem Uc {s1 s2:Str} {a b c:Nat} {Q:VK} {H:Hp} (h1:s1.cps.toList=[a]) (h2:s2.cps.toList=[b]) (k:Q (.bl (decide (a<=c)&&decide (c<=b))) H) :
  if (!decide ((⟨#[c]⟩:Str).cps.toList<s1.cps.toList))=true then Q (.bl (!decide (s2.cps.toList<(⟨#[c]⟩:Str).cps.toList))) H else Q (.bl false) H:=by
 rw [leL h1,leR h2]
 cases e:decide (a<=c) with
 | true=>rw [e,gG] at k;exact P7 k
 | false=>rw [e,ke] at k;exact Xx k
theorem Ku {a b c:Int} {Q:VK} {H:Hp} (k:Q (.bl (decide (a<=c)&&decide (c<=b))) H):if decide (a<=c)=true then Q (.bl (decide (c<=b))) H else Q (.bl false) H:=by
 cases e:decide (a<=c) with
 | true=>rw [e,gG] at k;exact P7 k
 | false=>rw [e,ke] at k;exact Xx k
theorem ac3 {s1 s2:Str} {a b c i:Nat} {Q:VK} {E:EK} {H:Hp} {σ:St} (h1:s1.cps.toList=[a]) (h2:s2.cps.toList=[b]) (hv:σ[i]? = some (some (.str ⟨#[c]⟩))) (k:Q (.bl (decide (a<=c)&&decide (c<=b))) H) :
  Dz G3 G3 (dC (.str s1)) (Ab i) (dC (.str s2)) σ H Q E:=by
 unfold Dz dC Ab
 rw [hv]
 exact Uc h1 h2 k
theorem T7 {K:ac} {z:Str} {te:DE} {p:Nat->Bool} {H:Hp} {Q:VK} {E:EK} (hz:z.length<=1000) (he:∀ (c:Nat) (σ:St) (H1:Hp) (Q1:VK),σ.length=1->Q1 (.bl (p c)) H1->te (σ.set 0 (some (.str ⟨#[c]⟩))) H1 Q1 E) (k:∀ H',Same H H'->Q (.bl (z.cps.toList.all p)) H') :
  ∀ D,H D=none->El (Its z) (gdN 0) B3 te D (fun H'=>Oo K [.ref D] H' Q) (Pu [none] [some (.str z)]) (upd H D (.lst [])) E:=by
 intro D hD
 refine L0 (a39 z) (fun σ=>σ.length=1) (fun _=>true) (fun v=>match v with | .str y=>.bl (p (y.cps.getD 0 0))|_=>.non) hD (fun _ _=>aX) ?_ rfl ?_ ?_
 ·unfold Ew
  rw [ae]
  exact bh (show z.cps.toList.length<=1000 from by have:z.cps.size<=1000:=hz;simpa using this) (by decide)
 ·intro x σ H1 hx hσ S Fin Skip hF hS
  obtain⟨c,hc,rfl⟩:=List.mem_map.mp hx
  refine he c σ H1 _ hσ ?_
  exact hF _ _ _ (by rw [jH];exact hσ) (Same.refl _) rfl rfl
 ·intro H' S hD'
  have e:((Ew z).filter fun _=>true).map (fun v=>match v with | .str y=>V.bl (p (y.cps.getD 0 0))|_=>.non)=(z.cps.toList.map p).map V.bl:=by
   unfold Ew
   rw [List.filter_eq_self.mpr (fun _ _=>rfl),aE,aE]
   rfl
  refine⟨z.cps.toList.map p,SqL.of (hD'.trans (by rw [e])),?_⟩
  have e2:(z.cps.toList.map p).all (fun b=>b)=z.cps.toList.all p:=by rw [ge];rfl
  rw [e2]
  exact k H' S
theorem Nl {K:ac} {J:It} {its:List V} {ok:Hp->Prop} {te:DE} {σ:St} {H:Hp} {R:Hp->Addr->Prop} {E:EK} (Y:Cd J its ok) (Sg:St->Prop) (hok:∀ H1,Same H H1->ok H1) (hn:its.length<sizeLine) (hσ:Sg σ) (hS:∀ σ x,Sg σ->Sg (σ.set 0 (some x)))
  (he:∀ x σ H1 Q1,x∈its->Sg σ->Same H H1->(∀ H2,Same H1 H2->Q1 (.bl true) H2)->te (σ.set 0 (some x)) H1 Q1 E) (k:∀ D H',Same H H'->SqL K H' D ((its.map fun _=>true).map V.bl)->R H' D) :
  ∀ D,H D=none->El J (gdN 0) B3 te D (fun H'=>R H' D) σ (upd H D (.lst [])) E:=fun D hD=>W0 (K:=K) Y Sg hD hok hn hσ hS he (k D)
theorem N7:∀ (xs acc:List Str),(acc++xs).Nodup->xs.foldl (fun σ k=>if σ.any (fun j=>decide (j=k)) then σ else σ++[k]) acc=acc++xs
 | [],acc,_=>by rw [List.foldl_nil,dI]
 | x::xs,acc,h=>by
  have hx:(acc.any fun j=>decide (j=x))=false:=by
   rw [iA]
   intro j hj e
   have e:j=x:=by simpa using e
   subst e
   exact (List.nodup_append.mp h).2.2 j hj j aQ rfl
  rw [bU,hx]
  have h2:(acc++[x]++xs).Nodup:=by simpa using h
  show List.foldl _ (acc++[x]) xs=_
  rw [N7 xs (acc++[x]) h2]
  simp
theorem ad8 {xs:List Str} (h:xs.Nodup):Dq xs=xs:=N7 xs [] (by simpa using h)
theorem Bg {κ:Type} [DecidableEq κ]:∀ {kvs:List (κ×V)} {i:Nat} {k:κ} {v:V},(kvs.map (·.1)).Nodup->kvs[i]? = some (k,v)->Bs kvs k=some v
 | [],_,_,_,_,e=>by simp at e
 | p::r,0,k,v,_,e=>by
  rw [c9] at e
  cases e
  exact Dx rfl
 | p::r,i+1,k,v,h,e=>by
  rw [bA] at e
  rw [aY,bM] at h
  have ne:¬ p.1=k:=fun z=>h.1 (List.mem_map.mpr ⟨(k,v),am e,z.symm⟩)
  rw [Cp ne]
  exact Bg h.2 e
theorem Bx {κ:Type} [DecidableEq κ]:∀ {kvs:List (κ×V)} {k:κ},¬ k∈kvs.map (·.1)->Bs kvs k=none
 | [],_,_=>rfl
 | p::r,k,h=>by
  rw [aY,aI,not_or] at h
  rw [Cp (fun e=>h.1 e.symm)]
  exact Bx h.2
theorem Gw {l:List Str} (h:l.Nodup):(l.map (gv:Str->Key)).Nodup:=eQ _ (fun a b ne e=>ne (by injection e)) h
theorem Ia (ds:List ((Str×List Str)×Addr)):(ds.map kR).map (·.1)=((ds.map (·.1)).map (·.1)).map (gv:Str->Key):=by simp [aE]
theorem D4 {ds:List ((Str×List Str)×Addr)} {sw:Sw} (e:ds.map (·.1)=sw) (h:(sw.map (·.1)).Nodup):((ds.map kR).map (·.1)).Nodup:=by
 rw [Ia,e]
 exact Gw h
theorem E2 (x y:Nat):cS (x:Int) (y:Int)=((x ||| y:Nat):Int):=by
 unfold cS
 have hx:¬ (0:Int)<=ce (x:Int):=by unfold ce;omega
 have hy:¬ (0:Int)<=ce (y:Int):=by unfold ce;omega
 rw [PyProof.Rows.bitAnd_nn hx hy]
 have e:∀ z:Nat,(ce (ce (z:Int)))=(z:Int):=fun z=>by unfold ce;omega
 rw [e,e,e,aU,aU]
theorem Dy (x y:Nat):cm (x:Int) (y:Int)=((x &&& y:Nat):Int):=by
 rw [PyProof.Rows.bitAnd_pp (by omega) (by omega),aU,aU]
theorem Dw (n:Nat):(2:Int) ^ n=((2 ^ n:Nat):Int):=by simp
noncomputable def ai0 (ns:List Nat):Nat:=ns.foldl (fun c n=>c ||| 2 ^ n) 0
theorem Ou:∀ (ns:List Nat) (c:Nat),ns.foldl (fun (c:Int) n=>cS c (2 ^ n)) (c:Int)=((ns.foldl (fun c n=>c ||| 2 ^ n) c:Nat):Int)
 | [],c=>rfl
 | n::ns,c=>by rw [bU,bU,Dw,E2,Ou ns]
theorem Zj (ns:List Nat):Vp ns=(ai0 ns:Nat):=Ou ns 0
theorem Ov:∀ (ns:List Nat) (c k:Nat),(ns.foldl (fun c n=>c ||| 2 ^ n) c).testBit k=(c.testBit k||decide (k∈ns))
 | [],c,k=>by simp
 | n::ns,c,k=>by
  rw [bU,Ov ns,f_,dQ,Bool.or_assoc]
  congr 1
  rw [bT,dF,decide_eq_true_iff,decide_eq_true_iff,decide_eq_true_iff,aI]
  exact or_congr ⟨Eq.symm,Eq.symm⟩ Iff.rfl
theorem Zk (ns:List Nat) (k:Nat):(ai0 ns).testBit k=decide (k∈ns):=by
 unfold ai0
 rw [Ov,gr,iQ]
noncomputable def E1 (ms:List Nat):Nat:=ms.foldl (fun c m=>c ||| m) 0
theorem Ka:∀ (ms:List Nat) (c:Nat),(ms.map fun m:Nat=>(m:Int)).foldl (fun c m=>cS c m) (c:Int)=((ms.foldl (fun c m=>c ||| m) c:Nat):Int)
 | [],c=>rfl
 | n::ns,c=>by rw [aY,bU,bU,E2,Ka ns]
theorem Kb (ms:List Nat):Fo (ms.map fun m:Nat=>(m:Int))=(E1 ms:Nat):=Ka ms 0
theorem Kc:∀ (ms:List Nat) (c k:Nat),(ms.foldl (fun c m=>c ||| m) c).testBit k=(c.testBit k||ms.any fun m=>m.testBit k)
 | [],c,k=>by simp
 | n::ns,c,k=>by rw [bU,Kc ns,f_,fH,Bool.or_assoc]
theorem Kd (ms:List Nat) (k:Nat):(E1 ms).testBit k=ms.any fun m=>m.testBit k:=by
 unfold E1
 rw [Kc,gr,iQ]
noncomputable def P4 (rows:List (List Str)) (p:Nat) (z:Str) (k:Nat):Bool:=decide ((rows[k]?.bind fun r=>r[p]?)=some z)
theorem Se (p:Nat) (z:Str):∀ (rows:List (List Str)) (j n:Nat),n∈C2 p z j rows ↔ j<=n/\(rows[n - j]?.bind fun r=>r[p]?)=some z
 | [],j,n=>by simp [C2]
 | r::rows,j,n=>by
  have ih:=Se p z rows (j+1) n
  have e:∀ b,(n=j/\b)\/(j+1<=n/\(rows[n - (j+1)]?.bind fun r=>r[p]?)=some z) ↔ j<=n/\((n=j/\b)\/(n≠j/\(rows[n - (j+1)]?.bind fun r=>r[p]?)=some z)):=fun b=>by
   constructor
   ·rintro (⟨h1,h2⟩|⟨h1,h2⟩)
    ·exact⟨by omega,.inl ⟨h1,h2⟩⟩
    ·exact⟨by omega,.inr ⟨by omega,h2⟩⟩
   ·rintro⟨h0,⟨h1,h2⟩|⟨h1,h2⟩⟩
    ·exact .inl ⟨h1,h2⟩
    ·exact .inr ⟨by omega,h2⟩
  have g:j<=n->(((r::rows)[n - j]?.bind fun r=>r[p]?)=some z ↔ ((n=j/\r[p]? = some z)\/(n≠j/\(rows[n - (j+1)]?.bind fun r=>r[p]?)=some z))):=fun h=>by
   by_cases hn:n=j
   ·subst hn
    simp
   ·have e2:n - j=(n - (j+1))+1:=by omega
    rw [e2,bA]
    simp [hn]
  rw [C2]
  by_cases hr:r[p]? = some z
  ·rw [if_pos hr,aI,ih]
   have:=e (r[p]? = some z)
   constructor
   ·intro h
    have h2:=this.mp (h.imp (fun x=>⟨x,hr⟩) id)
    exact⟨h2.1,(g h2.1).mpr h2.2⟩
   ·rintro⟨h1,h2⟩
    exact (this.mpr ⟨h1,(g h1).mp h2⟩).imp (fun x=>x.1) id
  ·rw [if_neg hr,ih]
   have:=e (r[p]? = some z)
   constructor
   ·intro h
    have h2:=this.mp (.inr h)
    exact⟨h2.1,(g h2.1).mpr h2.2⟩
   ·rintro⟨h1,h2⟩
    rcases this.mpr ⟨h1,(g h1).mp h2⟩ with h|h
    ·exact absurd h.2 hr
    ·exact h
noncomputable def Sm (rows:List (List Str)) (p:Nat) (z:Str):Nat:=ai0 (C2 p z 0 rows)
theorem Uz (rows:List (List Str)) (p:Nat) (z:Str):Dp rows p z=(Sm rows p z:Nat):=Zj _
theorem U0 (rows:List (List Str)) (p:Nat) (z:Str) (k:Nat):(Sm rows p z).testBit k=P4 rows p z k:=by
 unfold Sm P4
 rw [Zk]
 refine decide_eq_decide.mpr ?_
 rw [Se]
 simp
noncomputable def J7 (sw:Sw) (e:Str×List Str):Nat:=E1 (e.2.map (Sm (Ak sw) (Fk sw e.1)))
theorem Vu (sw:Sw) (e:Str×List Str):Hk sw e=(J7 sw e:Nat):=by
 unfold Hk J7
 rw [<- Kb,aE]
 congr 1
 exact bL fun z _=>Uz _ _ _
theorem Vv (sw:Sw) (e:Str×List Str) (k:Nat):(J7 sw e).testBit k=e.2.any fun z=>P4 (Ak sw) (Fk sw e.1) z k:=by
 unfold J7
 rw [Kd,lH]
 congr 1
 funext z
 exact U0 _ _ _ _
noncomputable def Lr (sw:Sw):Nat:=2 ^ (Ak sw).length - 1
theorem Nj (sw:Sw):Lq sw=(Lr sw:Nat):=by
 unfold Lq Lr
 rw [Dw]
 have:0<2 ^ (Ak sw).length:=jK _
 omega
theorem Nk (sw:Sw) (k:Nat):(Lr sw).testBit k=decide (k<(Ak sw).length):=by
 unfold Lr
 rw [Nat.testBit_two_pow_sub_one]
noncomputable def Fc (sw:Sw) (rule:Sw):Nat:=rule.foldl (fun c e=>c &&& J7 sw e) (Lr sw)
theorem Nm (sw:Sw):∀ (rule:Sw) (c:Nat),rule.foldl (fun c e=>cm c (Hk sw e)) (c:Int)=((rule.foldl (fun c e=>c &&& J7 sw e) c:Nat):Int)
 | [],c=>rfl
 | e::rule,c=>by rw [bU,bU,Vu,Dy,Nm sw rule]
theorem W8 (sw rule:Sw):W7 sw rule=(Fc sw rule:Nat):=by
 unfold W7 Fc
 rw [Nj,Nm]
theorem Nn (sw:Sw):∀ (rule:Sw) (c k:Nat),(rule.foldl (fun c e=>c &&& J7 sw e) c).testBit k=(c.testBit k&&rule.all fun e=>e.2.any fun z=>P4 (Ak sw) (Fk sw e.1) z k)
 | [],c,k=>by simp
 | e::rule,c,k=>by rw [bU,Nn sw rule,eG,Vv,bS,Bool.and_assoc]
theorem W9 (sw rule:Sw) (k:Nat):(Fc sw rule).testBit k=(decide (k<(Ak sw).length)&&rule.all fun e=>e.2.any fun z=>P4 (Ak sw) (Fk sw e.1) z k):=by
 unfold Fc
 rw [Nn,Nk]
noncomputable def B5 (sw:Sw) (rules:List Sw):Nat:=Lr sw - (Lr sw &&& E1 (rules.map (Fc sw)))
theorem Gn (sw:Sw) (rules:List Sw):Ja sw rules=(B5 sw rules:Nat):=by
 unfold Ja B5 G6
 have e:rules.map (W7 sw)=(rules.map (Fc sw)).map fun m:Nat=>(m:Int):=by
  rw [aE]
  exact bL fun r _=>W8 sw r
 rw [e,Kb,Nj,PyProof.Rows.bitAnd_pn (by omega) (by unfold ce;omega),show ce (ce ((E1 (rules.map (Fc sw)):Nat):Int))=((E1 (rules.map (Fc sw)):Nat):Int) by unfold ce;omega,aU,aU]
 have:=Nat.and_le_left (n:=Lr sw) (m:=E1 (rules.map (Fc sw)))
 omega
theorem ai7 (a b:Nat):a - (a &&& b)=a ^^^ (a &&& b):=by
 have h:(a ^^^ (a &&& b)) &&& (a &&& b)=0:=by
  refine gw fun k=>?_
  rw [eG,jJ,eG,gr]
  cases a.testBit k <;> cases b.testBit k <;> rfl
 have h2:(a ^^^ (a &&& b)) ||| (a &&& b)=a:=by
  refine gw fun k=>?_
  rw [f_,jJ,eG]
  cases a.testBit k <;> cases b.testBit k <;> rfl
 have h3:(a ^^^ (a &&& b))+(a &&& b)=(a ^^^ (a &&& b)) ||| (a &&& b):=by
  have e:=PyProof.Rows.bitOr_and ((a ^^^ (a &&& b):Nat):Int) ((a &&& b:Nat):Int)
  rw [E2,Dy,h] at e
  omega
 omega
theorem Uk (sw:Sw) (rules:List Sw) (k:Nat):(B5 sw rules).testBit k=(decide (k<(Ak sw).length) && !rules.any fun r=>(Fc sw r).testBit k):=by
 unfold B5
 rw [ai7,jJ,eG,Nk,Kd,lH]
 show (_ ^^ (_&&rules.any fun r=>(Fc sw r).testBit k))=_
 cases decide (k<(Ak sw).length) <;> cases rules.any (fun r=>(Fc sw r).testBit k) <;> rfl
end Pn
namespace L2
open PySem PySem.Spec PyProof.Rows
section
variable {P:aS} {w:bB} {K:ac} {mg:Str->Option ah} {base:Heap} {x q:Str} {st:Stmt} {f:Addr} {d:bo} {ps:List Str}
noncomputable def a42 (K:ac) (x q:Str) (st:Stmt) (f:Addr):Prop:=∃ d,Fun K x q st f d
structure a44 (K:ac) (q:Str) (st:Stmt) (f:Addr):Prop where
 at_:cM K mainGlobals q=some (some (.ref f))
 d:a42 K q q st f
structure MetD (K:ac) (x q:Str) (st:Stmt) (f:Addr):Prop where
 fn:cE K (.ref f)=true
 d:a42 K x q st f
theorem top_mk {oc:ah} {od an:Option Addr} {osl:Array (Option ah)} {kV doc pm cdv ct:ah} (a:cM K mainGlobals q=some (some (.ref f))) (l:K.lookup f=some ⟨oc,od,.func (cf q q (Bq st) (A8 st) (Am st) .none kV doc pm an cdv ct),osl⟩)
  (c:cU K cdv q=true) (k:ba K (.ref f)=true):a44 K q st f:=⟨a,_,Mf l c k⟩
theorem met_mk {oc:ah} {od an:Option Addr} {osl:Array (Option ah)} {kV doc pm cdv ct:ah} (l:K.lookup f=some ⟨oc,od,.func (cf x q (Bq st) (A8 st) (Am st) .none kV doc pm an cdv ct),osl⟩)
  (c:cU K cdv q=true) (k:ba K (.ref f)=true) (i:cE K (.ref f)=true):MetD K x q st f:=⟨i,_,Mf l c k⟩
structure DOk (K:ac) (mg:Str->Option ah) (q:Str) (st:Stmt) (f:Addr) (d:bo) (ps:List Str):Prop where
 F:FunD K q q st f d .none
 b:Binds K d ps []
 m:mg q=some (.ref f)
structure MOk (K:ac) (x q:Str) (st:Stmt) (f:Addr) (d:bo) (ps:List Str):Prop where
 F:FunD K x q st f d .none
 b:Binds K d ps []
 i:cE K (.ref f)=true
theorem MetD.ok (D:MetD K x q st f) (hb:∀ (kV doc pm:ah) (an:Option Addr) (cdv ct:ah) (us:List ah),us.length=ps.length->h_ (cf x q (Bq st) (A8 st) (Am st) .none kV doc pm an cdv ct) ⟨us,[]⟩=pure (ps.zip us)):∃ d,MOk K x q st f d ps:=by
 obtain⟨a,d,F⟩:=D
 exact⟨d,F.toD,F.binds hb,a⟩
theorem a63 {i:FI} (h2:i.ds=[]) (b:Binds K i.fd i.ps []):∀ j,j<=i.dfs.length->Binds K i.fd i.ps (i.ds.drop j):=fun j _=>by
 rw [h2,kN];exact b
theorem MOk.fi {k:Nat} (i:FI) (g:MOk K x q st i.f i.fd i.ps) (ok:FnOk P w K mg base CX0 i.k i.f i.fd i.ps i.sp) (hk:i.k<=k:=by exact aG rfl) (h1:i.dfs=[]:=by rfl) (h2:i.ds=[]:=by rfl):FiIn P w K mg base k i:=
 ⟨g.F.kp,⟨CX0,fun X' _ _=>Eu X',ok⟩,hk,a63 h2 g.b,by rw [h1,h2];exact .nil⟩
theorem one {C:Addr} {i:FI} {m:Str} {k:Nat} (h:MetIn P w K mg base k m ⟨C,i⟩):∀ mi∈[(⟨C,i⟩:MI)],MetIn P w K mg base k m mi:=fun mi hm=>by
 rw [bI] at hm
 exact hm▸h
end
end L2
set_option maxHeartbeats 400000
namespace L2
open PySem PySem.Spec PyProof.Rows
structure Df where
 x:Str
 q:Str
 st:Stmt
 N:List Str
 np:Nat
 lv:Nat
noncomputable def Df.ps (d:Df):List Str:=d.N.take d.np
noncomputable abbrev Fy (D:Df) (f:Addr) (d:bo) (s:Sp):FI:=⟨f,d,D.ps,D.lv,s,[],[]⟩
noncomputable def ScOk (N P:List Str) (sc:Scope):Prop:=(sc.kind=.function/\sc.isCoroutine=false/\sc.isGenerator=false)/\N.Nodup/\N.take P.length=P/\(∀ x∈P,sc.names.lookup x=some .local\/sc.names.lookup x=some .cell)/\(∀ y∈sc.names,y.2≠.free)/\Lo N sc=true
noncomputable instance (N P:List Str) (sc:Scope):Decidable (ScOk N P sc):=by unfold ScOk;infer_instance
theorem ScOk.fn {N P:List Str} {sc:Scope} (h:ScOk N P sc):Ch N P sc:=⟨h.1.1,h.1.2.1,h.1.2.2,h.2.1,h.2.2.1,h.2.2.2.1,h.2.2.2.2.1⟩
structure Ent where
 lv:Nat
 x:Str
 g:GB
noncomputable def gbT (es:List Ent) (n:Nat):List (Str×GB):=es.filterMap fun e=>if e.lv<=n then some (e.x,e.g) else none
noncomputable def Rs (P:aS) (w:bB) (K:ac) (mg:Str->Option ah) (base:Heap) (es:List Ent) (bl:List Str) (n:Nat):Prop:=∀ m,m<n->Tab P w K mg base m (gbT es m) bl
noncomputable def AllE (P:aS) (w:bB) (K:ac) (mg:Str->Option ah) (base:Heap) (es:List Ent) (bl:List Str):List Ent->Prop
 | []=>True
 | e::r=>(Rs P w K mg base es bl e.lv->GBIn P w K mg base e.lv e.x e.g)/\AllE P w K mg base es bl r
section
variable {P:aS} {w:bB} {K:ac} {mg:Str->Option ah} {base:Heap} {es:List Ent} {bl:List Str} {f:Nat->Addr} {d:Nat->bo}
theorem AllE.app:∀ {a b:List Ent},AllE P w K mg base es bl a->AllE P w K mg base es bl b->AllE P w K mg base es bl (a++b)
 | [],_,_,h=>h
 | _::_,_,h,g=>⟨h.1,AllE.app h.2 g⟩
theorem AllE.at_:∀ {a:List Ent} {e:Ent},AllE P w K mg base es bl a->e∈a->Rs P w K mg base es bl e.lv->GBIn P w K mg base e.lv e.x e.g
 | [],_,_,he=>by cases he
 | _::_,_,h,he=>by
  rcases List.mem_cons.mp he with rfl|he
  ·exact h.1
  ·exact AllE.at_ h.2 he
theorem ai9 (hz:∀ x∈bl,mg x=none) (h:AllE P w K mg base es bl es) (n:Nat):Tab P w K mg base n (gbT es n) bl:=by
 induction n using Nat.strongRecOn with
 | ind n ih=>
  refine⟨fun x g hx=>?_,hz⟩
  obtain⟨e,he,q⟩:=List.mem_filterMap.mp hx
  split at q
  ·rename_i hl
   cases q
   exact (h.at_ he fun m hm=>ih m (aD hm hl)).mono hl
  ·cases q
noncomputable def OkD (K:ac) (D:Df) (es:List Ent) (bl:List Str) (f:Addr) (d:bo) (s:Sp):Prop:=∀ (P:aS) (w:bB) (mg:Str->Option ah) (base:Heap) (dV:ah),FunD K D.x D.q D.st f d dV->Rs P w K mg base es bl D.lv->FnOk P w K mg base CX0 D.lv f d D.ps s
noncomputable def OkG (P:aS) (w:bB) (K:ac) (mg:Str->Option ah) (base:Heap) (D:Df) (es:List Ent) (bl:List Str) (f:Addr) (d:bo) (s:Sp):Prop:=Rs P w K mg base es bl D.lv->FnOk P w K mg base CX0 D.lv f d D.ps s
theorem okD {D:Df} {f:Addr} {d:bo} {s:Sp} {k n:Nat} {t:DS} (hl:D.lv=k+1) (c:ScOk D.N D.ps (Am D.st)) (rd:wSs n (Px K D.N (Am D.st) (gbT es k) bl) (A8 D.st)=t) (len:∀ vs H Q E,s vs H Q E->vs.length=D.ps.length)
  (body:∀ (vs:List V) (H:Hp) (Q:VK) (E:XK),s vs H Q E->t (Xk Q fun _ _=>False) (C7 D.N vs) H):OkD K D es bl f d s:=fun _ _ _ _ _ F T=>by
 rw [hl] at T ⊢
 exact F.okW0 c.fn c.2.2.2.2.2 (T k (cn k)) rd len body
noncomputable def BtD (D:Df) (d:bo):Prop:=∀ (s:al) (us:List ah),us.length=D.ps.length->lq s d ⟨us,[]⟩ (D.ps.zip us)
noncomputable def AllG (K:ac) (mg:Str->Option ah) (f:Nat->Addr) (d:Nat->bo):Nat->List Df->Prop
 | _,[]=>True
 | k,D::r=>(DOk K mg D.q D.st (f k) (d k) D.ps/\BtD D (d k))/\AllG K mg f d (k+1) r
theorem AllG.get:∀ {L:List Df} {k:Nat} (j:Nat) {D:Df},AllG K mg f d k L->L[j]? = some D->DOk K mg D.q D.st (f (k+j)) (d (k+j)) D.ps/\BtD D (d (k+j))
 | [],_,_,_,_,e=>by simp at e
 | _::_,_,0,_,h,e=>by cases e;exact h.1
 | _::_,k,j+1,_,h,e=>by
  rw [show k+(j+1)=k+1+j by omega]
  exact AllG.get j h.2 e
noncomputable def am9 (K:ac):List Df->Prop
 | []=>True
 | D::r=>(∃ a,a44 K D.q D.st a)/\am9 K r
noncomputable def V6 (D:Df):Prop:=∀ (kV doc pm:ah) (an:Option Addr) (cdv ct:ah) (us:List ah),us.length=D.ps.length->h_ (cf D.x D.q (Bq D.st) (A8 D.st) (Am D.st) .none kV doc pm an cdv ct) ⟨us,[]⟩=pure (D.ps.zip us)
noncomputable def a40:List Df->Prop
 | []=>True
 | D::r=>(D.x=D.q/\V6 D)/\a40 r
theorem AllG.congr {f':Nat->Addr} {d':Nat->bo}:∀ {L:List Df} {k:Nat},(∀ n,k<=n->f' n=f n/\d' n=d n)->AllG K mg f d k L->AllG K mg f' d' k L
 | [],_,_,_=>aX
 | _::_,k,e,h=>⟨by rw [(e k (aj _)).1,(e k (aj _)).2];exact h.1,AllG.congr (fun n hn=>e n (by omega)) h.2⟩
theorem Rw {h:Heap} (d₀:bo) (X:K.In h) (G:h.Ns mainGlobals mg):∀ {L:List Df} (k:Nat),am9 K L->a40 L -> ∃ (f:Nat->Addr) (d:Nat->bo),AllG K mg f d k L
 | [],_,_,_=>⟨fun _=>0,fun _=>d₀,aX⟩
 | D::r,k,⟨⟨a,q⟩,t⟩,⟨⟨e,b⟩,bs⟩=>by
  obtain⟨f,d,g⟩:=Rw d₀ X G (k+1) t bs
  obtain⟨m,d0,F⟩:=q
  have b:=b
  unfold V6 at b
  rw [e] at b
  have g0:DOk K mg D.q D.st a d0 D.ps/\BtD D d0:=⟨⟨F.toD,F.binds b,eX X G m⟩,by
   obtain⟨oc,od,kV,doc,pm,an,cdv,ct,osl,rfl,_⟩:=F.ex
   exact fun s us hl=>.of_eq (b _ _ _ _ _ _ us hl)⟩
  refine⟨fun n=>if n=k then a else f n,fun n=>if n=k then d0 else d n,⟨?_,?_⟩⟩
  ·simp only [if_true];exact g0
  ·exact AllG.congr (fun n hn=>by rw [if_neg (by omega),if_neg (by omega)];exact⟨rfl,rfl⟩) g
theorem AllG.pre:∀ {a b:List Df} {k:Nat},AllG K mg f d k (a++b)->AllG K mg f d k a
 | [],_,_,_=>aX
 | _::_,_,_,h=>⟨h.1,AllG.pre h.2⟩
theorem OkD.g {D:Df} {a:Addr} {fd:bo} {s:Sp} (h:OkD K D es bl a fd s) (g:DOk K mg D.q D.st a fd D.ps) (e:D.x=D.q:=by rfl):OkG P w K mg base D es bl a fd s:=fun T=>h _ _ _ _ _ (by rw [e];exact g.F) T
noncomputable def fnE (f:Nat->Addr) (d:Nat->bo):Nat->List (Df×Sp)->List Ent
 | _,[]=>[]
 | k,p::r=>⟨p.1.lv,p.1.q,.fn (Fy p.1 (f k) (d k) p.2)⟩::fnE f d (k+1) r
noncomputable def V4 (P:aS) (w:bB) (K:ac) (mg:Str->Option ah) (base:Heap) (es:List Ent) (bl:List Str) (f:Nat->Addr) (d:Nat->bo):Nat->List (Df×Sp)->Prop
 | _,[]=>True
 | k,p::r=>OkG P w K mg base p.1 es bl (f k) (d k) p.2/\V4 P w K mg base es bl f d (k+1) r
theorem Rv:∀ {L:List (Df×Sp)} {k:Nat},AllG K mg f d k (L.map (·.1))->V4 P w K mg base es bl f d k L->AllE P w K mg base es bl (fnE f d k L)
 | [],_,_,_=>aX
 | _::_,_,g,o=>⟨fun T=>⟨g.1.1.m,g.1.1.F.kp,⟨CX0,fun X' _ _=>Eu X',o.1 T⟩,aj _,a63 rfl g.1.1.b,.nil⟩,Rv g.2 o.2⟩
noncomputable def AllM (K:ac) (c:Addr) (f:Nat->Addr) (d:Nat->bo):Nat->List Df->Prop
 | _,[]=>True
 | k,D::r=>(MOk K D.x D.q D.st (f k) (d k) D.ps/\Il K c D.x (f k))/\AllM K c f d (k+1) r
theorem AllM.get {c:Addr}:∀ {L:List Df} {k:Nat} (j:Nat) {D:Df},AllM K c f d k L->L[j]? = some D->MOk K D.x D.q D.st (f (k+j)) (d (k+j)) D.ps/\Il K c D.x (f (k+j))
 | [],_,_,_,_,e=>by simp at e
 | _::_,_,0,_,h,e=>by cases e;exact h.1
 | _::_,k,j+1,_,h,e=>by
  rw [show k+(j+1)=k+1+j by omega]
  exact AllM.get j h.2 e
theorem AllM.congr {c:Addr} {f':Nat->Addr} {d':Nat->bo}:∀ {L:List Df} {k:Nat},(∀ n,k<=n->f' n=f n/\d' n=d n)->AllM K c f d k L->AllM K c f' d' k L
 | [],_,_,_=>aX
 | _::_,k,e,h=>⟨by rw [(e k (aj _)).1,(e k (aj _)).2];exact h.1,AllM.congr (fun n hn=>e n (by omega)) h.2⟩
noncomputable def Nd (K:ac) (c:Addr):List Df->Prop
 | []=>True
 | D::r=>(∃ a,aO K (.ref c) D.x=some (some (.ref a))/\MetD K D.x D.q D.st a)/\Nd K c r
noncomputable def aj5:List Df->Prop
 | []=>True
 | D::r=>V6 D/\aj5 r
theorem Ho {c:Addr} (d₀:bo):∀ {L:List Df} (k:Nat),Nd K c L->aj5 L -> ∃ (f:Nat->Addr) (d:Nat->bo),AllM K c f d k L
 | [],_,_,_=>⟨fun _=>0,fun _=>d₀,aX⟩
 | D::r,k,⟨⟨a,i,q⟩,t⟩,⟨b,bs⟩=>by
  obtain⟨f,d,g⟩:=Ho d₀ (k+1) t bs
  obtain⟨d0,g0⟩:=q.ok (ps:=D.ps) b
  refine⟨fun n=>if n=k then a else f n,fun n=>if n=k then d0 else d n,⟨?_,?_⟩⟩
  ·simp only [if_true];exact⟨g0,i,g0.i,g0.F.kp⟩
  ·exact AllM.congr (fun n hn=>by rw [if_neg (by omega),if_neg (by omega)];exact⟨rfl,rfl⟩) g
noncomputable def AllC (mg:Str->Option ah) (u:Nat->ah):Nat->List (Str×V)->Prop
 | _,[]=>True
 | k,c::r=>(mg c.1=some (u k)/\RelV c.2 (u k))/\AllC mg u (k+1) r
theorem AllC.congr {u u':Nat->ah}:∀ {L:List (Str×V)} {k:Nat},(∀ n,k<=n->u' n=u n)->AllC mg u k L->AllC mg u' k L
 | [],_,_,_=>aX
 | _::_,k,e,h=>⟨by rw [e k (aj _)];exact h.1,AllC.congr (fun n hn=>e n (by omega)) h.2⟩
noncomputable def V5 (K:ac):List (Str×V)->Prop
 | []=>True
 | (x,v)::r=>(∃ u,cM K mainGlobals x=some (some u)/\RelV v u)/\V5 K r
theorem con_mk {x:Str} {v:V} {u:ah} (a:cM K mainGlobals x=some (some u)) (r:RelV v u):∃ u,cM K mainGlobals x=some (some u)/\RelV v u:=⟨u,a,r⟩
theorem Ru {h:Heap} (X:K.In h) (G:h.Ns mainGlobals mg):∀ {L:List (Str×V)} (k:Nat),V5 K L -> ∃ u:Nat->ah,AllC mg u k L
 | [],_,_=>⟨fun _=>.none,aX⟩
 | c::r,k,⟨⟨v,i,q⟩,t⟩=>by
  obtain⟨u,g⟩:=Ru X G (k+1) t
  refine⟨fun n=>if n=k then v else u n,⟨?_,?_⟩⟩
  ·simp only [if_true];exact⟨eX X G i,q⟩
  ·exact AllC.congr (fun n hn=>if_neg (by omega)) g
noncomputable def aq7 (u:Nat->ah):Nat->List (Str×V)->List Ent
 | _,[]=>[]
 | k,c::r=>⟨0,c.1,.val c.2 (u k)⟩::aq7 u (k+1) r
theorem Ni {u:Nat->ah}:∀ {L:List (Str×V)} {k:Nat},AllC mg u k L->AllE P w K mg base es bl (aq7 u k L)
 | [],_,_=>aX
 | _::_,_,h=>⟨fun _=>h.1,Ni h.2⟩
noncomputable def an0 (K:ac):List Str->Prop
 | []=>True
 | x::r=>cM K mainGlobals x=some none/\an0 K r
theorem Rx {h:Heap} (X:K.In h) (G:h.Ns mainGlobals mg):∀ {L:List Str},an0 K L -> ∀ x∈L,mg x=none
 | [],_,_,hx=>by cases hx
 | _::_,z,x,hx=>by
  rcases List.mem_cons.mp hx with rfl|hx
  ·exact PySem.W.mg_none_of X G z.1
  ·exact Rx X G z.2 x hx
end
section
variable {P:List ah->Prop}
@[elab_as_elim] theorem X0 (h:∀ a,P [a]):∀ us:List ah,us.length=1->P us
 | [a],_=>h a
@[elab_as_elim] theorem Uu (h:∀ a b,P [a,b]):∀ us:List ah,us.length=2->P us
 | [a,b],_=>h a b
@[elab_as_elim] theorem X1 (h:∀ a b c,P [a,b,c]):∀ us:List ah,us.length=3->P us
 | [a,b,c],_=>h a b c
@[elab_as_elim] theorem ad5 (h:∀ a b c d,P [a,b,c,d]):∀ us:List ah,us.length=4->P us
 | [a,b,c,d],_=>h a b c d
end
end L2
set_option maxHeartbeats 4000000
namespace K33
open PySem L2
set_option genInjectivity false in
set_option genSizeOfSpec false in
structure Adr where
 f:Nat->Addr
 d:Nat->bo
 u:Nat->ah
 f_zw:Addr
 d_zw:bo
 f_zaa:Addr
 d_zaa:bo
 f_zt:Addr
 d_zt:bo
 dv_zt:ah
 du_zt:List ah
 c_zbh:Addr
 m_zbh:Nat->Addr
 e_zbh:Nat->bo
 c_zbi:Addr
 m_zbi:Nat->Addr
 e_zbi:Nat->bo
 c_zbg:Addr
 m_zbg:Nat->Addr
 e_zbg:Nat->bo
end K33
set_option maxHeartbeats 400000
namespace K33
open PySem L2 Pn
structure ap8 (K:ac) (C:Addr):Prop where
 cl:Cls K C
 na:∀ f∈(["settings", "tuples", "numbers", "sets", "kept_rules", "bars", "free"]:List Str),NoAttr K C f
noncomputable def Jl (K:ac) (f:Addr):Bool:=match K.lookup f with
 | some ⟨_,_,.func fn,_⟩=>(match fn.code with
  | .ref c=>du K c 266
  | _=>false)
 | _=>false
structure An (K:ac) (t:Adr):Prop where
 pf:ap8 K t.c_zbg
 pc:Cls K t.c_zbh
 pr:NoAttr K t.c_zbh "records"
 bc:Cls K t.c_zbi
 bp:NoAttr K t.c_zbi "panel"
 bk:NoAttr K t.c_zbi "kept"
 lam:Jl K (t.f 29)=true
noncomputable def B4 (ns:List Int) (k:Nat):Int:=ns.getD k 0
noncomputable def Bi (c k:Int):Int:=
 if c % 2=0/\c / 2 ^ (27 * k+1).toNat≠0/\c / 2 ^ (27 * k+1).toNat ≠ -1 then cm (c / 2 ^ (27 * k+1).toNat) 134217727
 else
  let n:=(c+7919 * k) * 48271 % 2147483647
  let m:=n * n % 2147483629
  m * (m+3) % 2147483587 / 32
noncomputable def okB (sw rule:Sw):Prop:=(rule.map (·.1)).Nodup /\ ∀ e∈rule,Gx sw e
noncomputable abbrev nO (l:List Nat):HO:=.lst (l.map fun n:Nat=>V.int (n:Int))
noncomputable def Kh:List Nat->Nat->List Nat
 | [],_=>[]
 | s::r,n=>Kh r (n / s)++[n % s]
noncomputable def Mb (sw:Sw) (n:Nat):List Nat:=Kh (sw.map (·.2.length)).reverse n
noncomputable def Fr (sw:Sw) (rules:List Sw) (n:Nat):Bool:=rules.any fun r=>(Fc sw r).testBit n
noncomputable def Aq (sw:Sw) (rules:List Sw):List Nat:=(aw (Ak sw).length).filter fun n=>!Fr sw rules n
noncomputable def aj3 (sg:Str) (lo:Nat) (ws:List Str):Prop:=ws.Nodup /\ ∀ z∈ws,1<=z.length/\z.length<=lo /\ ∀ c∈z.cps.toList,c∈sg.cps.toList
structure Rc where
 k:Str
 p:Str
 r:Int
 c:TK
noncomputable def rcT (x:Rc):TK:=.tup [.at_ (.inr x.k),.at_ (.inr x.p),.at_ (.inl x.r),x.c]
noncomputable abbrev Tr:=List (Str×Rc)
noncomputable def RcAt (H:Hp) (a:Addr) (x:Rc):Prop:=∃ v,H a=some (.tup [.str x.k,.str x.p,.int x.r,v])/\TkAt H x.c v
noncomputable def Gy (T:Tr):Prop:=(T.map (·.1)).Nodup/\T.length<=8 /\ ∀ x∈T,Ap x.2.c<=2
noncomputable abbrev kT (e:(Str×Rc)×Addr):Key×V:=(.inr e.1.1,.ref e.2)
noncomputable def TrAt (ok:Addr->Prop) (H:Hp) (d:Addr) (T:Tr):Prop:=∃ es:List ((Str×Rc)×Addr),es.map (·.1)=T/\Own ok H d (.dK (es.map kT)) /\ ∀ e∈es,RcAt H e.2 e.1.2
noncomputable def PlAt (C:Addr) (ok:Addr->Prop) (H:Hp) (p:Addr) (T:Tr):Prop:=∃ dx d,Own ok H p (.ins C dx [("records", .ref d)])/\TrAt ok H d T
noncomputable def Qv (T:Tr) (n:Str):TK:=((T.lookup n).map rcT).getD (.tup [])
noncomputable def vkT (T:Tr):TK:=.tup ((Cs ltS (T.map (·.1))).map fun n=>.tup [.at_ (.inr n),Qv T n])
noncomputable abbrev Gp:=TK×Nat×Nat
noncomputable def Fl (gs:List Gp) (k:TK) (n:Nat):List Gp:=if k∈gs.map (·.1) then gs.map fun g=>if g.1=k then (g.1,g.2.1,g.2.2 ||| 2 ^ n) else g else gs++[(k,n,2 ^ n)]
noncomputable def Dh (f:Nat->TK) (ns:List Nat):List Gp:=ns.foldl (fun gs n=>Fl gs (f n) n) []
noncomputable def D6 (f:Nat->TK) (ns:List Nat):List Nat:=(Dh f ns).map (·.2.2)
structure WorldAt (H:Hp) (W:Addr) (sw:Sw) (rules:List Sw) (l k f:Addr):Prop where
 at_:H W=some (.lst [.ref l,.ref k,.ref f])
 sws:SwIn any H l sw
 ok:okSw sw
 rl:RulesAt any H k rules
 rok:∀ r∈rules,Eb sw r
 few:rules.length<=8
 fr:H f=some (nO (Aq sw rules))
 ne:Aq sw rules≠[]
noncomputable abbrev kF (g:Nat->Addr) (n:Nat):Key×V:=(.inl (n:Int),.ref (g n))
structure FoundAt (H:Hp) (F:Addr) (ns:List Nat) (g:Nat->Addr) (tr:Nat->Tr):Prop where
 at_:H F=some (.dK (ns.map (kF g)))
 one:∀ n∈ns,TrAt any H (g n) (tr n)/\Gy (tr n)
 few:∃ Ts:List Tr,Ts.length<=4 /\ ∀ n∈ns,tr n∈Ts
structure aj6 (C:Addr) (H:Hp) (l:Addr) (ns:List Nat) (tr:Nat->Tr) (rs:List (Nat×Addr×Addr)):Prop where
 nms:rs.map (·.1)=ns
 at_:H l=some (.lst (rs.map fun r=>.ref r.2.1))
 one:∀ r∈rs,H r.2.1=some (.tup [.int ((2 ^ r.1:Nat):Int),.ref r.2.2])/\PlAt C any H r.2.2 (tr r.1)
noncomputable def KeptAt (H:Hp) (D:Addr) (ms:List Nat):Prop:=∃ es:List (Nat×V×Addr),es.map (·.1)=ms/\H D=some (.lst (es.map fun e=>.ref e.2.2)) /\ ∀ e∈es,H e.2.2=some (.tup [.int (e.1:Int),e.2.1])
noncomputable def BookAt (C:Addr) (H:Hp) (b:Addr) (ms:List Nat):Prop:=∃ dx p l,H b=some (.ins C dx [("panel", .ref p),("kept", .ref l)])/\KeptAt H l ms
noncomputable abbrev St0 (H:Hp):Prop:=Wz H 266 4
section
noncomputable def Rh (K:ac) (t:Adr):Sp:=fun vs H Q _=>∃ (a:Addr) (ns:List Nat),vs=[.ref a]/\SqL K H a (ns.map fun n:Nat=>V.int (n:Int))/\(∀ n∈ns,n<=1000)/\Q (.int (Vp ns)) H
noncomputable def M7 (K:ac) (t:Adr):Sp:=fun vs H Q _=>∃ (a:Addr) (ms:List Int),vs=[.ref a]/\SqL K H a (ms.map V.int)/\Q (.int (Fo ms)) H
noncomputable def Z0 (K:ac) (t:Adr):Sp:=fun vs H Q _=>∃ (z:Str) (lo hi:Int),vs=[.str z,.int lo,.int hi]/\z.length<=1000/\Q (.bl (decide (lo<=(z.length:Int))&&decide ((z.length:Int)<=hi))) H
noncomputable def Qz (K:ac) (t:Adr):Sp:=fun vs H Q _=>∃ c,vs=[.str ⟨#[c]⟩]/\Q (.bl (Ic c)) H
noncomputable def M8 (K:ac) (t:Adr):Sp:=fun vs H Q _=>∃ z,vs=[.str z]/\okW z /\ ∀ H',Same H H'->Q (.bl true) H'
noncomputable def To (K:ac) (t:Adr):Sp:=fun vs H Q _=>∃ (a:Addr) (l:List Str),vs=[.ref a]/\SqL K H a (l.map V.str)/\okL l /\ ∀ H',Same H H'->Q (.bl true) H'
noncomputable def Q0 (K:ac) (t:Adr):Sp:=fun vs H Q _=>∃ (a b:Addr) (w:Str) (l:List Str),vs=[.ref a]/\H a=some (.tup [.str w,.ref b])/\H b=some (Be l)/\okW w/\Fe l /\ ∀ H',Same H H'->Q (.bl true) H'
noncomputable def Zu (K:ac) (t:Adr):Sp:=fun vs H Q _=>∃ (a:Addr) (sw:Sw),vs=[.ref a]/\SwIn any H a sw/\okSw sw /\ ∀ H' d,Same H H'->SwAt (fresh H) H' d sw->Q (.ref d) H'
noncomputable def Zs (K:ac) (t:Adr):Sp:=fun vs H Q _=>∃ (d:Addr) (sw:Sw),vs=[.ref d]/\SwAt any H d sw/\okSw sw /\ ∀ H' l,Same H H'->TupsAt (fresh H) H' l (Ak sw)->Q (.ref l) H'
noncomputable def Zo (K:ac) (t:Adr):Sp:=fun vs H Q _=>∃ (l:Addr) (rows:List (List Str)),vs=[.ref l]/\TupsAt any H l rows/\rows.Nodup/\rows.length<=256 /\ ∀ H' n,Same H H'->NumAt (fresh H) H' n rows->Q (.ref n) H'
noncomputable def Zt (K:ac) (t:Adr):Sp:=fun vs H Q _=>∃ (d l:Addr) (sw:Sw),vs=[.ref d,.ref l]/\SwAt any H d sw/\TupsAt any H l (Ak sw)/\okSw sw /\ ∀ H' s,Same H H'->SetsAt (fresh H) H' s sw->Q (.ref s) H'
noncomputable def Zx (K:ac) (t:Adr):Sp:=fun vs H Q _=>∃ (r:Addr) (rule:Sw),vs=[.ref r]/\RuleAt any H r rule/\(rule.map (·.1)).Nodup/\rule.length<=100 /\ ∀ H' c,Same H H'->RuleAt (fresh H) H' c rule->Q (.ref c) H'
noncomputable def am3 (K:ac) (t:Adr):Sp:=fun vs H Q _=>∃ (p l s:Addr) (sw:Sw),vs=[.ref p]/\SelfAt t.c_zbg any H p l s/\TupsAt any H l (Ak sw)/\Q (.int (Ak sw).length) H
noncomputable def al3 (K:ac) (t:Adr):Sp:=fun vs H Q _=>∃ (p l s:Addr) (sw:Sw),vs=[.ref p]/\SelfAt t.c_zbg any H p l s/\TupsAt any H l (Ak sw)/\(Ak sw).length<=256/\Q (.int (Lq sw)) H
noncomputable def am4 (K:ac) (t:Adr):Sp:=fun vs H Q _=>∃ (p a l s:Addr) (w:Str) (ss:List Str) (sw:Sw),vs=[.ref p,.str w,.ref a]/\SelfAt t.c_zbg any H p l s/\SetsAt any H s sw/\okSw sw/\H a=some (Be ss)/\Gx sw (w,ss) /\ ∀ H',Same H H'->Q (.int (Hk sw (w,ss))) H'
noncomputable def al5 (K:ac) (t:Adr):Sp:=fun vs H Q _=>∃ (p r l s:Addr) (sw rule:Sw),vs=[.ref p,.ref r]/\SelfAt t.c_zbg (· ≠ r) H p l s/\TupsAt (· ≠ r) H l (Ak sw)/\SetsAt (· ≠ r) H s sw/\okSw sw/\RuleAt any H r rule/\Eb sw rule /\ ∀ H' c,Same H H'->RuleAt (fresh H) H' c rule->Q (.ref c) H'
noncomputable def Lp (ok:Addr->Prop) (H:Hp) (v:V) (rules:List Sw):Prop:=(v=.non/\rules=[]) \/ ∃ k,v=.ref k/\RulesAt ok H k rules
noncomputable def al4 (K:ac) (t:Adr):Sp:=fun vs H Q _=>∃ (p l s:Addr) (ok:Addr->Prop) (v:V) (sw:Sw) (rules:List Sw),vs=[.ref p,v]/\SelfAt t.c_zbg ok H p l s/\TupsAt ok H l (Ak sw)/\SetsAt ok H s sw/\okSw sw /\
 Lp (fun a=>¬ ok a) H v rules/\(∀ r∈rules,Eb sw r)/\rules.length<=8 /\ ∀ H' k,Same H H'->RulesAt (fresh H) H' k rules->Q (.ref k) H'
noncomputable def am2 (K:ac) (t:Adr):Sp:=fun vs H Q _=>∃ (p a dx:Addr) (v:V) (sw:Sw) (rules:List Sw),vs=[.ref p,.ref a,v]/\H p=some (.ins t.c_zbg dx [])/\SwIn (· ≠ p) H a sw/\okSw sw/\Lp (· ≠ p) H v rules/\(∀ r∈rules,Eb sw r)/\rules.length<=8/\Ja sw rules≠0 /\
 ∀ H',(∀ b o,b≠p->H b=some o->H' b=some o)->PanelAt t.c_zbg (fun b=>b=p\/H b=none) H' p sw rules->Q .non H'
noncomputable def Zq (K:ac) (t:Adr):Sp:=fun vs H Q _=>∃ (p r l s:Addr) (sw rule:Sw),vs=[.ref p,.ref r]/\SelfAt t.c_zbg (· ≠ r) H p l s/\TupsAt (· ≠ r) H l (Ak sw)/\SetsAt (· ≠ r) H s sw/\okSw sw/\RuleAt any H r rule/\okB sw rule /\ ∀ H',Same H H'->Q (.int (W7 sw rule)) H'
noncomputable def al2:Sp:=fun _ _ _ _=>False
noncomputable def am1 (K:ac) (t:Adr):Sp:=al2
noncomputable def al7 (K:ac) (t:Adr):Sp:=fun vs H Q _=>∃ (p:Addr) (sw:Sw) (rules:List Sw),vs=[.ref p]/\PanelAt t.c_zbg any H p sw rules/\Q (.int (Ja sw rules)) H
noncomputable def am5 (K:ac) (t:Adr):Sp:=fun vs H Q _=>∃ p dx,vs=[.ref p]/\H p=some (.ins t.c_zbh dx []) /\ ∀ d,H d=none->d≠p->Q .non (upd (upd H d (.dK [])) p (.ins t.c_zbh dx [("records", .ref d)]))
noncomputable def Zr (K:ac) (t:Adr):Sp:=fun vs H Q _=>∃ (p dx d:Addr) (kvs:List (Key×V)) (n k q:Str) (r:Int) (v:V),vs=[.ref p,.str n,.str k,.str q,.int r,v]/\H p=some (.ins t.c_zbh dx [("records", .ref d)])/\H d=some (.dK kvs)/\kvs.length<=8 /\ ∀ a,H a=none->Q .non (upd (upd H a (.tup [.str k,.str q,.int r,v])) d (.dK (Cq kvs (.inr n) (.ref a))))
noncomputable def am0 (K:ac) (t:Adr):Sp:=fun vs H Q _=>∃ (p:Addr) (T:Tr),vs=[.ref p]/\PlAt t.c_zbh any H p T/\Gy T /\ ∀ l,H l=none->Q (.ref l) (upd H l (Be (Cs ltS (T.map (·.1)))))
noncomputable def al9 (K:ac) (t:Adr):Sp:=fun vs H Q _=>∃ (p:Addr) (T:Tr),vs=[.ref p]/\PlAt t.c_zbh any H p T /\ ∀ H' q,Same H H'->Q (.ref q) H'
noncomputable def al6 (K:ac) (t:Adr):Sp:=fun vs H Q _=>∃ (p:Addr) (T:Tr),vs=[.ref p]/\PlAt t.c_zbh any H p T/\Gy T /\ ∀ H' b,Same H H'->TkAt H' (vkT T) (.ref b)->Q (.ref b) H'
noncomputable def Rg (K:ac) (t:Adr):Sp:=fun vs H Q _=>∃ c n:Nat,vs=[.int (c:Int),.int (n:Int)]/\Q (.bl (c.testBit n)) H
noncomputable def Zw (K:ac) (t:Adr):Sp:=fun vs H Q _=>∃ c n:Nat,vs=[.int (c:Int)]/\c.testBit n=true/\(∀ j,j<n->c.testBit j=false)/\c<2 ^ 1000/\Q (.int (n:Int)) H
noncomputable def Q9 (K:ac) (t:Adr):Sp:=fun vs H Q _=>∃ (b:Addr) (es:List (Gp×V×Addr)),vs=[.ref b]/\St0 H/\H b=some (.lst (es.map fun e=>.ref e.2.2))/\es.length<64/\(es.map (·.1.2.1)).Pairwise (· < ·)/\(∀ e∈es,H e.2.2=some (.tup [.int (e.1.2.2:Int),e.2.1])/\e.1.2.2.testBit e.1.2.1=true/\(∀ j,j<e.1.2.1->e.1.2.2.testBit j=false)/\e.1.2.2<2 ^ 1000) /\ ∀ H' D,Ng 266 H H'->H' D=some (.lst (es.map fun e=>.ref e.2.2))->Q (.ref D) H'
noncomputable def Q3 (K:ac) (t:Adr):Sp:=fun vs H Q _=>∃ (A:Nat) (l:Addr) (ns:List Nat) (tr:Nat->Tr) (rs:List (Nat×Addr×Addr)),vs=[.int (A:Int),.ref l]/\St0 H/\aj6 t.c_zbh H l ns tr rs/\(∀ n∈ns,Gy (tr n)/\A.testBit n=true/\n<256)/\ns.Pairwise (· < ·)/\(∃ Ts:List Tr,Ts.length<=4 /\ ∀ n∈ns,tr n∈Ts) /\ ∀ H' D,Ng 266 H H'->KeptAt H' D (D6 (fun n=>vkT (tr n)) ns)->Q (.ref D) H'
noncomputable def Zp (K:ac) (t:Adr):Sp:=fun vs H Q _=>∃ (b p dx:Addr) (sw:Sw) (rules:List Sw),vs=[.ref b,.ref p]/\H b=some (.ins t.c_zbi dx [])/\PanelAt t.c_zbg (· ≠ b) H p sw rules /\ ∀ H' l,(∀ a o,a≠b->H a=some o->H' a=some o)->H' b=some (.ins t.c_zbi dx [("panel", .ref p),("kept", .ref l)])->KeptAt H' l [B5 sw rules]->Q .non H'
noncomputable def al8 (K:ac) (t:Adr):Sp:=fun vs H Q _=>∃ (b:Addr) (ms:List Nat),vs=[.ref b]/\BookAt t.c_zbi H b ms/\ms.length<=100 /\ ∀ H' l,Same H H'->H l=none->H' l=some (nO ms)->Q (.ref l) H'
noncomputable def Q8 (K:ac) (t:Adr):Sp:=fun vs H Q _=>∃ (p l:Addr) (sw:Sw) (rules:List Sw) (ns:List Nat) (tr:Nat->Tr) (rs:List (Nat×Addr×Addr)),vs=[.ref p,.ref l]/\St0 H/\PanelAt t.c_zbg any H p sw rules/\aj6 t.c_zbh H l ns tr rs/\(∀ n∈ns,Gy (tr n)/\(B5 sw rules).testBit n=true/\n<256)/\ns.Pairwise (· < ·)/\(∃ Ts:List Tr,Ts.length<=4 /\ ∀ n∈ns,tr n∈Ts) /\ ∀ H' b,Ng 266 H H'->BookAt t.c_zbi H' b (D6 (fun n=>vkT (tr n)) ns)->Q (.ref b) H'
noncomputable def Ec (K:ac) (t:Adr):Sp:=fun vs H Q _=>∃ (a:Addr) (ns:List Int) (k:Nat),vs=[.ref a,.int k]/\SqL K H a (ns.map V.int)/\Q (.int (B4 ns k)) H
noncomputable def Bj (K:ac) (t:Adr):Sp:=fun vs H Q _=>∃ c k:Int,vs=[.int c,.int k]/\0<=k/\Q (.int (Bi c k)) H
noncomputable def J4 (K:ac) (t:Adr):Sp:=fun vs H Q _=>∃ (c:Int) (sg:Str) (lo m:Nat),vs=[.int c,.str sg,.int lo,.int m]/\1<=lo/\lo<=12/\m<=sg.length/\1<=sg.length/\sg.length<=100/\sg.cps.toList.Nodup /\ ∀ H' l ws,Same H H'->H l=none->H' l=some (Be ws)->ws.length=m->aj3 sg lo ws->Q (.ref l) H'
noncomputable def Zv (K:ac) (t:Adr):Sp:=fun vs H Q _=>∃ (c:Int) (m:Nat),vs=[.int c,.int m]/\4<=m/\m<=256 /\ ∀ H' l sw,Same H H'->SwIn any H' l sw->okSw sw->Q (.ref l) H'
noncomputable def M5 (K:ac) (t:Adr):Sp:=fun vs H Q _=>∃ (l:Addr) (sw:Sw),vs=[.ref l]/\SwIn any H l sw/\okSw sw/\Q (.int (Ak sw).length) H
noncomputable def Q6 (K:ac) (t:Adr):Sp:=fun vs H Q _=>∃ (c:Int) (l:Addr) (sw:Sw),vs=[.int c,.ref l]/\SwIn any H l sw/\okSw sw /\ ∀ H' k rules,Same H H'->RulesAt any H' k rules->(∀ r∈rules,Eb sw r)->rules.length<=3->Q (.ref k) H'
noncomputable def Tp (K:ac) (t:Adr):Sp:=fun vs H Q _=>∃ (l:Addr) (n:Nat) (sw:Sw),vs=[.ref l,.int (n:Int)]/\SwIn any H l sw/\okSw sw /\ ∀ H' r,Same H H'->H' r=some (nO (Mb sw n))->Q (.ref r) H'
noncomputable def Z1 (K:ac) (t:Adr):Sp:=fun vs H Q _=>∃ (l k:Addr) (n:Nat) (sw:Sw) (rules:List Sw),vs=[.ref l,.ref k,.int (n:Int)]/\SwIn any H l sw/\okSw sw/\RulesAt any H k rules/\(∀ r∈rules,Eb sw r)/\n<(Ak sw).length /\ ∀ H',Same H H'->Q (.bl (Fr sw rules n)) H'
noncomputable def Q7 (K:ac) (t:Adr):Sp:=fun vs H Q _=>∃ (c:Int) (m:Nat),vs=[.int c,.int m]/\4<=m/\m<=256 /\ ∀ H' W sw rules l k f,Same H H'->WorldAt H' W sw rules l k f->Q (.ref W) H'
noncomputable def M6 (K:ac) (t:Adr):Sp:=fun vs H Q _=>∃ c:Int,vs=[.int c] /\ ∀ H' (z:Str),Same H H'->z.length<=60->Q (.str z) H'
noncomputable def Zy (K:ac) (t:Adr):Sp:=fun vs H Q _=>∃ (k:Str) (c:Int),vs=[.str k,.int c] /\ ∀ H' x v,Same H H'->TkAt H' x v->Ap x<=2->Q v H'
noncomputable def Re (K:ac) (t:Adr):Sp:=fun vs H Q _=>∃ (c:Int) (v:Nat) (l:Addr) (ws:List Str),vs=[.int c,.int (v:Int),.ref l]/\H l=some (Be ws)/\ws.Nodup/\ws.length<=8 /\ ∀ H' d T,Same H H'->TrAt any H' d T->Gy T->Q (.ref d) H'
noncomputable def Q4 (K:ac) (t:Adr):Sp:=fun vs H Q _=>∃ (c:Int) (m:Nat),vs=[.int c,.int m]/\m<=8 /\ ∀ H' l ws,Same H H'->H' l=some (Be ws)->ws.length=m->ws.Nodup->Q (.ref l) H'
noncomputable def Zz (K:ac) (t:Adr):Sp:=fun vs H Q _=>∃ (c:Int) (l:Addr) (sw:Sw) (n m:Nat),vs=[.int c,.ref l,.int (n:Int),.int (m:Int)]/\SwIn any H l sw/\okSw sw/\1<=m /\ ∀ H' (v:Nat),Same H H'->v<m->Q (.int (v:Int)) H'
noncomputable def Rb (K:ac) (t:Adr):Sp:=fun vs H Q _=>∃ (a:Addr) (ns:List Int) (b:Bool),vs=[.ref a,.bl b]/\SqL K H a (ns.map V.int) /\ ∀ H' L W nm F sw rules l k f g tr,Same H H'->H' L=some (.lst [.ref W,nm,.ref F])->WorldAt H' W sw rules l k f->FoundAt H' F (Aq sw rules) g tr->Q (.ref L) H'
noncomputable def Q5 (K:ac) (t:Adr):Sp:=fun vs H Q _=>∃ (d:Addr) (T:Tr),vs=[.ref d]/\TrAt any H d T/\Gy T /\ ∀ H' p,Same H H'->PlAt t.c_zbh any H' p T->Q (.ref p) H'
noncomputable def Ra (K:ac) (t:Adr):Sp:=fun vs H Q _=>∃ (W F l k f:Addr) (sw:Sw) (rules:List Sw) (g:Nat->Addr) (tr:Nat->Tr),vs=[.ref W,.ref F]/\St0 H/\WorldAt H W sw rules l k f/\FoundAt H F (Aq sw rules) g tr /\ ∀ H' b,Ng 266 H H'->BookAt t.c_zbi H' b (D6 (fun n=>vkT (tr n)) (Aq sw rules))->Q (.ref b) H'
noncomputable def Rf (K:ac) (t:Adr):Sp:=fun vs H Q _=>∃ (F:Addr) (ns:List Nat) (g:Nat->Addr) (tr:Nat->Tr),vs=[.ref F]/\FoundAt H F ns g tr/\ns.Pairwise (· < ·)/\(∀ n∈ns,n<256) /\ ∀ H' l,Same H H'->H' l=some (nO (D6 (fun n=>vkT (tr n)) ns))->Q (.ref l) H'
noncomputable def J3 (K:ac) (t:Adr):Sp:=fun vs H Q _=>∃ (a b:Addr) (ms:List Nat),vs=[.ref a,.ref b]/\H a=some (nO ms)/\H b=some (nO ms)/\a≠b/\ms.length<=100 /\ ∀ H',(∀ c o,c≠a->H c=some o->H' c=some o)->Q (.bl true) H'
noncomputable def M9 (K:ac) (t:Adr):Sp:=fun vs H Q _=>∃ (a:Addr) (ns:List Int),vs=[.ref a]/\SqL K H a (ns.map V.int)/\ns.length<=63/\St0 H /\ ∀ H',Q (.bl true) H'
end
end K33
set_option maxHeartbeats 4000000
namespace K33
open PySem L2
noncomputable def top (i:Nat):Stmt:=PySem.Challenge.pw_manyleaf_k33_different_books.main.body.getD i (.Pass ⟨0,0,0,0⟩)
noncomputable def bl:List Str:=["all", "bool", "dict", "enumerate", "int", "isinstance", "len", "list", "range", "reversed", "set", "sorted", "str", "sum", "tuple"]
noncomputable abbrev D_zw:Df:=⟨"__init__", "Plain.__init__", Bk (top 7) 0,["self"],1,1⟩
noncomputable abbrev ao0:Df:=⟨"allowed", "Panel.allowed", Bk (top 29) 10,["self"],1,1⟩
noncomputable abbrev D_zaa:Df:=⟨"__init__", "Book.__init__", Bk (top 20) 0,["self", "panel"],2,3⟩
noncomputable abbrev ao2:Df:=⟨"classes", "Book.classes", Bk (top 20) 9,["self"],1,1⟩
noncomputable abbrev Wp:Df:=⟨"union_of", "union_of", top 12,["sets", "choices", "one"],1,1⟩
noncomputable abbrev ap1:Df:=⟨"many", "Panel.many", Bk (top 29) 3,["self"],1,1⟩
noncomputable abbrev an4:Df:=⟨"all_choices", "Panel.all_choices", Bk (top 29) 9,["self"],1,2⟩
noncomputable abbrev ap3:Df:=⟨"has_length", "has_length", top 17,["thing", "least", "greatest"],3,1⟩
noncomputable abbrev V9:Df:=⟨"is_letter", "is_letter", top 18,["sign"],1,1⟩
noncomputable abbrev Wq:Df:=⟨"is_word", "is_word", top 16,["thing"],1,2⟩
noncomputable abbrev an6:Df:=⟨"are_unlike_words", "are_unlike_words", top 30,["things"],1,3⟩
noncomputable abbrev ap2:Df:=⟨"term", "Panel.term", Bk (top 29) 12,["self", "word", "settings"],3,4⟩
noncomputable abbrev V7:Df:=⟨"box", "Panel.box", Bk (top 29) 11,["self", "terms", "choices", "word"],2,5⟩
noncomputable abbrev ao7:Df:=⟨"copied_rule", "copied_rule", top 36,["rule", "copied", "word"],1,1⟩
noncomputable abbrev an8:Df:=⟨"read_rule", "Panel.read_rule", Bk (top 29) 2,["self", "rule"],2,6⟩
noncomputable abbrev an5:Df:=⟨"read_rules", "Panel.read_rules", Bk (top 29) 1,["self", "rules"],2,7⟩
noncomputable abbrev Wa:Df:=⟨"is_switch", "is_switch", top 32,["switch"],1,4⟩
noncomputable abbrev ao1:Df:=⟨"read_switches", "read_switches", top 31,["switches", "settings", "many", "switch"],1,5⟩
noncomputable abbrev an3:Df:=⟨"settings_of_choices", "settings_of_choices", top 33,["settings", "tuples", "word", "longer", "ahead"],1,1⟩
noncomputable abbrev an2:Df:=⟨"numbers_by_settings", "numbers_by_settings", top 34,["tuples", "numbers", "number", "told"],1,1⟩
noncomputable abbrev Wu:Df:=⟨"set_of", "set_of", top 11,["numbers", "choices", "number"],1,1⟩
noncomputable abbrev an7:Df:=⟨"sets_of_settings", "sets_of_settings", top 35,["settings", "tuples", "sets", "place", "word", "setting", "having"],2,2⟩
noncomputable abbrev D_zt:Df:=⟨"__init__", "Panel.__init__", Bk (top 29) 0,["self", "switches", "rules"],3,8⟩
noncomputable abbrev Wl:Df:=⟨"_law_cell", "_law_cell", top 38,["_law_script", "_law_k"],2,1⟩
noncomputable abbrev Ws:Df:=⟨"_law_mix", "_law_mix", top 39,["_law_cell_here", "_law_k", "_law_left", "_law_number"],2,1⟩
noncomputable abbrev Wg:Df:=⟨"_law_spelt", "_law_spelt", top 40,["_law_cell_here", "_law_signs", "_law_longest", "_law_many", "_law_word", "_law_k", "_law_long", "_law_at", "_law_words", "_law_steps"],4,2⟩
noncomputable abbrev ao4:Df:=⟨"_law_switches", "_law_switches", top 41,["_law_cell_here", "_law_most", "_law_letters", "_law_words", "_law_switches_here", "_law_total_here", "_law_k", "_law_size"],2,3⟩
noncomputable abbrev Wh:Df:=⟨"_law_total", "_law_total", top 43,["_law_switches_here", "_law_total_here", "_law_word", "_law_settings"],1,1⟩
noncomputable abbrev Wf:Df:=⟨"_law_rules", "_law_rules", top 44,["_law_cell_here", "_law_switches_here", "_law_rules_here", "_law_j", "_law_rule", "_law_k", "_law_word", "_law_settings", "_law_bits", "_law_some"],2,2⟩
noncomputable abbrev ap5:Df:=⟨"_law_digits", "_law_digits", top 42,["_law_switches_here", "_law_number", "_law_found", "_law_word", "_law_settings"],2,1⟩
noncomputable abbrev ap4:Df:=⟨"_law_barred", "_law_barred", top 45,["_law_switches_here", "_law_rules_here", "_law_number", "_law_digits_here", "_law_rule", "_law_inside"],3,2⟩
noncomputable abbrev Wi:Df:=⟨"_law_world", "_law_world", top 46,["_law_cell_here", "_law_most", "_law_switches_here", "_law_rules_here", "_law_free"],2,4⟩
noncomputable abbrev Wn:Df:=⟨"_law_text", "_law_text", top 47,["_law_cell_here", "_law_signs", "_law_long"],1,2⟩
noncomputable abbrev ao8:Df:=⟨"_law_content", "_law_content", top 48,["_law_kind", "_law_cell_here", "_law_wide", "_law_rows", "_law_row"],2,3⟩
noncomputable abbrev Wo:Df:=⟨"_law_tree", "_law_tree", top 49,["_law_cell_here", "_law_variant_here", "_law_names_here", "_law_tree_here", "_law_k", "_law_name", "_law_number", "_law_kind", "_law_holders", "_law_rank"],3,4⟩
noncomputable abbrev Wd:Df:=⟨"_law_names", "_law_names", top 50,["_law_cell_here", "_law_many"],2,3⟩
noncomputable abbrev ao9:Df:=⟨"_law_variant", "_law_variant", top 51,["_law_cell_here", "_law_switches_here", "_law_number", "_law_many"],4,2⟩
noncomputable abbrev Wm:Df:=⟨"_law_made", "_law_made", top 53,["_law_script", "_law_much", "_law_world_here", "_law_names_here", "_law_many", "_law_trees", "_law_found", "_law_number"],2,5⟩
noncomputable abbrev ao3:Df:=⟨"copied", "Plain.copied", Bk (top 7) 19,["self", "twin"],1,3⟩
noncomputable abbrev ao6:Df:=⟨"names", "Plain.names", Bk (top 7) 8,["self"],1,1⟩
noncomputable abbrev ap0:Df:=⟨"names", "Book.names", Bk (top 20) 3,["self", "names", "choices", "plain", "name"],1,2⟩
noncomputable abbrev an9:Df:=⟨"value_key", "Plain.value_key", Bk (top 7) 21,["self"],1,3⟩
noncomputable abbrev Wt:Df:=⟨"in_set", "in_set", top 9,["choices", "number"],2,1⟩
noncomputable abbrev ao5:Df:=⟨"least_choice", "least_choice", top 10,["choices", "number"],1,2⟩
noncomputable abbrev D_zao:Df:=⟨"in_order", "in_order", top 13,["pairs"],1,6⟩
noncomputable abbrev Wb:Df:=⟨"kept_rows", "kept_rows", top 22,["allowed", "rows", "sets", "plains", "choices", "plain", "key"],2,7⟩
noncomputable abbrev Wj:Df:=⟨"gathered", "gathered", top 21,["panel", "rows", "book"],2,8⟩
noncomputable abbrev V8:Df:=⟨"lay", "Plain.lay", Bk (top 7) 17,["self", "name", "kind", "parent", "rank", "content"],6,1⟩
noncomputable abbrev We:Df:=⟨"_law_plain", "_law_plain", top 52,["_law_tree_here", "_law_plain_here", "_law_name", "_law_kind", "_law_parent", "_law_rank", "_law_content_here"],1,3⟩
noncomputable abbrev Wk:Df:=⟨"_law_book", "_law_book", top 54,["_law_world_here", "_law_found", "_law_switches_here", "_law_rules_here", "_law_free", "_law_panel", "_law_rows", "_law_number"],2,10⟩
noncomputable abbrev Wr:Df:=⟨"_law_due", "_law_due", top 55,["_law_found", "_law_trees", "_law_masks_here", "_law_number", "_law_there"],1,1⟩
noncomputable abbrev Wc:Df:=⟨"_law_masks", "_law_masks", top 56,["_law_told", "_law_due_here", "_law_good"],2,1⟩
noncomputable abbrev D_zba:Df:=⟨"law", "law", top 57,["_law_script", "_law_world_here", "_law_names_here", "_law_found", "_law_book_here", "_law_due_here", "_law_free", "_law_panel"],1,11⟩
section
variable (K:ac) (t:Adr)
noncomputable abbrev ar9:FI:=Fy ao3 (t.m_zbh 0) (t.e_zbh 0) (al9 K t)
noncomputable abbrev Xt:FI:=Fy V8 (t.m_zbh 1) (t.e_zbh 1) (Zr K t)
noncomputable abbrev as0:FI:=Fy ao6 (t.m_zbh 2) (t.e_zbh 2) (am0 K t)
noncomputable abbrev ar8:FI:=Fy an9 (t.m_zbh 3) (t.e_zbh 3) (al6 K t)
noncomputable abbrev Xu:FI:=Fy ao2 (t.m_zbi 0) (t.e_zbi 0) (al8 K t)
noncomputable abbrev a57:FI:=Fy ap0 (t.m_zbi 1) (t.e_zbi 1) (am1 K t)
noncomputable abbrev ad1:FI:=Fy an4 (t.m_zbg 0) (t.e_zbg 0) (al3 K t)
noncomputable abbrev ad2:FI:=Fy ao0 (t.m_zbg 1) (t.e_zbg 1) (al7 K t)
noncomputable abbrev Sh:FI:=Fy V7 (t.m_zbg 2) (t.e_zbg 2) (Zq K t)
noncomputable abbrev as1:FI:=Fy ap1 (t.m_zbg 3) (t.e_zbg 3) (am3 K t)
noncomputable abbrev ar7:FI:=Fy an8 (t.m_zbg 4) (t.e_zbg 4) (al5 K t)
noncomputable abbrev ar6:FI:=Fy an5 (t.m_zbg 5) (t.e_zbg 5) (al4 K t)
noncomputable abbrev as2:FI:=Fy ap2 (t.m_zbg 6) (t.e_zbg 6) (am4 K t)
noncomputable def ad3:FI:=⟨t.f_zw,t.d_zw,D_zw.ps,1,am5 K t,[],[]⟩
noncomputable def Xs:FI:=⟨t.f_zaa,t.d_zaa,D_zaa.ps,3,Zp K t,[],[]⟩
noncomputable def Xv:FI:=⟨t.f_zt,t.d_zt,D_zt.ps,8,am2 K t,[.non],t.du_zt⟩
noncomputable def C4:List MI:=[⟨t.c_zbg,ad1 K t⟩]
noncomputable def Fj:List MI:=[⟨t.c_zbg,ad2 K t⟩]
noncomputable def Qi:List MI:=[⟨t.c_zbg,Sh K t⟩]
noncomputable def D8:List MI:=[⟨t.c_zbi,Xu K t⟩]
noncomputable def Ld:List MI:=[⟨t.c_zbh,ar9 K t⟩]
noncomputable def Ya:List MI:=[⟨t.c_zbh,Xt K t⟩]
noncomputable def Sn:List MI:=[⟨t.c_zbg,as1 K t⟩]
noncomputable def Jq:List MI:=[⟨t.c_zbh,as0 K t⟩,⟨t.c_zbi,a57 K t⟩]
noncomputable def F5:List MI:=[⟨t.c_zbg,ar7 K t⟩]
noncomputable def Fd:List MI:=[⟨t.c_zbg,ar6 K t⟩]
noncomputable def So:List MI:=[⟨t.c_zbg,as2 K t⟩]
noncomputable def F6:List MI:=[⟨t.c_zbh,ar8 K t⟩]
noncomputable def cons:List (Str×V):=[("__builtins__", .ref 4),("MOST_SWITCHES", (.int 5)),("LEAST_SETTINGS", (.int 2)),("MOST_SETTINGS", (.int 4)),("MOST_CHOICES", (.int 256)),("MOST_RULES", (.int 8))]
noncomputable def fns:List (Df×Sp):=[(Wp,M7 K t),(ap3,Z0 K t),(V9,Qz K t),(Wq,M8 K t),(an6,To K t),(ao7,Zx K t),(Wa,Q0 K t),(ao1,Zu K t),(an3,Zs K t),(an2,Zo K t),(Wu,Rh K t),(an7,Zt K t),(Wl,Ec K t),(Ws,Bj K t),(Wg,J4 K t),(ao4,Zv K t),(Wh,M5 K t),(Wf,Q6 K t),(ap5,Tp K t),(ap4,Z1 K t),(Wi,Q7 K t),(Wn,M6 K t),(ao8,Zy K t),(Wo,Re K t),(Wd,Q4 K t),(ao9,Zz K t),(Wm,Rb K t),(Wt,Rg K t),(ao5,Zw K t),(D_zao,Q9 K t),(Wb,Q3 K t),(Wj,Q8 K t),(We,Q5 K t),(Wk,Ra K t),(Wr,Rf K t),(Wc,J3 K t)]
noncomputable def A3:List Ent:=[⟨2, "Plain", .cls t.c_zbh (some (ad3 K t))⟩,⟨0, "Plain", .val (.ref t.c_zbh) (.ref t.c_zbh)⟩,⟨4, "Book", .cls t.c_zbi (some (Xs K t))⟩,⟨0, "Book", .val (.ref t.c_zbi) (.ref t.c_zbi)⟩,⟨9, "Panel", .cls t.c_zbg (some (Xv K t))⟩,⟨0, "Panel", .val (.ref t.c_zbg) (.ref t.c_zbg)⟩,⟨2, "", .met "all_choices" (C4 K t)⟩,⟨1, "", .met "allowed" (Fj K t)⟩,⟨5, "", .met "box" (Qi K t)⟩,⟨1, "", .met "classes" (D8 K t)⟩,⟨3, "", .met "copied" (Ld K t)⟩,⟨1, "", .met "lay" (Ya K t)⟩,⟨1, "", .met "many" (Sn K t)⟩,⟨2, "", .met "names" (Jq K t)⟩,⟨6, "", .met "read_rule" (F5 K t)⟩,⟨7, "", .met "read_rules" (Fd K t)⟩,⟨4, "", .met "term" (So K t)⟩,⟨3, "", .met "value_key" (F6 K t)⟩]++(aq7 t.u 0 cons++fnE t.f t.d 0 (fns K t))
end
noncomputable def bk6 (K:ac) (t:Adr):DS:=
 (Ae (Fu K "records" (Ab 0) Db)
 Ag)
noncomputable def bj3 (K:ac) (t:Adr):DS:=
 (Ae (Aw (dUn (B6 K "free") (Ab 0)))
 Ag)
noncomputable def bb9 (K:ac) (t:Adr):DS:=
 (Ae (Fu K "panel" (Ab 0) (Ab 1))
 (Ae (Fu K "kept" (Ab 0) (B9 (Ac (Fg (Ac (Dk "allowed" 0 (Fj K t) (Ab 1) Af) (Ac (dFn (mkC t.c_zbh (some (ad3 K t)) 0) Af) Af))) Af)))
 Ag))
noncomputable def bj5 (K:ac) (t:Adr):DS:=
 (Ae (Aw (Bc [none,none] (Bt K (dUn (B6 K "kept") (Ab 0))) (gdT K 2 [(gdN 0),(gdN 1)]) B3 (Ab 0)))
 Ag)
noncomputable def bd8 (K:ac) (t:Adr):DS:=
 (Ae (Ao 1 (dC (.int 0)))
 (Ae (Ce (Bt K (Ab 0)) (gdN 2) (Ae (Ao 1 (Ah ah6 (Ab 1) (Ab 2)))
  Ag))
 (Ae (Aw (Ab 1))
 Ag)))
noncomputable def bk4 (K:ac) (t:Adr):DS:=
 (Ae (Aw (dFn (fun vs H Q _=>(Di K) vs H Q) (Ac (dUn (B6 K "tuples") (Ab 0)) Af)))
 Ag)
noncomputable def bi7 (K:ac) (t:Adr):DS:=
 (Ae (Aw (Ah Zg (Ah J0 (dC (.int 1)) (Dk "many" 0 (Sn K t) (Ab 0) Af)) (dC (.int 1))))
 Ag)
noncomputable def bk7 (K:ac) (t:Adr):DS:=
 (Ae (Aw (Nq K (dFn (fun vs H Q _=>(F7 K) vs H Q) (Ac (Ab 0) (Ac (dC (.ty "str")) Af))) (Dz G3 G3 (Ab 1) (dFn (fun vs H Q _=>(Di K) vs H Q) (Ac (Ab 0) Af)) (Ab 2))))
 Ag)
noncomputable def am8 (K:ac) (t:Adr):DS:=
 (Ae (Aw (Dz G3 G3 (dC (.str "a")) (Ab 0) (dC (.str "z"))))
 Ag)
noncomputable def bd9 (K:ac) (t:Adr):DS:=
 (Ae (Aw (Nq K (dFn (spE (Z0 K t) []) (Ac (Ab 0) (Ac (dC (.int 1)) (Ac (dC (.int 8)) Af)))) (dFn (fun vs H Q _=>(Oo K) vs H Q) (Ac (Bc [none] (Bt K (Ab 0)) (gdN 0) B3 (dFn (spE (Qz K t) []) (Ac (Ab 0) Af))) Af))))
 Ag)
noncomputable def bi9 (K:ac) (t:Adr):DS:=
 (Ae (dIf (dOr (Dj (Da K (dFn (fun vs H Q _=>(F7 K) vs H Q) (Ac (Ab 0) (Ac (dC (.ty "list")) Af))))) (Dj (Da K (dFn (fun vs H Q _=>(Oo K) vs H Q) (Ac (Bc [none] (Bt K (Ab 0)) (gdN 0) B3 (dFn (spE (M8 K t) []) (Ac (Ab 0) Af))) Af))))) (Ae (Aw (dC (.bl false)))
  Ag) Ag)
 (Ae (Aw (Ah (B8 K false) (dUn (Ii K) (Ab 0)) (dFn (fun vs H Q _=>(Di K) vs H Q) (Ac (Ab 0) Af))))
 Ag))
noncomputable def bk5 (K:ac) (t:Adr):DS:=
 (Ae (dIf (dOr (Dj (Da K (dFn (fun vs H Q _=>(F7 K) vs H Q) (Ac (Ab 1) (Ac (dC (.ty "str")) Af))))) (Bp (Ah (Vj K true) (Ab 1) (dUn (B6 K "sets") (Ab 0))))) (Ae Bd
  Ag) Ag)
 (Ae (dIf (dOr (Dj (Da K (dFn (spE (To K t) []) (Ac (Ab 2) Af)))) (Bp (Ah (B8 K false) (Ab 2) (B9 Af)))) (Ae Bd
  Ag) Ag)
 (Ae (dIf (Dj (Da K (dFn (fun vs H Q _=>(Oo K) vs H Q) (Ac (Bc [none,some 0,some 1] (Bt K (Ab 2)) (gdN 0) B3 (Ah (Vj K false) (Ab 0) (Ah (A5 K) (dUn (B6 K "sets") (Ab 1)) (Ab 2)))) Af)))) (Ae Bd
  Ag) Ag)
 (Ae (Aw (dFn (spE (M7 K t) []) (Ac (Bc [none,some 0,some 1] (Bt K (Ab 2)) (gdN 0) B3 (Ah (A5 K) (Ah (A5 K) (dUn (B6 K "sets") (Ab 1)) (Ab 2)) (Ab 0))) Af)))
 Ag))))
noncomputable def bc0 (K:ac) (t:Adr):DS:=
 (Ae (dIf (Dj (Da K (dFn (fun vs H Q _=>(F7 K) vs H Q) (Ac (Ab 1) (Ac (dC (.ty "dict")) Af))))) (Ae Bd
  Ag) Ag)
 (Ae (Ao 2 (Dk "all_choices" 0 (C4 K t) (Ab 0) Af))
 (Ae (Ce (Bt K (Ab 1)) (gdN 3) (Ae (Ao 2 (Ah Hi (Ab 2) (Dk "term" 2 (So K t) (Ab 0) (Ac (Ab 3) (Ac (Ah (A5 K) (Ab 1) (Ab 3)) Af)))))
  Ag))
 (Ae (Aw (Ab 2))
 Ag))))
noncomputable def bk0 (K:ac) (t:Adr):DS:=
 (Ae (Ao 1 Db)
 (Ae (Ce (Bt K (Ab 0)) (gdN 2) (Ae (Ej (dFn (fun vs H Q _=>(Jy K true) vs H Q) (Ac (Ah (A5 K) (Ab 0) (Ab 2)) Af)) (Cc K (Ab 1) (Ab 2)))
  Ag))
 (Ae (Aw (Ab 1))
 Ag)))
noncomputable def bj1 (K:ac) (t:Adr):DS:=
 (Ae (dIf (dOr (Dj (Da K (dFn (fun vs H Q _=>(F7 K) vs H Q) (Ac (Ab 1) (Ac (dC (.ty "dict")) Af))))) (Bp (Ah (B8 K false) (dFn (fun vs H Q _=>(Di K) vs H Q) (Ac (Ab 1) Af)) (dC (.int 0))))) (Ae Bd
  Ag) Ag)
 (Ae (Xh (Ae (Dc (Dk "box" 1 (Qi K t) (Ab 0) (Ac (Ab 1) Af)))
  Ag))
 (Ae (Aw (dFn (spE (Zx K t) []) (Ac (Ab 1) Af)))
 Ag)))
noncomputable def bi8 (K:ac) (t:Adr):DS:=
 (Ae (dIf (Bp (Ah (a23 false) (Ab 1) (dC .non))) (Ae (Aw (B9 Af))
  Ag) Ag)
 (Ae (dIf (dOr (Dj (Da K (dFn (fun vs H Q _=>(F7 K) vs H Q) (Ac (Ab 1) (Ac (dC (.ty "list")) Af))))) (Bp (Ah Vi (dFn (fun vs H Q _=>(Di K) vs H Q) (Ac (Ab 1) Af)) (dC (.int 8))))) (Ae Bd
  Ag) Ag)
 (Ae (Aw (Bc [none,some 0] (Bt K (Ab 1)) (gdN 0) B3 (Dk "read_rule" 1 (F5 K t) (Ab 1) (Ac (Ab 0) Af))))
 Ag)))
noncomputable def bc2 (K:ac) (t:Adr):DS:=
 (Ae (dIf (dOr (Dj (Da K (dFn (fun vs H Q _=>(F7 K) vs H Q) (Ac (Ab 0) (Ac (dC (.ty "tuple")) Af))))) (dOr (Bp (Ah (B8 K true) (dFn (fun vs H Q _=>(Di K) vs H Q) (Ac (Ab 0) Af)) (dC (.int 2)))) (Dj (Da K (dFn (spE (M8 K t) []) (Ac (Ah (A5 K) (Ab 0) (dC (.int 0))) Af)))))) (Ae (Aw (dC (.bl false)))
  Ag) Ag)
 (Ae (Aw (Nq K (dFn (spE (To K t) []) (Ac (Ah (A5 K) (Ab 0) (dC (.int 1))) Af)) (Dz G3 G3 (dC (.int 2)) (dFn (fun vs H Q _=>(Di K) vs H Q) (Ac (Ah (A5 K) (Ab 0) (dC (.int 1))) Af)) (dC (.int 4)))))
 Ag))
noncomputable def bj4 (K:ac) (t:Adr):DS:=
 (Ae (dIf (dOr (Dj (Da K (dFn (fun vs H Q _=>(F7 K) vs H Q) (Ac (Ab 0) (Ac (dC (.ty "list")) Af))))) (Dj (Bp (Dz G3 G3 (dC (.int 1)) (dFn (fun vs H Q _=>(Di K) vs H Q) (Ac (Ab 0) Af)) (dC (.int 5)))))) (Ae Bd
  Ag) Ag)
 (Ae (Ao 1 Db)
 (Ae (Ao 2 (dC (.int 1)))
 (Ae (Ce (Bt K (Ab 0)) (gdN 3) (Ae (dIf (dOr (Dj (Da K (dFn (spE (Q0 K t) []) (Ac (Ab 3) Af)))) (Bp (Ah (Vj K false) (Ah (A5 K) (Ab 3) (dC (.int 0))) (Ab 1)))) (Ae Bd
   Ag) Ag)
  (Ae (Ej (dFn (fun vs H Q _=>(Fm K) vs H Q) (Ac (Ah (A5 K) (Ab 3) (dC (.int 1))) Af)) (Cc K (Ab 1) (Ah (A5 K) (Ab 3) (dC (.int 0)))))
  (Ae (Ao 2 (Ah (Ct K) (Ab 2) (dFn (fun vs H Q _=>(Di K) vs H Q) (Ac (Ah (A5 K) (Ab 3) (dC (.int 1))) Af))))
  Ag))))
 (Ae (dIf (Bp (Ah Vi (Ab 2) (dC (.int 256)))) (Ae Bd
  Ag) Ag)
 (Ae (Aw (Ab 1))
 Ag))))))
noncomputable def bi6 (K:ac) (t:Adr):DS:=
 (Ae (Ao 1 (B9 (Ac (Fg Af) Af)))
 (Ae (Ce (Bt K (Ab 0)) (gdN 2) (Ae (Ao 3 (B9 Af))
  (Ae (Ce (Bt K (Ab 1)) (gdN 4) (Ae (Dc (dMt (rMt K [⟨"list", "list.extend", Ig⟩]) (Ab 3) (Ac (Bc [none,some 4] (Bt K (Ah (A5 K) (Ab 0) (Ab 2))) (gdN 0) B3 (Ah (A9 K) (Ab 1) (Fg (Ac (Ab 0) Af)))) Af)))
   Ag))
  (Ae (Ao 1 (Ab 3))
  Ag))))
 (Ae (Aw (Ab 1))
 Ag)))
noncomputable def bi5 (K:ac) (t:Adr):DS:=
 (Ae (Ao 1 Db)
 (Ae (Ce (iEn K (Ac (Ab 0) Af)) (gdT K 2 [(gdN 2),(gdN 3)]) (Ae (Ej (Ab 2) (Cc K (Ab 1) (Ab 3)))
  Ag))
 (Ae (Aw (Ab 1))
 Ag)))
noncomputable def be3 (K:ac) (t:Adr):DS:=
 (Ae (Ao 1 (dC (.int 0)))
 (Ae (Ce (Bt K (Ab 0)) (gdN 2) (Ae (Ao 1 (Ah ah6 (Ab 1) (Ah J0 (dC (.int 1)) (Ab 2))))
  Ag))
 (Ae (Aw (Ab 1))
 Ag)))
noncomputable def bj0 (K:ac) (t:Adr):DS:=
 (Ae (Ao 2 Db)
 (Ae (Ce (iEn K (Ac (Ab 0) Af)) (gdT K 2 [(gdN 3),(gdN 4)]) (Ae (Ej Db (Cc K (Ab 2) (Ab 4)))
  (Ae (Ce (Bt K (Ah (A5 K) (Ab 0) (Ab 4))) (gdN 5) (Ae (Ao 6 (Bc [none,none,some 3,some 5] (iEn K (Ac (Ab 1) Af)) (gdT K 2 [(gdN 0),(gdN 1)]) (Bp (Ah (B8 K false) (Ah (A5 K) (Ab 1) (Ab 2)) (Ab 3))) (Ab 0)))
   (Ae (Ej (dFn (spE (Rh K t) []) (Ac (Ab 6) Af)) (Cc K (Ah (A5 K) (Ab 2) (Ab 4)) (Ab 5)))
   Ag)))
  Ag)))
 (Ae (Aw (Ab 2))
 Ag)))
noncomputable def bk3 (K:ac) (t:Adr):DS:=
 (Ae (Fu K "settings" (Ab 0) (dFn (spE (Zu K t) []) (Ac (Ab 1) Af)))
 (Ae (Fu K "tuples" (Ab 0) (dFn (spE (Zs K t) []) (Ac (dUn (B6 K "settings") (Ab 0)) Af)))
 (Ae (Fu K "numbers" (Ab 0) (dFn (spE (Zo K t) []) (Ac (dUn (B6 K "tuples") (Ab 0)) Af)))
 (Ae (Fu K "sets" (Ab 0) (dFn (spE (Zt K t) []) (Ac (dUn (B6 K "settings") (Ab 0)) (Ac (dUn (B6 K "tuples") (Ab 0)) Af))))
 (Ae (Fu K "kept_rules" (Ab 0) (Dk "read_rules" 1 (Fd K t) (Ab 0) (Ac (Ab 2) Af)))
 (Ae (Fu K "bars" (Ab 0) (Bc [none,some 0] (Bt K (dUn (B6 K "kept_rules") (Ab 0))) (gdN 0) B3 (Dk "box" 1 (Qi K t) (Ab 1) (Ac (Ab 0) Af))))
 (Ae (Fu K "free" (Ab 0) (Ah Hi (Dk "all_choices" 0 (C4 K t) (Ab 0) Af) (dUn Te (dFn (spE (M7 K t) []) (Ac (dUn (B6 K "bars") (Ab 0)) Af)))))
 (Ae (dIf (Bp (Ah (B8 K false) (dUn (B6 K "free") (Ab 0)) (dC (.int 0)))) (Ae Bd
  Ag) Ag)
 Ag))))))))
noncomputable def bd4 (K:ac) (t:Adr):DS:=
 (Ae (dIf (Bp (Ah bb1 (Ab 1) (dFn (fun vs H Q _=>(Di K) vs H Q) (Ac (Ab 0) Af)))) (Ae (Aw (Ah (A5 K) (Ab 0) (Ab 1)))
  Ag) Ag)
 (Ae (Aw (dC (.int 0)))
 Ag))
noncomputable def be1 (K:ac) (t:Adr):DS:=
 (Ae (Ao 2 (Ah Tg (Ab 0) (Ah (A9 K) (Ah (Ct K) (dC (.int 27)) (Ab 1)) (dC (.int 1)))))
 (Ae (dIf (Np (Bp (Ah (B8 K false) (Ah Bb (Ab 0) (dC (.int 2))) (dC (.int 0)))) (Np (Bp (Ah (B8 K true) (Ab 2) (dC (.int 0)))) (Bp (Ah (B8 K true) (Ab 2) (dUn Tf (dC (.int 1))))))) (Ae (Aw (Ah Hi (Ab 2) (dC (.int 134217727))))
  Ag) Ag)
 (Ae (Ao 3 (Ah Bb (Ah (Ct K) (Ah (A9 K) (Ab 0) (Ah (Ct K) (dC (.int 7919)) (Ab 1))) (dC (.int 48271))) (dC (.int 2147483647))))
 (Ae (Ao 3 (Ah Bb (Ah (Ct K) (Ab 3) (Ab 3)) (dC (.int 2147483629))))
 (Ae (Aw (Ah C5 (Ah Bb (Ah (Ct K) (Ab 3) (Ah (A9 K) (Ab 3) (dC (.int 3)))) (dC (.int 2147483587))) (dC (.int 32))))
 Ag)))))
noncomputable def bc8 (K:ac) (t:Adr):DS:=
 (Ae (dIf (Np (Bp (Ah (B8 K false) (Ah Bb (dFn (spE (Bj K t) []) (Ac (Ab 0) (Ac (dC (.int 1)) Af))) (dC (.int 3))) (dC (.int 0)))) (Bp (Ah G3 (Ab 3) (Ab 2)))) (Ae (Ao 4 (dMt (rMt K [⟨"str", "str.join", Lh K⟩]) (dC (.str "")) (Ac (Bc [none,some 0,some 1] (F2 (Ac (Ab 2) Af)) (gdN 0) B3 (Ah (A5 K) (Ab 2) (Ah Bb (dFn (spE (Bj K t) []) (Ac (Ab 1) (Ac (Ah (A9 K) (dC (.int 2)) (Ab 0)) Af))) (dFn (fun vs H Q _=>(Di K) vs H Q) (Ac (Ab 2) Af))))) Af)))
  (Ae (Aw (Bc [none,some 2,some 4] (F2 (Ac (Ab 3) Af)) (gdN 0) B3 (dSl K (Ab 2) Iq (Nr (Ah Zg (Ab 1) (Ab 0))))))
  Ag)) Ag)
 (Ae (Ao 6 (Ah (A9 K) (dC (.int 1)) (Ah Bb (dFn (spE (Bj K t) []) (Ac (Ab 0) (Ac (dC (.int 20)) Af))) (Ab 2))))
 (Ae (Ao 7 (Ah Bb (dFn (spE (Bj K t) []) (Ac (Ab 0) (Ac (dC (.int 21)) Af))) (Ab 6)))
 (Ae (Ao 8 (B9 Af))
 (Ae (Ce (F2 (Ac (Ab 3) Af)) (gdN 5) (Ae (Ao 9 (Bc [none,some 7,some 0,some 5] (F2 (Ac (Ab 6) Af)) (gdN 0) B3 (Ah (A9 K) (dFn (spE (Bj K t) []) (Ac (Ab 2) (Ac (Ah (A9 K) (dC (.int 22)) (Ab 0)) Af))) (Ah (Ct K) (Ab 3) (dFn (fun vs H Q _=>Vk vs H Q) (Ac (Ah (B8 K false) (Ab 0) (Ab 1)) Af))))))
  (Ae (Dc (dMt (rMt K [⟨"list", "list.append", Cl⟩]) (Ab 8) (Ac (dMt (rMt K [⟨"str", "str.join", Lh K⟩]) (dC (.str "")) (Ac (Bc [none,some 1] (Bt K (Ab 9)) (gdN 0) B3 (Ah (A5 K) (Ab 1) (Ah Bb (Ab 0) (dFn (fun vs H Q _=>(Di K) vs H Q) (Ac (Ab 1) Af))))) Af)) Af)))
  Ag)))
 (Ae (Aw (Ab 8))
 Ag))))))
noncomputable def bj7 (K:ac) (t:Adr):DS:=
 (Ae (Ao 2 (dC (.str "abcdefghijklmnopqrstuvwxyz")))
 (Ae (Ao 3 (dFn (spE (J4 K t) []) (Ac (Ab 0) (Ac (Ab 2) (Ac (dC (.int 8)) (Ac (dC (.int 5)) Af))))))
 (Ae (Ao 4 (B9 Af))
 (Ae (Ao 5 (dC (.int 1)))
 (Ae (Ce (F2 (Ac (Ah (A9 K) (dC (.int 1)) (Ah Bb (dFn (spE (Bj K t) []) (Ac (Ab 0) (Ac (dC (.int 40)) Af))) (dC (.int 5)))) Af)) (gdN 6) (Ae (Ao 7 (Ah (A9 K) (dC (.int 2)) (Ah Bb (dFn (spE (Bj K t) []) (Ac (Ab 0) (Ac (Ah (A9 K) (dC (.int 41)) (Ab 6)) Af))) (dC (.int 3)))))
  (Ae (dIf (Bp (Ah G3 (Ah (Ct K) (Ab 5) (Ab 7)) (Ab 1))) (Ae (Ao 5 (Ah (Ct K) (Ab 5) (Ab 7)))
   (Ae (Dc (dMt (rMt K [⟨"list", "list.append", Cl⟩]) (Ab 4) (Ac (Fg (Ac (Ah (A5 K) (Ab 3) (Ab 6)) (Ac (dFn (spE (J4 K t) []) (Ac (Ah (A9 K) (Ah (A9 K) (Ab 0) (dC (.int 1))) (Ab 6)) (Ac (Ab 2) (Ac (dC (.int 8)) (Ac (Ab 7) Af))))) Af))) Af)))
   Ag)) Ag)
  Ag)))
 (Ae (Aw (Ab 4))
 Ag))))))
noncomputable def bc9 (K:ac) (t:Adr):DS:=
 (Ae (Ao 1 (dC (.int 1)))
 (Ae (Ce (Bt K (Ab 0)) (gdT K 2 [(gdN 2),(gdN 3)]) (Ae (Ao 1 (Ah (Ct K) (Ab 1) (dFn (fun vs H Q _=>(Di K) vs H Q) (Ac (Ab 3) Af))))
  Ag))
 (Ae (Aw (Ab 1))
 Ag)))
noncomputable def bc7 (K:ac) (t:Adr):DS:=
 (Ae (Ao 2 (B9 Af))
 (Ae (Ce (F2 (Ac (Ah Bb (dFn (spE (Bj K t) []) (Ac (Ab 0) (Ac (dC (.int 60)) Af))) (dC (.int 4))) Af)) (gdN 3) (Ae (Ao 4 Db)
  (Ae (Ce (iEn K (Ac (Ab 1) Af)) (gdT K 2 [(gdN 5),(gdT K 2 [(gdN 6),(gdN 7)])]) (Ae (Ao 8 (dFn (spE (Bj K t) []) (Ac (Ab 0) (Ac (Ah (A9 K) (Ah (A9 K) (dC (.int 61)) (Ah (Ct K) (dC (.int 8)) (Ab 3))) (Ab 5)) Af))))
   (Ae (Ao 9 (Bc [none,none,some 8] (iEn K (Ac (Ab 7) Af)) (gdT K 2 [(gdN 0),(gdN 1)]) (Bp (Ah (B8 K false) (Ah Hi (Ah Tg (Ab 2) (Ab 0)) (dC (.int 1))) (dC (.int 1)))) (Ab 1)))
   (Ae (dIf (Np (Bp (Ah (B8 K true) (Ab 9) (B9 Af))) (Bp (Ah Vi (Ah Bb (Ah C5 (Ab 8) (dC (.int 16))) (dC (.int 3))) (dC (.int 0))))) (Ae (Ej (Ab 9) (Cc K (Ab 4) (Ab 6)))
    Ag) Ag)
   Ag))))
  (Ae (dIf (Bp (Ah (B8 K true) (Ab 4) Db)) (Ae (Dc (dMt (rMt K [⟨"list", "list.append", Cl⟩]) (Ab 2) (Ac (Ab 4) Af)))
   Ag) Ag)
  Ag))))
 (Ae (Aw (Ab 2))
 Ag)))
noncomputable def bk9 (K:ac) (t:Adr):DS:=
 (Ae (Ao 2 (B9 Af))
 (Ae (Ce (ar5 K (Ab 0)) (gdT K 2 [(gdN 3),(gdN 4)]) (Ae (Dc (dMt (rMt K [⟨"list", "list.insert", Ih⟩]) (Ab 2) (Ac (dC (.int 0)) (Ac (Ah Bb (Ab 1) (dFn (fun vs H Q _=>(Di K) vs H Q) (Ac (Ab 4) Af))) Af))))
  (Ae (Ao 1 (Ah C5 (Ab 1) (dFn (fun vs H Q _=>(Di K) vs H Q) (Ac (Ab 4) Af))))
  Ag)))
 (Ae (Aw (Ab 2))
 Ag)))
noncomputable def bk8 (K:ac) (t:Adr):DS:=
 (Ae (Ao 3 (dFn (spE (Tp K t) []) (Ac (Ab 0) (Ac (Ab 2) Af))))
 (Ae (Ce (Bt K (Ab 1)) (gdN 4) (Ae (Ao 5 (Bc [none,none,none,some 3,some 4] (iEn K (Ac (Ab 0) Af)) (gdT K 2 [(gdN 0),(gdT K 2 [(gdN 1),(gdN 2)])]) B3 (Ah (Vj K false) (Ah (A5 K) (Ab 2) (Ah (A5 K) (Ab 3) (Ab 0))) (dMt (rMt K [⟨"dict", "dict.get", Lg⟩]) (Ab 4) (Ac (Ab 1) (Ac (Ab 2) Af))))))
  (Ae (dIf (Da K (dFn (fun vs H Q _=>(Oo K) vs H Q) (Ac (Ab 5) Af))) (Ae (Aw (dC (.bl true)))
   Ag) Ag)
  Ag)))
 (Ae (Aw (dC (.bl false)))
 Ag)))
noncomputable def bd0 (K:ac) (t:Adr):DS:=
 (Ae (Ao 2 (dFn (spE (Zv K t) []) (Ac (Ab 0) (Ac (Ab 1) Af))))
 (Ae (Ao 3 (dFn (spE (Q6 K t) []) (Ac (Ab 0) (Ac (Ab 2) Af))))
 (Ae (Ao 4 (Bc [none,some 3,some 2] (F2 (Ac (dFn (spE (M5 K t) []) (Ac (Ab 2) Af)) Af)) (gdN 0) (Dj (Da K (dFn (spE (Z1 K t) []) (Ac (Ab 2) (Ac (Ab 1) (Ac (Ab 0) Af)))))) (Ab 0)))
 (Ae (dIf (Bp (Ah (B8 K false) (Ab 4) (B9 Af))) (Ae (Ao 3 (B9 Af))
  (Ae (Ao 4 (dUn Jz (dFn (spE (M5 K t) []) (Ac (Ab 2) Af))))
  Ag)) Ag)
 (Ae (Aw (B9 (Ac (Ab 2) (Ac (Ab 3) (Ac (Ab 4) Af)))))
 Ag)))))
noncomputable def bd6 (K:ac) (t:Adr):DS:=
 (Ae (Ao 1 (dC (.str " !\"#$&'()*+,-./0123456789:;<=>?@ABCDEFGHIJKLMNOPQRSTUVWXYZ[\\]^_`")))
 (Ae (Ao 1 (Ah (A9 K) (Ab 1) (dC (.str "abcdefghijklmnopqrstuvwxyz{|}~"))))
 (Ae (Ao 2 (Ah (A5 K) (B9 (Ac (dC (.int 0)) (Ac (dC (.int 1)) (Ac (dC (.int 2)) (Ac (dC (.int 5)) (Ac (dC (.int 60)) Af)))))) (Ah Bb (dFn (spE (Bj K t) []) (Ac (Ab 0) (Ac (dC (.int 301)) Af))) (dC (.int 5)))))
 (Ae (Aw (dMt (rMt K [⟨"str", "str.join", Lh K⟩]) (dC (.str "")) (Ac (Bc [none,some 0,some 1] (F2 (Ac (Ab 2) Af)) (gdN 0) B3 (Ah (A5 K) (Ab 2) (Ah Bb (dFn (spE (Bj K t) []) (Ac (Ab 1) (Ac (Ah (A9 K) (dC (.int 302)) (Ab 0)) Af))) (dFn (fun vs H Q _=>(Di K) vs H Q) (Ac (Ab 2) Af))))) Af)))
 Ag))))
noncomputable def bk1 (K:ac) (t:Adr):DS:=
 (Ae (dIf (Bp (Ah (B8 K true) (Ab 0) (dC (.str "table")))) (Ae (Aw (dFn (spE (M6 K t) []) (Ac (Ab 1) Af)))
  Ag) Ag)
 (Ae (Ao 2 (Ah (A9 K) (dC (.int 1)) (Ah Bb (dFn (spE (Bj K t) []) (Ac (Ab 1) (Ac (dC (.int 310)) Af))) (dC (.int 3)))))
 (Ae (Ao 3 (B9 Af))
 (Ae (Ce (F2 (Ac (Ah (A9 K) (dC (.int 1)) (Ah Bb (dFn (spE (Bj K t) []) (Ac (Ab 1) (Ac (dC (.int 311)) Af))) (dC (.int 3)))) Af)) (gdN 4) (Ae (Dc (dMt (rMt K [⟨"list", "list.append", Cl⟩]) (Ab 3) (Ac (dFn (fun vs H Q _=>(Fm K) vs H Q) (Ac (Bc [none,some 1,some 4] (F2 (Ac (Ab 2) Af)) (gdN 0) B3 (dSl K (dFn (spE (M6 K t) []) (Ac (Ah (A9 K) (Ah (A9 K) (Ab 1) (Ah (Ct K) (dC (.int 5)) (Ab 2))) (Ah (Ct K) (dC (.int 17)) (Ab 0))) Af)) Iq (Nr (dC (.int 3))))) Af)) Af)))
  Ag))
 (Ae (Aw (dFn (fun vs H Q _=>(Fm K) vs H Q) (Ac (Ab 3) Af)))
 Ag)))))
noncomputable def bd7 (K:ac) (t:Adr):DS:=
 (Ae (Ao 3 Db)
 (Ae (Ce (iEn K (Ac (Ab 2) Af)) (gdT K 2 [(gdN 4),(gdN 5)]) (Ae (Ao 6 (dFn (spE (Bj K t) []) (Ac (Ab 0) (Ac (Ah (A9 K) (dC (.int 100)) (Ab 4)) Af))))
  (Ae (dIf (Np (Bp (Ah Vi (Ab 1) (dC (.int 0)))) (Bp (Ah (B8 K false) (Ah Bb (dFn (spE (Bj K t) []) (Ac (Ab 0) (Ac (Ah (A9 K) (Ah (A9 K) (dC (.int 130)) (Ah (Ct K) (dC (.int 40)) (Ab 1))) (Ab 4)) Af))) (dC (.int 3))) (dC (.int 0))))) (Ae (Ao 6 (dFn (spE (Bj K t) []) (Ac (Ab 0) (Ac (Ah (A9 K) (Ah (A9 K) (dC (.int 500)) (Ah (Ct K) (dC (.int 40)) (Ab 1))) (Ab 4)) Af))))
   Ag) Ag)
  (Ae (dIf (Bp (Ah Vi (Ah Bb (Ab 6) (dC (.int 6))) (dC (.int 0)))) (Ae (Ao 7 (Ah (A5 K) (B9 (Ac (dC (.str "chapter")) (Ac (dC (.str "para")) (Ac (dC (.str "table")) (Ac (dC (.str "chapter")) Af))))) (Ah Bb (Ah C5 (Ab 6) (dC (.int 6))) (dC (.int 4)))))
   (Ae (Ao 8 (R5 (Ah (A9 K) (B9 (Ac (dC (.str "")) Af)) (Bc [none,some 3] (Bt K (Ab 3)) (gdN 0) (Bp (Ah (B8 K false) (Ah (A5 K) (Ah (A5 K) (Ab 1) (Ab 0)) (dC (.int 0))) (dC (.str "chapter")))) (Ab 0)))))
   (Ae (Ao 9 (Ah (A5 K) (B9 (Ac (dC (.int 0)) (Ac (dC (.int 1)) (Ac (Ah al0 (dC (.int 10)) (dC (.int 9))) (Ac (Ah Bb (Ah C5 (Ab 6) (dC (.int 96))) (dC (.int 1000))) Af))))) (Ah Bb (Ah C5 (Ab 6) (dC (.int 24))) (dC (.int 4)))))
   (Ae (Ej (Fg (Ac (Ab 7) (Ac (Ah (A5 K) (Ab 8) (Ah Bb (Ah C5 (Ab 6) (dC (.int 384))) (dFn (fun vs H Q _=>(Di K) vs H Q) (Ac (Ab 8) Af)))) (Ac (Ab 9) (Ac (dFn (spE (Zy K t) []) (Ac (Ab 7) (Ac (Ah C5 (Ab 6) (dC (.int 96))) Af))) Af))))) (Cc K (Ab 3) (Ab 5)))
   Ag)))) Ag)
  Ag))))
 (Ae (Aw (Ab 3))
 Ag)))
noncomputable def bc5 (K:ac) (t:Adr):DS:=
 (Ae (Aw (dFn (spE (J4 K t) []) (Ac (Ab 0) (Ac (dC (.str "abcdefghijklmnopqrstuvwxyz0123456789.")) (Ac (dC (.int 12)) (Ac (Ab 1) Af))))))
 Ag)
noncomputable def bk2 (K:ac) (t:Adr):DS:=
 (Ae (dIf (Bp (Ah (B8 K false) (Ah Bb (dFn (spE (Bj K t) []) (Ac (Ab 0) (Ac (dC (.int 70)) Af))) (dC (.int 2))) (dC (.int 0)))) (Ae (Aw (Ah Bb (Ah (A5 K) (dFn (spE (Tp K t) []) (Ac (Ab 1) (Ac (Ab 2) Af))) (Ah Bb (dFn (spE (Bj K t) []) (Ac (Ab 0) (Ac (dC (.int 71)) Af))) (dFn (fun vs H Q _=>(Di K) vs H Q) (Ac (Ab 1) Af)))) (Ab 3)))
  Ag) Ag)
 (Ae (Aw (Ah Bb (dFn (spE (Bj K t) []) (Ac (Ab 0) (Ac (Ah (A9 K) (dC (.int 700)) (Ab 2)) Af))) (Ab 3)))
 Ag))
noncomputable def bd5 (K:ac) (t:Adr):DS:=
 (Ae (Ao 2 (dFn (spE (Q7 K t) []) (Ac (Ah C5 (dFn (spE (Ec K t) []) (Ac (Ab 0) (Ac (dC (.int 0)) Af))) (dC (.int 8))) (Ac (Ah (A5 K) (B9 (Ac (dC (.int 24)) (Ac (dC (.int 256)) Af))) (dFn (fun vs H Q _=>Vk vs H Q) (Ac (Ab 1) Af))) Af))))
 (Ae (Ao 3 (dFn (spE (Q4 K t) []) (Ac (dFn (spE (Ec K t) []) (Ac (Ab 0) (Ac (dC (.int 1)) Af))) (Ac (Ah (A9 K) (dC (.int 1)) (Ah Bb (dFn (spE (Ec K t) []) (Ac (Ab 0) (Ac (dC (.int 2)) Af))) (Ah (A5 K) (B9 (Ac (dC (.int 8)) (Ac (dC (.int 3)) Af))) (dFn (fun vs H Q _=>Vk vs H Q) (Ac (Ab 1) Af))))) Af))))
 (Ae (Ao 4 (Ah (A9 K) (dC (.int 1)) (Ah Bb (Ah C5 (dFn (spE (Ec K t) []) (Ac (Ab 0) (Ac (dC (.int 2)) Af))) (dC (.int 8))) (dC (.int 4)))))
 (Ae (Ao 5 (Bc [none,some 3,some 0] (F2 (Ac (Ab 4) Af)) (gdN 0) B3 (dFn (spE (Re K t) []) (Ac (dFn (spE (Ec K t) []) (Ac (Ab 2) (Ac (dC (.int 3)) Af))) (Ac (Ab 0) (Ac (Ab 1) Af))))))
 (Ae (Ao 6 Db)
 (Ae (Ce (Bt K (Ah (A5 K) (Ab 2) (dC (.int 2)))) (gdN 7) (Ae (Ej (Ah (A5 K) (Ab 5) (dFn (spE (Zz K t) []) (Ac (dFn (spE (Ec K t) []) (Ac (Ab 0) (Ac (dC (.int 4)) Af))) (Ac (Ah (A5 K) (Ab 2) (dC (.int 0))) (Ac (Ab 7) (Ac (Ab 4) Af)))))) (Cc K (Ab 6) (Ab 7)))
  Ag))
 (Ae (Aw (B9 (Ac (Ab 2) (Ac (Ab 3) (Ac (Ab 6) Af)))))
 Ag)))))))
noncomputable def bj6 (K:ac) (t:Adr):DS:=
 (Ae (Ao 1 (dFn (mkC t.c_zbh (some (ad3 K t)) 0) Af))
 (Ae (Fu K "records" (Ab 1) (dFn (fun vs H Q _=>Mx vs H Q) (Ac (dUn (B6 K "records") (Ab 0)) Af)))
 (Ae (Aw (Ab 1))
 Ag)))
noncomputable def bj9 (K:ac) (t:Adr):DS:=
 (Ae (Aw (dFn (fun vs H Q _=>(Qu K true) vs H Q) (Ac (dUn (B6 K "records") (Ab 0)) Af)))
 Ag)
noncomputable def bj2 (K:ac) (t:Adr):DS:=
 (Ae (Aw (dFn (fun vs H Q _=>(Fm K) vs H Q) (Ac (Bc [none,some 0] (Bt K (Dk "names" 0 (Jq K t) (Ab 0) Af)) (gdN 0) B3 (Fg (Ac (Ab 0) (Ac (Ah (A5 K) (dUn (B6 K "records") (Ab 1)) (Ab 0)) Af)))) Af)))
 Ag)
noncomputable def be2 (K:ac) (t:Adr):DS:=
 (Ae (Aw (Ah (B8 K false) (Ah Hi (Ah Tg (Ab 0) (Ab 1)) (dC (.int 1))) (dC (.int 1))))
 Ag)
noncomputable def bj8 (K:ac) (t:Adr):DS:=
 (Ae (Ce (F2 (Ac (dMt (rMt K [⟨"int", "int.bit_length", Za⟩]) (Ab 0) Af) Af)) (gdN 1) (Ae (dIf (Da K (dFn (spE (Rg K t) []) (Ac (Ab 0) (Ac (Ab 1) Af)))) (Ae (Aw (Ab 1))
   Ag) Ag)
  Ag))
 (Ae (Aw (dC .non))
 Ag))
noncomputable def bd2 (K:ac) (t:Adr):DE:=
 (dFn (spE (Zw K t) []) (Ac (Ah (A5 K) (Ab 0) (dC (.int 0))) Af))
noncomputable def bc3 (K:ac) (t:Adr):DS:=
 (Ae (Ao 2 Db)
 (Ae (Ao 3 Db)
 (Ae (Ce (Bt K (Ab 1)) (gdT K 2 [(gdN 4),(gdN 5)]) (Ae (dIf (Bp (Ah (B8 K true) (Ah Hi (Ab 4) (Ab 0)) (dC (.int 0)))) (Ae (Ao 6 (Dk "value_key" 0 (F6 K t) (Ab 5) Af))
   (Ae (Ej (Ah ah6 (dMt (rMt K [⟨"dict", "dict.get", Lg⟩]) (Ab 2) (Ac (Ab 6) (Ac (dC (.int 0)) Af))) (Ah Hi (Ab 4) (Ab 0))) (Cc K (Ab 2) (Ab 6)))
   (Ae (Ej (Ab 5) (Cc K (Ab 3) (Ab 6)))
   Ag))) Ag)
  Ag))
 (Ae (Aw (dFn (spE (Q9 K t) []) (Ac (Bc [none,some 3,some 2] (Bt K (Ab 2)) (gdN 0) B3 (Fg (Ac (Ah (A5 K) (Ab 2) (Ab 0)) (Ac (Dk "copied" 0 (Ld K t) (Ah (A5 K) (Ab 1) (Ab 0)) Af) Af)))) Af)))
 Ag))))
noncomputable def bd1 (K:ac) (t:Adr):DS:=
 (Ae (Ao 2 (dFn (mkC t.c_zbi (some (Xs K t)) 0) (Ac (Ab 0) Af)))
 (Ae (Fu K "kept" (Ab 2) (dFn (spE (Q3 K t) []) (Ac (Dk "allowed" 0 (Fj K t) (Ab 0) Af) (Ac (Ab 1) Af))))
 (Ae (Aw (Ab 2))
 Ag)))
noncomputable def bc1 (K:ac) (t:Adr):DS:=
 (Ae (Ej (Fg (Ac (Ab 2) (Ac (Ab 3) (Ac (Ab 4) (Ac (Ab 5) Af))))) (Cc K (dUn (B6 K "records") (Ab 0)) (Ab 1)))
 Ag)
noncomputable def bc6 (K:ac) (t:Adr):DS:=
 (Ae (Ao 1 (dFn (mkC t.c_zbh (some (ad3 K t)) 0) Af))
 (Ae (Ce (Bt K (Ab 0)) (gdN 2) (Ae (Ej (Ah (A5 K) (Ab 0) (Ab 2)) (gdT K 4 [(gdN 3),(gdN 4),(gdN 5),(gdN 6)]))
  (Ae (Dc (Dk "lay" 5 (Ya K t) (Ab 1) (Ac (Ab 2) (Ac (Ab 3) (Ac (Ab 4) (Ac (Ab 5) (Ac (Ab 6) Af)))))))
  Ag)))
 (Ae (Aw (Ab 1))
 Ag)))
noncomputable def bd3 (K:ac) (t:Adr):DS:=
 (Ae (Ej (Ab 0) (gdT K 3 [(gdN 2),(gdN 3),(gdN 4)]))
 (Ae (Ao 5 (dFn (mkC t.c_zbg (some (Xv K t)) 1) (Ac (Bc [none,none] (Bt K (Ab 2)) (gdT K 2 [(gdN 0),(gdN 1)]) B3 (Fg (Ac (Ab 0) (Ac (dFn (fun vs H Q _=>(Jy K true) vs H Q) (Ac (Ab 1) Af)) Af)))) (Ac (Ab 3) Af))))
 (Ae (Ao 6 (B9 Af))
 (Ae (Ce (Bt K (Ab 1)) (gdN 7) (Ae (Dc (dMt (rMt K [⟨"list", "list.append", Cl⟩]) (Ab 6) (Ac (Fg (Ac (Ah J0 (dC (.int 1)) (Ab 7)) (Ac (dFn (spE (Q5 K t) []) (Ac (Ah (A5 K) (Ab 1) (Ab 7)) Af)) Af))) Af)))
  Ag))
 (Ae (Aw (dFn (spE (Q8 K t) []) (Ac (Ab 5) (Ac (Ab 6) Af))))
 Ag)))))
noncomputable def be0 (K:ac) (t:Adr):DS:=
 (Ae (Ao 1 (B9 Af))
 (Ae (Ao 2 (B9 Af))
 (Ae (Ce (Bt K (dFn (fun vs H Q _=>(Qu K true) vs H Q) (Ac (Ab 0) Af))) (gdN 3) (Ae (Ao 4 (Bc [none,none,some 0,some 3] (iEn K (Ac (Ab 1) Af)) (gdT K 2 [(gdN 0),(gdN 1)]) (Bp (Ah (B8 K false) (Ab 1) (Ah (A5 K) (Ab 2) (Ab 3)))) (Ab 0)))
  (Ae (dIf (Bp (Ah (B8 K false) (Ab 4) (B9 Af))) (Ae (Dc (dMt (rMt K [⟨"list", "list.append", Cl⟩]) (Ab 1) (Ac (Ah (A5 K) (Ab 0) (Ab 3)) Af)))
   (Ae (Dc (dMt (rMt K [⟨"list", "list.append", Cl⟩]) (Ab 2) (Ac (Ah J0 (dC (.int 1)) (Ab 3)) Af)))
   Ag)) (Ae (Xg K (Ab 2) (Ah (A5 K) (Ab 4) (dC (.int 0))) (Ah J0 (dC (.int 1)) (Ab 3)))
   Ag))
  Ag)))
 (Ae (Aw (Ab 2))
 Ag))))
noncomputable def bc4 (K:ac) (t:Adr):DS:=
 (Ae (dIf (dOr (Dj (Da K (dFn (fun vs H Q _=>(F7 K) vs H Q) (Ac (Ab 0) (Ac (dC (.ty "list")) Af))))) (Bp (Ah (B8 K true) (Ab 0) (Ab 1)))) (Ae (Aw (dC (.bl false)))
  Ag) Ag)
 (Ae (Ao 2 (Ah (B8 K false) (Bc [none] (Bt K (Ab 0)) (gdN 0) (Np (Da K (dFn (fun vs H Q _=>(F7 K) vs H Q) (Ac (Ab 0) (Ac (dC (.ty "int")) Af)))) (Dj (Da K (dFn (fun vs H Q _=>(F7 K) vs H Q) (Ac (Ab 0) (Ac (dC (.ty "bool")) Af)))))) (Ab 0)) (Ab 0)))
 (Ae (Dc (dMt (rMt K [⟨"list", "list.clear", Qt⟩,⟨"dict", "dict.clear", Ie⟩]) (Ab 0) Af))
 (Ae (Aw (Ab 2))
 Ag))))
noncomputable def be4 (K:ac) (t:Adr):DS:=
 (Ae (Ej (dFn (spE (Rb K t) []) (Ac (Ab 0) (Ac (Ah (B8 K false) (Ah Bb (dFn (spE (Ec K t) []) (Ac (Ab 0) (Ac (dC (.int 0)) Af))) (dC (.int 8))) (dC (.int 1))) Af))) (gdT K 3 [(gdN 1),(gdN 2),(gdN 3)]))
 (Ae (Ao 4 (dFn (spE (Ra K t) []) (Ac (Ab 1) (Ac (Ab 3) Af))))
 (Ae (Ao 5 (dFn (spE (Rf K t) []) (Ac (Ab 3) Af)))
 (Ae (dIf (dOr (Dj (Da K (dFn (spE (J3 K t) []) (Ac (Dk "classes" 0 (D8 K t) (Ab 4) Af) (Ac (Ab 5) Af))))) (Dj (Da K (dFn (spE (J3 K t) []) (Ac (Dk "classes" 0 (D8 K t) (Ab 4) Af) (Ac (Ab 5) Af)))))) (Ae (Aw (dC (.bl false)))
  Ag) Ag)
 (Ae (Ao 6 (dFn (fun vs H Q _=>(a24 K) vs H Q) (Ac (Bc [none] (Bt K (Ah (A5 K) (Ab 1) (dC (.int 2)))) (gdN 0) B3 (Ah J0 (dC (.int 1)) (Ab 0))) Af)))
 (Ae (Ao 7 (dFn (mkC t.c_zbg (some (Xv K t)) 1) (Ac (Bc [none,none] (Bt K (Ah (A5 K) (Ab 1) (dC (.int 0)))) (gdT K 2 [(gdN 0),(gdN 1)]) B3 (Fg (Ac (Ab 0) (Ac (dFn (fun vs H Q _=>(Jy K true) vs H Q) (Ac (Ab 1) Af)) Af)))) (Ac (Ah (A5 K) (Ab 1) (dC (.int 1))) Af))))
 (Ae (Aw (dFn (spE (J3 K t) []) (Ac (Dk "classes" 0 (D8 K t) (dFn (mkC t.c_zbi (some (Xs K t)) 0) (Ac (Ab 7) Af)) Af) (Ac (B9 (Ac (Ab 6) Af)) Af))))
 Ag)))))))
end K33
set_option maxHeartbeats 400000
namespace K33
open PySem L2 Pn
theorem Oy {α:Type} [DecidableEq α] {l:List α} {x:List α} (nd:l.Nodup) (h:∀ z∈l,z∈x):l.length<=x.length:=by
 induction l generalizing x with
 | nil=>exact bj _
 | cons a l ih=>
  obtain⟨na,nd⟩:=List.nodup_cons.mp nd
  have ha:=h a aQ
  have:=ih (x:=x.erase a) nd fun z hz=>(j5 (fun e:z=a=>na (e▸hz))).mpr (h z (ay _ hz))
  rw [iE ha] at this
  have:0<x.length:=List.length_pos_of_mem ha
  rw [aK]
  omega
theorem Yk {a n:Nat} (h:a<2 ^ n):a ||| 2 ^ n=a+2 ^ n:=by
 have:=Nat.two_pow_add_eq_or_of_lt h 1
 rw [Nat.mul_one] at this
 rw [Nat.or_comm,<- this,lI]
theorem O9 (m:Nat):∀ N,(((aw N).filter fun i=>m.testBit i).map fun i=>2 ^ i).sum=m % 2 ^ N
 | 0=>by simp [Nat.mod_one]
 | N+1=>by
  rw [fK,fI,ax,List.sum_append,O9 m N,Nat.mod_pow_succ]
  congr 1
  rw [ja,jG,fO]
  have:=Nat.mod_two_eq_zero_or_one (m / 2 ^ N)
  rcases this with e|e <;> simp [e]
theorem Pa:∀ l:List Nat,(l.map fun n:Nat=>(1 * 2 ^ ((n:Int)).toNat:Int)).sum=(((l.map fun i=>2 ^ i).sum:Nat):Int)
 | []=>rfl
 | n::l=>by
  rw [aY,kQ,Pa l,aY,kQ,iT,aU,Dw,Int.natCast_add]
theorem Sc (sw:Sw) (rules:List Sw):Aq sw rules=(aw (Ak sw).length).filter fun i=>(B5 sw rules).testBit i:=by
 unfold Aq
 refine List.filter_congr fun i hi=>?_
 rw [Uk,decide_eq_true (List.mem_range.mp hi),gG]
 rfl
theorem ac8 (sw:Sw) (rules:List Sw):B5 sw rules<2 ^ (Ak sw).length:=by
 unfold B5 Lr
 have:=jK (Ak sw).length
 omega
theorem Xn (sw:Sw) (rules:List Sw):((Aq sw rules).map fun i=>2 ^ i).sum=B5 sw rules:=by
 rw [Sc,O9,Nat.mod_eq_of_lt (ac8 sw rules)]
theorem Dn {sw:Sw} {rules:List Sw} {n:Nat} (h:n∈Aq sw rules):n<(Ak sw).length/\(B5 sw rules).testBit n=true:=by
 rw [Sc,eE,bY] at h
 exact h
theorem Jb (sw:Sw) (rules:List Sw):(Aq sw rules).Pairwise (· < ·):=List.Pairwise.filter _ List.pairwise_lt_range
theorem ac9 {sw:Sw} {rules:List Sw} (h:Aq sw rules≠[]):Ja sw rules≠0:=by
 obtain⟨n,hn⟩:=List.exists_mem_of_ne_nil _ h
 have:=(Dn hn).2
 rw [Gn]
 intro e
 have e:B5 sw rules=0:=by omega
 rw [e,gr] at this
 cases this
theorem Nz {α β:Type} (f:α->List β) {s:Nat} (hs:0<s):∀ (l:List α),(∀ a∈l,(f a).length=s) -> ∀ n,(l.flatMap f)[n]? = (l[n / s]?).bind fun a=>(f a)[n % s]?
 | [],_,n=>by simp
 | a::l,h,n=>by
  have ha:=h a aQ
  rw [iC]
  by_cases hn:n<s
  ·rw [bP (by rw [ha];exact hn),Nat.div_eq_of_lt hn,Nat.mod_eq_of_lt hn];rfl
  ·rw [bx (by rw [ha];omega),ha,Nz f hs l (fun b hb=>h b (ay _ hb)),Nat.div_eq_sub_div (a:=n) hs (by omega),bA,Nat.mod_eq_sub_mod (a:=n) (by omega)]
theorem Dl:∀ (l:List Nat) (n:Nat),(Kh l n).length=l.length
 | [],_=>rfl
 | s::r,n=>by rw [Kh,aZ,Dl r];rfl
theorem Tk:∀ (L:Sw),(∀ x∈L,Fe x.2) -> ∀ (n:Nat) (r:List Str),(Ak L.reverse)[n]? = some r -> ∀ (i:Nat) (x:Str×List Str),L.reverse[i]? = some x -> ∃ d,(Kh (L.map (·.2.length)) n)[i]? = some d/\d<x.2.length/\r[i]? = x.2[d]?
 | [],_,n,r,_,i,x,hx=>by simp at hx
 | y::L,h,n,r,hr,i,x,hx=>by
  have oy:=h y aQ
  have h2:∀ x∈L,Fe x.2:=fun x hx=>h x (ay _ hx)
  have pos:0<y.2.length:=by have:=oy.2.1;omega
  have e:Ak (y::L).reverse=Du (Ak L.reverse) y:=by unfold Ak;rw [List.reverse_cons,eU];rfl
  rw [e] at hr
  unfold Du at hr
  rw [Nz _ pos _ (fun a _=>ae _)] at hr
  obtain⟨a,ha,hb⟩:=Option.bind_eq_some_iff.mp hr
  rw [ak] at hb
  obtain⟨z,hz,rfl⟩:=Option.map_eq_some_iff.mp hb
  have la:a.length=L.length:=by
   have:=(Ga (sw:=L.reverse) fun x hx=>h2 x (List.mem_reverse.mp hx)).2.1 a (am ha)
   rwa [bK] at this
  rw [List.reverse_cons] at hx
  rw [aY,Kh]
  by_cases hi:i<L.length
  ·rw [bP (by rw [bK];exact hi)] at hx
   obtain⟨d,h3,h4,h5⟩:=Tk L h2 (n / y.2.length) a ha i x hx
   refine⟨d,?_,h4,?_⟩
   ·rw [bP (by rw [Dl,ae];exact hi)];exact h3
   ·rw [bP (by omega)];exact h5
  ·have hi2:i=L.length:=by
    have:=Aj hx
    rw [aZ,bK] at this
    have:i<L.length+1:=this
    omega
   subst hi2
   rw [bx (by rw [bK];exact aj _),bK,fA] at hx
   cases hx
   refine⟨n % y.2.length,?_,Nat.mod_lt _ pos,?_⟩
   ·rw [bx (by rw [Dl,ae];exact aj _),Dl,ae,fA];rfl
   ·rw [bx (by omega),la,fA,hz];rfl
theorem ar0 {sw:Sw} {n i:Nat} {r:List Str} {x:Str×List Str} (hw:okSw sw) (hn:(Ak sw)[n]? = some r) (hx:sw[i]? = some x):∃ d,(Mb sw n)[i]? = some d/\d<x.2.length/\r[i]? = x.2[d]?:=by
 have:=Tk sw.reverse (fun x hx=>hw.sets x (List.mem_reverse.mp hx)) n r (by rw [j6];exact hn) i x (by rw [j6];exact hx)
 unfold Mb
 rwa [jc] at this
theorem Iv (sw:Sw) (n:Nat):(Mb sw n).length=sw.length:=by unfold Mb;rw [Dl,bK,ae]
structure GInv (n:Nat) (gs:List Gp):Prop where
 nd:(gs.map (·.1)).Nodup
 asc:(gs.map (·.2.1)).Pairwise (· < ·)
 one:∀ g∈gs,g.2.1<n/\g.2.2<2 ^ n/\g.2.2.testBit g.2.1=true /\ ∀ j,j<g.2.1->g.2.2.testBit j=false
theorem GInv.mono {n m:Nat} {gs:List Gp} (h:GInv n gs) (hm:n<=m):GInv m gs:=⟨h.nd,h.asc,fun g hg=>let ⟨a,b,c⟩:=h.one g hg;⟨by omega,aD b (gx (by decide) hm),c⟩⟩
theorem GInv.put {n:Nat} {gs:List Gp} (k:TK) (h:GInv n gs):GInv (n+1) (Fl gs k n):=by
 have h1:=h.mono (cQ n)
 unfold Fl
 split
 ·refine⟨?_,?_,fun g hg=>?_⟩
  ·have:(gs.map fun g=>if g.1=k then (g.1,g.2.1,g.2.2 ||| 2 ^ n) else g).map (·.1)=gs.map (·.1):=by
    rw [aE]
    exact bL fun g _=>by show (if _ then _ else _:Gp).1=_;split <;> rfl
   rw [this];exact h.nd
  ·have:(gs.map fun g=>if g.1=k then (g.1,g.2.1,g.2.2 ||| 2 ^ n) else g).map (·.2.1)=gs.map (·.2.1):=by
    rw [aE]
    exact bL fun g _=>by show (if _ then _ else _:Gp).2.1=_;split <;> rfl
   rw [this];exact h.asc
  ·obtain⟨g,hg0,rfl⟩:=List.mem_map.mp hg
   clear hg
   split
   ·obtain⟨a,b,c,d⟩:=h.one g hg0
    refine⟨df a,?_,?_,fun j hj=>?_⟩
    ·show g.2.2 ||| 2 ^ n<2 ^ (n+1)
     rw [Yk b,Nat.pow_succ];omega
    ·show (g.2.2 ||| 2 ^ n).testBit g.2.1=true
     rw [f_,c];rfl
    ·show (g.2.2 ||| 2 ^ n).testBit j=false
     rw [f_,d j hj,dQ]
     exact decide_eq_false (by have:j<g.2.1:=hj;omega)
   ·exact h1.one g hg0
 ·rename_i hk
  refine⟨?_,?_,fun g hg=>?_⟩
  ·rw [ax]
   refine List.nodup_append.mpr ⟨h.nd,by simp,fun a ha b hb e=>?_⟩
   have:b=k:=by simpa using hb
   exact hk (by rw [<- this,<- e];exact ha)
  ·rw [ax]
   refine List.pairwise_append.mpr ⟨h.asc,by simp,fun a ha b hb=>?_⟩
   have:b=n:=by simpa using hb
   obtain⟨g,hg,rfl⟩:=List.mem_map.mp ha
   rw [this]
   exact (h.one g hg).1
  ·rcases List.mem_append.mp hg with hg|hg
   ·exact h1.one g hg
   ·obtain rfl:g=(k,n,2 ^ n):=by simpa using hg
    refine⟨cn n,?_,?_,fun j hj=>?_⟩
    ·show 2 ^ n<2 ^ (n+1)
     exact Nat.pow_lt_pow_right (by decide) (cn n)
    ·show (2 ^ n).testBit n=true
     rw [dQ];exact decide_eq_true rfl
    ·show (2 ^ n).testBit j=false
     rw [dQ];exact decide_eq_false (by have:j<n:=hj;omega)
theorem F1 {f:Nat->TK} {ns:List Nat} {i n:Nat} (h:ns[i]? = some n):Dh f (ns.take (i+1))=Fl (Dh f (ns.take i)) (f n) n:=Cg h _ _
theorem Na {ns:List Nat} (asc:ns.Pairwise (· < ·)) {i n:Nat} (h:ns[i]? = some n):∀ m∈ns.take i,m<n:=fun m hm=>by
 obtain⟨j,hj,rfl⟩:=List.mem_iff_getElem.mp hm
 rw [aH] at hj
 have hi:=Aj h
 have e:ns[i]=n:=av ((af hi).symm.trans h)
 rw [iD,<- e]
 exact List.pairwise_iff_getElem.mp asc j i (by omega) hi (by omega)
theorem E6 {f:Nat->TK} {ns:List Nat} (asc:ns.Pairwise (· < ·)):∀ (i n:Nat),(∀ m∈ns.take i,m<n)->GInv n (Dh f (ns.take i))
 | 0,n,_=>⟨kg,iz,fun g hg=>by cases hg⟩
 | i+1,n,h=>by
  cases e:ns[i]? with
  | none=>
   have e2:ns.take (i+1)=ns.take i:=by rw [aV,e];simp
   rw [e2] at h ⊢
   exact E6 asc i n h
  | some m=>
   rw [F1 e]
   have hm:m<n:=h m (by rw [aV,e];simp)
   exact ((E6 asc i m (Na asc e)).put (f m)).mono hm
theorem Yx {gs:List Gp} {k:TK} {n:Nat} {g:Gp} (h:g∈Fl gs k n):g.1=k\/g.1∈gs.map (·.1):=by
 unfold Fl at h
 split at h
 ·obtain⟨g',hg,rfl⟩:=List.mem_map.mp h
  split
  ·exact .inl ‹_›
  ·exact .inr (cj hg)
 ·rcases List.mem_append.mp h with h|h
  ·exact .inr (cj h)
  ·obtain rfl:g=(k,n,2 ^ n):=by simpa using h
   exact .inl rfl
theorem Jd {f:Nat->TK} {ns:List Nat}:∀ (i:Nat) {g:Gp},g∈Dh f (ns.take i) -> ∃ n∈ns,g.1=f n
 | 0,g,h=>by cases h
 | i+1,g,h=>by
  cases e:ns[i]? with
  | none=>
   have e2:ns.take (i+1)=ns.take i:=by rw [aV,e];simp
   rw [e2] at h
   exact Jd i h
  | some m=>
   rw [F1 e] at h
   rcases Yx h with h|h
   ·exact⟨m,am e,h⟩
   ·obtain⟨g',hg,e3⟩:=List.mem_map.mp h
    obtain⟨n,hn,q⟩:=Jd i hg
    exact⟨n,hn,by rw [<- e3];exact q⟩
theorem bnd:∀ l:List Nat,∃ N,∀ m∈l,m<N
 | []=>⟨0,fun _ h=>by cases h⟩
 | n::l=>by
  obtain⟨N,h⟩:=bnd l
  exact⟨N+n+1,fun m hm=>by rcases List.mem_cons.mp hm with rfl|hm;omega;have:=h m hm;omega⟩
theorem Mg {tr:Nat->Tr} {ns:List Nat} (asc:ns.Pairwise (· < ·)) (h:∃ Ts:List Tr,Ts.length<=4 /\ ∀ n∈ns,tr n∈Ts) (i:Nat):(Dh (fun n=>vkT (tr n)) (ns.take i)).length<=4:=by
 obtain⟨Ts,h4,hm⟩:=h
 obtain⟨N,hN⟩:=bnd (ns.take i)
 have:=Oy (x:=Ts.map vkT) (E6 (f:=fun n=>vkT (tr n)) asc i N hN).nd fun z hz=>by
  obtain⟨g,hg,rfl⟩:=List.mem_map.mp hz
  obtain⟨n,hn,e⟩:=Jd i hg
  rw [e]
  exact cj (hm n hn)
 rw [ae,ae] at this
 omega
theorem az2 {gs:List Gp} {k:TK} {n j:Nat} {g:Gp} (h:GInv n gs) (hg:gs[j]? = some g) (e:g.1=k):(Fl gs k n).map (·.2.2)=(gs.map (·.2.2)).set j (g.2.2+2 ^ n)/\(Fl gs k n).map (·.1)=gs.map (·.1):=by
 have hm:k∈gs.map (·.1):=by rw [<- e];exact cj (am hg)
 unfold Fl
 rw [if_pos hm,aE,aE]
 refine⟨fX fun i=>?_,bL fun g _=>by show (if _ then _ else _:Gp).1=_;split <;> rfl⟩
 rw [ak,List.getElem?_set]
 by_cases hij:j=i
 ·subst hij
  rw [hg,if_pos rfl,if_pos (by rw [ae];exact Aj hg)]
  show some (if g.1=k then _ else g:Gp).2.2=_
  rw [if_pos e]
  show some (g.2.2 ||| 2 ^ n)=_
  rw [Yk (h.one g (am hg)).2.1]
 ·rw [if_neg hij,ak]
  cases q:gs[i]? with
  | none=>rfl
  | some g'=>
   show some (if g'.1=k then _ else g':Gp).2.2=some g'.2.2
   rw [if_neg]
   intro e2
   have l1:=Aj q
   have l2:=Aj hg
   have:=(cJ (i:=i) (j:=j) (h₀:=by rw [ae];exact l1) (h₁:=by rw [ae];exact l2) h.nd).mp (by
    rw [b9,b9,av ((af l1).symm.trans q),av ((af l2).symm.trans hg),e2,e])
   exact hij this.symm
theorem Sx {gs:List Gp} {k:TK} {n:Nat} (h:¬ k∈gs.map (·.1)):Fl gs k n=gs++[(k,n,2 ^ n)]:=by unfold Fl;rw [if_neg h]
mutual
noncomputable def tkD:TK->Dt
 | .at_ k=>.at_ (kV k)
 | .tup l=>.tup (Gd l)
noncomputable def Gd:List TK->List Dt
 | []=>[]
 | k::ks=>tkD k::Gd ks
end
theorem a31 {K:ac} {H:Hp} (x:TK):∀ {v:V},TkAt H x v->At K H (tkD x) v:=by
 refine TK.rec (motive_1:=fun x=>∀ {v:V},TkAt H x v->At K H (tkD x) v) (motive_2:=fun l=>∀ {vs:List V},As H l vs->AtL K H (Gd l) vs) ?_ ?_ ?_ ?_ x
 ·intro k v h;unfold TkAt at h;unfold tkD At;exact⟨h,Mj k⟩
 ·intro l ih v h;unfold TkAt at h;obtain⟨a,xs,e,q,i⟩:=h;unfold tkD At;exact⟨a,xs,e,SqT.of q,ih i⟩
 ·intro vs h;unfold As at h;unfold Gd AtL;exact h
 ·intro x l h1 h2 vs h;unfold As at h;obtain⟨v,r,e,q1,q2⟩:=h;unfold Gd AtL;exact⟨v,r,e,h1 q1,h2 q2⟩
theorem aj0 (x:TK):dep (tkD x)=Ap x:=by
 refine TK.rec (motive_1:=fun x=>dep (tkD x)=Ap x) (motive_2:=fun l=>Cm (Gd l)=Bz l) ?_ ?_ ?_ ?_ x
 ·intro k;unfold tkD dep Ap;rfl
 ·intro l ih;unfold tkD dep Ap;rw [ih]
 ·unfold Gd Cm Bz;rfl
 ·intro x l h1 h2;unfold Gd Cm Bz;rw [h1,h2]
theorem a32 (x:TK):∀ y,deq (tkD x) (tkD y)=decide (x=y):=by
 refine TK.rec (motive_1:=fun x=>∀ y,deq (tkD x) (tkD y)=decide (x=y)) (motive_2:=fun l=>∀ l',Ek (Gd l) (Gd l')=decide (l=l')) ?_ ?_ ?_ ?_ x
 ·intro k y
  cases y with
  | at_ k'=>unfold tkD deq;exact (W5 k k').symm
  | tup l=>unfold tkD deq;exact (decide_eq_false fun e=>by cases e).symm
 ·intro l ih y
  cases y with
  | at_ k'=>unfold tkD deq;exact (decide_eq_false fun e=>by cases e).symm
  | tup l'=>unfold tkD deq;rw [ih l'];exact decide_eq_decide.mpr ⟨fun e=>by rw [e],fun e=>by injection e⟩
 ·intro l'
  cases l' with
  | nil=>unfold Gd Ek;exact (decide_eq_true rfl).symm
  | cons _ _=>unfold Gd Ek;exact (decide_eq_false fun e=>by cases e).symm
 ·intro x l h1 h2 l'
  cases l' with
  | nil=>unfold Gd Ek;exact (decide_eq_false fun e=>by cases e).symm
  | cons y l'=>
   unfold Gd Ek
   rw [h1,h2,<- Bool.decide_and]
   exact decide_eq_decide.mpr ⟨fun⟨a,b⟩=>by rw [a,b],fun e=>by injection e with a b;exact⟨a,b⟩⟩
theorem RcAt.tk {H:Hp} {a:Addr} {x:Rc} (h:RcAt H a x):TkAt H (rcT x) (.ref a):=by
 obtain⟨v,e,q⟩:=h
 unfold rcT TkAt
 refine⟨a,_,rfl,e,?_⟩
 unfold As;refine⟨_,_,rfl,by unfold TkAt;rfl,?_⟩
 unfold As;refine⟨_,_,rfl,by unfold TkAt;rfl,?_⟩
 unfold As;refine⟨_,_,rfl,by unfold TkAt;rfl,?_⟩
 unfold As;refine⟨_,_,rfl,q,?_⟩
 unfold As;rfl
theorem RcAt.up {H H':Hp} (h:∀ b ys,H b=some (.tup ys)->H' b=some (.tup ys)) {a:Addr} {x:Rc} (q:RcAt H a x):RcAt H' a x:=let ⟨v,e,q⟩:=q;⟨v,h _ _ e,q.up h⟩
theorem Mm:∀ {T:Tr} {n:Str} {x:Rc},T.lookup n=some x->(n,x)∈T
 | [],_,_,h=>by cases h
 | (m,y)::T,n,x,h=>by
  rw [gp] at h
  split at h
  ·rename_i e
   cases h
   rw [ck e]
   exact aQ
  ·exact ay _ (Mm h)
theorem Gr:∀ {T:Tr} {n:Str} {x:Rc},(T.map (·.1)).Nodup->(n,x)∈T->T.lookup n=some x
 | (m,y)::T,n,x,nd,h=>by
  rw [aY,bM] at nd
  rw [gp]
  rcases List.mem_cons.mp h with e|h
  ·cases e
   rw [beq_self_eq_true]
  ·have:(n==m)=false:=beq_false_of_ne fun e=>nd.1 (by rw [<- e];exact List.mem_map.mpr ⟨(n,x),h,rfl⟩)
   rw [this]
   exact Gr nd.2 h
theorem C0 {n:Nat}:∀ {l:List TK},(∀ k∈l,Ap k<=n)->Bz l<=n
 | [],_=>by unfold Bz;exact bj _
 | d::ds,h=>by unfold Bz;exact Nat.max_le.mpr ⟨h d aQ,C0 fun x hx=>h x (ay _ hx)⟩
theorem Gh (k:Key) (n:Nat):Ap (.at_ k)<=n:=by unfold Ap;exact bj _
theorem Th {x:Rc} (h:Ap x.c<=2):Ap (rcT x)<=3:=by
 unfold rcT Ap
 refine dq (C0 fun k hk=>?_)
 simp only [aI,c7,or_false] at hk
 rcases hk with rfl|rfl|rfl|rfl
 ·exact Gh _ _
 ·exact Gh _ _
 ·exact Gh _ _
 ·exact h
theorem a37 {T:Tr} (o:Gy T):Ap (vkT T)<=8:=by
 unfold vkT Ap
 refine dq (aT (C0 (n:=4) fun k hk=>?_) (by decide))
 obtain⟨n,_,rfl⟩:=List.mem_map.mp hk
 unfold Ap
 refine dq (C0 fun k hk=>?_)
 simp only [aI,c7,or_false] at hk
 rcases hk with rfl|rfl
 ·exact Gh _ _
 ·unfold Qv
  cases e:T.lookup n with
  | none=>unfold Option.map Option.getD Ap Bz;decide
  | some x=>exact Th (o.2.2 (n,x) (Mm e))
noncomputable abbrev ksT (T:Tr):List Key:=T.map fun x=>.inr x.1
noncomputable abbrev dsT (T:Tr):List Dt:=T.map fun x=>tkD (rcT x.2)
theorem R8 {n:Nat}:∀ {ds:List Dt},(∀ d∈ds,dep d<=n)->Cm ds<=n
 | [],_=>by unfold Cm;exact bj _
 | d::ds,h=>by unfold Cm;exact Nat.max_le.mpr ⟨h d aQ,R8 fun x hx=>h x (ay _ hx)⟩
theorem W4 {K:ac} {H:Hp}:∀ {es:List ((Str×Rc)×Addr)},(∀ e∈es,RcAt H e.2 e.1.2)->AtL K H (es.map fun e=>tkD (rcT e.1.2)) (es.map fun e=>V.ref e.2)
 | [],_=>by rw [gg];unfold AtL;rfl
 | e::es,h=>by rw [aY];unfold AtL;exact⟨_,_,rfl,a31 _ (h e aQ).tk,W4 fun x hx=>h x (ay _ hx)⟩
theorem TrAt.dic {K:ac} {ok:Addr->Prop} {H:Hp} {d:Addr} {T:Tr} (h:TrAt ok H d T) (o:Gy T):ap6 K H d (ksT T) (dsT T):=by
 obtain⟨es,rfl,⟨_,e⟩,q⟩:=h
 refine⟨_,.inl e,by simp [aE,fW],?_,R8 fun x hx=>?_⟩
 ·have:=W4 (K:=K) q
  simpa [aE,fW] using this
 ·obtain⟨y,hy,rfl⟩:=List.mem_map.mp hx
  rw [aj0]
  exact aT (Th (o.2.2 y hy)) (by decide)
theorem Ll:∀ (T:Tr) (n:Str),Ee (ksT T) (dsT T) (.inr n)=(T.lookup n).map fun y=>tkD (rcT y)
 | [],_=>rfl
 | (m,y)::T,n=>by
  show (if (.inr m:Key)=.inr n then _ else _)=_
  rw [gp]
  by_cases e:m=n
  ·subst e
   rw [if_pos rfl,beq_self_eq_true];rfl
  ·rw [if_neg (fun z=>e (by injection z)),beq_false_of_ne (fun z=>e z.symm)]
   exact Ll T n
theorem Nu (T':Tr):∀ T:Tr,Ir (ksT T') (dsT T') (ksT T) (dsT T)=true ↔ ∀ x∈T,∃ y,T'.lookup x.1=some y/\rcT x.2=rcT y
 | []=>⟨fun _ x hx=>(by cases hx),fun _=>rfl⟩
 | x::T=>by
  show ((match Ee (ksT T') (dsT T') (.inr x.1) with|none=>false|some d'=>deq (tkD (rcT x.2)) d')&&Ir (ksT T') (dsT T') (ksT T) (dsT T))=true ↔ _
  rw [aP,Nu T' T,Ll,List.forall_mem_cons]
  refine and_congr ?_ Iff.rfl
  cases e:T'.lookup x.1 with
  | none=>exact⟨fun z=>(by cases z),fun⟨y,z,_⟩=>(by cases z)⟩
  | some y=>
   show deq (tkD (rcT x.2)) (tkD (rcT y))=true ↔ _
   rw [a32,decide_eq_true_iff]
   exact⟨fun z=>⟨y,rfl,z⟩,fun⟨y',e1,e2⟩=>by cases e1;exact e2⟩
theorem Sv {α:Type} [DecidableEq α]:∀ {l m:List α},l.Nodup->(∀ z∈l,z∈m)->m.length=l.length->l.Perm m
 | [],m,_,_,h=>by rw [List.length_eq_zero_iff.mp h]
 | a::l,m,nd,hs,h=>by
  obtain⟨na,nd⟩:=List.nodup_cons.mp nd
  have ha:=hs a aQ
  refine ((Sv (m:=m.erase a) nd (fun z hz=>(j5 fun e:z=a=>na (e▸hz)).mpr (hs z (ay _ hz))) ?_).cons a).trans (List.perm_cons_erase ha).symm
  rw [iE ha,h];rfl
theorem N4 {α β:Type} {F G:α->β} (h:∀ a b,F a=G b->a=b):∀ {l m:List α},l.map F=m.map G->l=m
 | [],[],_=>rfl
 | [],_::_,e=>by cases e
 | _::_,[],e=>by cases e
 | a::l,b::m,e=>by
  rw [aY,aY] at e
  injection e with e1 e2
  rw [h a b e1,N4 h e2]
theorem J1 {T:Tr} {n:Str} {x:Rc} (h:T.lookup n=some x):Qv T n=rcT x:=by unfold Qv;rw [h];rfl
theorem be9 {T T':Tr} (o:Gy T) (o':Gy T'):Ug (ksT T) (dsT T) (ksT T') (dsT T')=decide (vkT T=vkT T'):=by
 have nm:∀ {T:Tr} {n:Str},n∈T.map (·.1) -> ∃ x,(n,x)∈T:=fun h=>by obtain⟨⟨n,x⟩,hx,rfl⟩:=List.mem_map.mp h;exact⟨x,hx⟩
 unfold Ug
 rw [bT,aP,decide_eq_true_iff,Nu,beq_iff_eq,ae,ae]
 constructor
 ·rintro⟨hl,ha⟩
  have pm:(T.map (·.1)).Perm (T'.map (·.1)):=Sv o.1 (fun n hn=>by
   obtain⟨x,hx⟩:=nm hn
   obtain⟨y,hy,_⟩:=ha _ hx
   exact cj (f:=lV) (Mm hy)) (by rw [ae,ae,hl])
  unfold vkT
  rw [Lj pm (Mn o.1)]
  congr 1
  refine bL fun n hn=>?_
  obtain⟨x,hx⟩:=nm (pm.mem_iff.mpr ((Az _ _).mem_iff.mp hn))
  obtain⟨y,hy,e⟩:=ha _ hx
  rw [J1 (Gr o.1 hx),J1 hy,e]
 ·intro e
  unfold vkT at e
  injection e with e
  have en:Cs ltS (T.map (·.1))=Cs ltS (T'.map (·.1)):=N4 (fun a b z=>by injection z with z;injection z with z _;injection z with z;injection z) e
  have lens:=congrArg cg en
  rw [(Az _ _).length_eq,(Az _ _).length_eq,ae,ae] at lens
  refine⟨lens,fun x hx=>?_⟩
  have hn:x.1∈Cs ltS (T.map (·.1)):=(Az _ _).mem_iff.mpr (cj hx)
  have hn':x.1∈T'.map (·.1):=(Az _ _).mem_iff.mp (en▸hn)
  obtain⟨y,hy⟩:=nm hn'
  refine⟨y,Gr o'.1 hy,?_⟩
  rw [<- en] at e
  have:=List.map_inj_left.mp e x.1 hn
  injection this with this
  injection this with _ this
  injection this with this _
  rwa [J1 (Gr o.1 (show (x.1,x.2)∈T from hx)),J1 (Gr o'.1 hy)] at this
section
variable {P:aS} {w:bB} {K:ac} {mg:Str->Option ah} {base:Heap} {t:Adr}
theorem av5 (Z:An K t):OkD K Wp (A3 K t) bl (t.f 0) (t.d 0) (M7 K t):=by
 refine okD (n:=40) (t:=bd8 K t) rfl (by decide +kernel) (by kernel_rfl) (fun vs H Q E h=>?_) (fun vs H Q E h=>?_)
 ·obtain⟨a,ms,rfl,_⟩:=h;rfl
 ·obtain⟨a,ms,rfl,hS,k⟩:=h
  refine .inl ⟨⟨_,hS⟩,?_⟩
  refine Bh (Ba (ms.map V.int)) (fun i σ H'=>(∃ v2,σ=[some (.ref a),some (.int (Fo (ms.take i))),v2])/\H'=H) ⟨⟨_,rfl⟩,rfl⟩ (fun i σ H' _ q=>q.2▸hS) ?_ ?_
  ·rintro i x σ H' hx ⟨⟨v2,rfl⟩,rfl⟩
   obtain⟨m,hm,rfl⟩:=Al hx
   have e:Fo (ms.take (i+1))=cS (Fo (ms.take i)) m:=Cg hm _ _
   exact⟨⟨_,congrArg (fun z=>[some (V.ref a),some (V.int z),some (V.int m)]) e.symm⟩,rfl⟩
  ·rintro σ H' ⟨⟨v2,rfl⟩,rfl⟩
   rw [ae,aL]
   exact .inl k
theorem aw0 (Z:An K t):OkD K Wu (A3 K t) bl (t.f 10) (t.d 10) (Rh K t):=by
 refine okD (n:=40) (t:=be3 K t) rfl (by decide +kernel) (by kernel_rfl) (fun vs H Q E h=>?_) (fun vs H Q E h=>?_)
 ·obtain⟨a,ms,rfl,_⟩:=h;rfl
 ·obtain⟨a,ms,rfl,hS,hb,k⟩:=h
  refine .inl ⟨⟨_,hS⟩,?_⟩
  refine Bh (Ba (ms.map fun n:Nat=>V.int (n:Int))) (fun i σ H'=>(∃ v2,σ=[some (.ref a),some (.int (Vp (ms.take i))),v2])/\H'=H) ⟨⟨_,rfl⟩,rfl⟩ (fun i σ H' _ q=>q.2▸hS) ?_ ?_
  ·rintro i x σ H' hx ⟨⟨v2,rfl⟩,rfl⟩
   obtain⟨m,hm,rfl⟩:=Al hx
   have e:Vp (ms.take (i+1))=cS (Vp (ms.take i)) (1 * 2 ^ ((m:Int)).toNat):=by
    rw [iT,aU]
    exact Cg hm _ _
   have hm2:=hb m (am hm)
   refine⟨⟨by omega,by omega,by decide⟩,?_⟩
   exact⟨⟨_,congrArg (fun z=>[some (V.ref a),some (V.int z),some (V.int (m:Int))]) e.symm⟩,rfl⟩
  ·rintro σ H' ⟨⟨v2,rfl⟩,rfl⟩
   rw [ae,aL]
   exact .inl k
theorem a85 (Z:An K t):OkD K ap1 (A3 K t) bl (t.m_zbg 3) (t.e_zbg 3) (am3 K t):=by
 refine okD (n:=40) (t:=bk4 K t) rfl (by decide +kernel) (by kernel_rfl) (fun vs H Q E h=>?_) (fun vs H Q E h=>?_)
 ·obtain⟨p,l,s,sw,rfl,_⟩:=h;rfl
 ·obtain⟨p,l,s,sw,rfl,⟨dx,fs,⟨_,hp⟩,hl,hs,hm⟩,⟨ds,e,⟨_,o⟩,_⟩,k⟩:=h
  refine gy ⟨_,_,_,_,hp,Z.pf.cl,(Z.pf.na _ (by simp)),hl,(.inl ⟨_,.inl (SqL.of o),?_⟩)⟩
  have el:(ds.map fun x=>V.ref x.2).length=(Ak sw).length:=by rw [<- e];simp
  rw [el]
  exact k
theorem a67 (Z:An K t):OkD K an4 (A3 K t) bl (t.m_zbg 0) (t.e_zbg 0) (al3 K t):=by
 refine okD (n:=40) (t:=bi7 K t) rfl (by decide +kernel) (by kernel_rfl) (fun vs H Q E h=>?_) (fun vs H Q E h=>?_)
 ·obtain⟨p,l,s,sw,rfl,_⟩:=h;rfl
 ·obtain⟨p,l,s,sw,rfl,hs,ht,hn,k⟩:=h
  obtain⟨dx,fs,⟨_,hp⟩,_,_,hm⟩:=id hs
  refine⟨p,dx,fs,⟨t.c_zbg,as1 K t⟩,rfl,.head _,hp,hm _ (by decide),⟨aG rfl,aG rfl⟩,?_⟩
  refine⟨p,l,s,sw,rfl,hs,ht,⟨by omega,by omega,by decide⟩,?_⟩
  have e:1 * 2 ^ (((Ak sw).length:Int)).toNat - 1=Lq sw:=by rw [iT,aU];rfl
  show Q (.int (1 * 2 ^ (((Ak sw).length:Int)).toNat - 1)) H
  rw [e]
  exact k
theorem a88 (Z:An K t):OkD K ap3 (A3 K t) bl (t.f 1) (t.d 1) (Z0 K t):=by
 refine okD (n:=40) (t:=bk7 K t) rfl (by decide +kernel) (by kernel_rfl) (fun vs H Q E h=>?_) (fun vs H Q E h=>?_)
 ·obtain⟨z,lo,hi,rfl,_⟩:=h;rfl
 ·obtain⟨z,lo,hi,rfl,hz,k⟩:=h
  exact⟨rfl,aT hz (by decide),Ku k⟩
theorem at8 (Z:An K t):OkD K V9 (A3 K t) bl (t.f 2) (t.d 2) (Qz K t):=by
 refine okD (n:=40) (t:=am8 K t) rfl (by decide +kernel) (by kernel_rfl) (fun vs H Q E h=>?_) (fun vs H Q E h=>?_)
 ·obtain⟨x,rfl,_⟩:=h;rfl
 ·obtain⟨c,rfl,k⟩:=h
  dsimp only [am8,Ae,Aw]
  exact ac3 (s1 := "a") (s2 := "z") (c:=c) (i:=0) (a:=97) (b:=122) (by decide +kernel) (by decide +kernel) (by rfl) k
theorem av6 (Z:An K t):OkD K Wq (A3 K t) bl (t.f 3) (t.d 3) (M8 K t):=by
 refine okD (n:=40) (t:=bd9 K t) rfl (by decide +kernel) (by kernel_rfl) (fun vs H Q E h=>?_) (fun vs H Q E h=>?_)
 ·obtain⟨x,rfl,_⟩:=h;rfl
 ·obtain⟨z,rfl,hz,k⟩:=h
  have hl:z.length<=1000:=aT hz.2.1 (by decide)
  refine⟨z,1,8,rfl,hl,?_⟩
  have e:(decide (1<=(z.length:Int))&&decide ((z.length:Int)<=8))=true:=by
   have h1:=hz.1
   have h2:=hz.2.1
   simp
   omega
  refine N2 e ?_
  refine T7 (p:=Ic) hl (fun c σ H1 Q1 hσ q=>?_) fun H' S=>?_
  ·match σ,hσ with
   | [_],_=>exact⟨c,rfl,q⟩
  ·rw [hz.2.2];exact k H' S
theorem a69 (Z:An K t):OkD K an6 (A3 K t) bl (t.f 4) (t.d 4) (To K t):=by
 refine okD (n:=40) (t:=bi9 K t) rfl (by decide +kernel) (by kernel_rfl) (fun vs H Q E h=>?_) (fun vs H Q E h=>?_)
 ·obtain⟨a,l,rfl,_⟩:=h;rfl
 ·obtain⟨a,l,rfl,hS,hl,k⟩:=h
  refine⟨_,true,.sqL rfl hS rfl,rfl,?_⟩
  refine .inl ⟨⟨_,hS⟩,?_⟩
  refine Nl (K:=K) (σ:=[none]) (Ba (l.map V.str)) (fun σ=>σ.length=1) (fun H1 S=>S.seqL hS) ?_ rfl (fun σ x hσ=>by rw [jH];exact hσ) ?_ fun D1 H1 S1 q1=>⟨_,q1,?_⟩
  ·rw [ae];exact bh hl.2.2 (by decide)
  ·intro x σ H1 Q1 hx hσ S q
   obtain⟨z,hz,rfl⟩:=List.mem_map.mp hx
   match σ,hσ with
   | [_],_=>exact⟨z,rfl,hl.1 z hz,q⟩
  ·rw [Ry]
   refine⟨l,S1.seqL hS,bh hl.2.2 (by decide),.inl ⟨_,.inl (S1.seqL hS),?_⟩⟩
   rw [ad8 hl.2.1,ae]
   have e:decide ((l.length:Int)=(l.length:Int))=true:=by simp
   show Q (.bl (decide ((l.length:Int)=(l.length:Int)))) H1
   rw [e]
   exact k H1 S1
theorem at9 (Z:An K t):OkD K Wa (A3 K t) bl (t.f 6) (t.d 6) (Q0 K t):=by
 refine okD (n:=40) (t:=bc2 K t) rfl (by decide +kernel) (by kernel_rfl) (fun vs H Q E h=>?_) (fun vs H Q E h=>?_)
 ·obtain⟨a,b,wd,l,rfl,_⟩:=h;rfl
 ·obtain⟨a,b,wd,l,rfl,ha,hb,hw,hl,k⟩:=h
  have qa:=SqT.of (K:=K) ha
  have qb:=SqL.of (K:=K) hb
  refine⟨_,true,.sqT rfl qa rfl,rfl,?_⟩
  refine .inl ⟨_,.inr qa,?_⟩
  refine⟨_,_,.inr qa,rfl,?_⟩
  refine⟨wd,rfl,hw,fun H1 S1=>?_⟩
  refine⟨_,_,.inr (S1.seqT qa),rfl,?_⟩
  refine⟨b,l,rfl,S1.seqL qb,hl.1,fun H2 S2=>?_⟩
  have S:=S1.trans S2
  refine⟨_,_,.inr (S.seqT qa),rfl,.inl ⟨_,.inl (S.seqL qb),?_⟩⟩
  rw [ae]
  have e:(decide (2<=(l.length:Int))&&decide ((l.length:Int)<=4))=true:=by
   have h1:=hl.2.1
   have h2:=hl.2.2
   simp
   omega
  exact Ku (e▸k H2 S)
theorem Mo {es:List ((Str×List Str)×Addr)} {sw:Sw} {i:Nat} {e:Str×List Str} (he:es.map (·.1)=sw.take i) (hi:sw[i]? = some e) (nd:(sw.map (·.1)).Nodup):Bs (es.map kR) (.inr e.1)=none:=by
 refine Bx ?_
 rw [Ia,he]
 intro hm
 obtain⟨w,hw,e2⟩:=List.mem_map.mp hm
 cases e2
 have h1:(sw.map (·.1))[i]? = some e.1:=by rw [ak,hi];rfl
 rw [iV] at hw
 obtain⟨j,hj,e3⟩:=List.mem_iff_getElem.mp hw
 rw [aH] at hj
 rw [iD] at e3
 have hi2:=Aj h1
 have e4:(sw.map (·.1))[i]=e.1:=by
  have:=af hi2
  rw [this] at h1
  exact av h1
 have:=(cJ (i:=j) (j:=i) (h₀:=by omega) (h₁:=hi2) nd).mp (by rw [e3,e4])
 omega
theorem Hz {es:List ((Str×List Str)×Addr)} {e:Str×List Str} {a:Addr} (h:Bs (es.map kR) (.inr e.1)=none):Cq (es.map kR) (.inr e.1) (.ref a)=(es++[(e,a)]).map kR:=by
 rw [Ds _ h,ax]
 rfl
theorem Pz {α β:Type} {es:List (α×β)} {sw:List α} {i:Nat} (h:es.map (·.1)=sw.take i):es.length<=sw.length:=by
 have:=congrArg cg h
 rw [ae,aH] at this
 omega
theorem Fx {α β:Type} {es:List (α×β)} {sw:List α} {i:Nat} {e:α} {a:β} (h:es.map (·.1)=sw.take i) (hi:sw[i]? = some e):(es++[(e,a)]).map (·.1)=sw.take (i+1):=by
 rw [ax,h,aV,hi]
 rfl
theorem a74 (Z:An K t):OkD K ao1 (A3 K t) bl (t.f 7) (t.d 7) (Zu K t):=by
 refine okD (n:=40) (t:=bj4 K t) rfl (by decide +kernel) (by kernel_rfl) (fun vs H Q E h=>?_) (fun vs H Q E h=>?_)
 ·obtain⟨a,sw,rfl,_⟩:=h;rfl
 ·obtain⟨a,sw,rfl,⟨ds,ed,⟨_,oa⟩,hd⟩,hw,k⟩:=h
  have ql:=SqL.of (K:=K) oa
  have el:(ds.map fun x=>V.ref x.2).length=sw.length:=by rw [<- ed];simp
  refine⟨_,true,.sqL rfl ql rfl,rfl,?_⟩
  refine .inl ⟨_,.inl ql,?_⟩
  rw [el]
  have e1:decide (1<=(sw.length:Int))=true:=by have:=hw.1;simp;omega
  have e2:decide ((sw.length:Int)<=5)=true:=by have:=hw.2.1;simp;omega
  refine N2 e1 (Hb (by rw [e2];rfl) ?_)
  intro d hd0
  refine .inl (.inl ⟨⟨_,(Same.upd hd0).seqL ql⟩,?_⟩)
  refine Bh (Ba (ds.map fun x=>V.ref x.2)) (fun i σ H'=>(∃ v3,σ=[some (.ref a),some (.ref d),some (.int (By (sw.take i):Nat)),v3])/\Same H H' /\
    ∃ es:List ((Str×List Str)×Addr),es.map (·.1)=sw.take i/\H' d=some (.dK (es.map kR)) /\ ∀ x∈es,H x.2=none/\H' x.2=some (Cw x.1.2))
   ⟨⟨_,rfl⟩,Same.upd hd0,[],rfl,Aa,fun x hx=>by cases hx⟩ (fun i σ H' _ q=>q.2.1.seqL ql) ?_ ?_
  ·rintro i x σ H1 hx ⟨⟨v3,rfl⟩,S1,es,ee,e1d,he⟩
   obtain⟨⟨⟨e,la⟩,ta⟩,hi,rfl⟩:=Al hx
   have hi2:sw[i]? = some e:=by rw [<- ed,ak,hi];rfl
   obtain⟨⟨_,h1⟩,_,h2⟩:=hd _ (am hi)
   have hok:=hw.2.2.2.1 e (am hi2)
   have nk:=Mo ee hi2 hw.2.2.1
   refine⟨ta,la,e.1,e.2,rfl,S1 _ _ h1,S1 _ _ h2,hok.1,hok.2,fun H2 S2=>?_⟩
   have S:=S1.trans S2
   have qt:=SqT.of (K:=K) (S _ _ h1)
   have qa:=SqL.of (K:=K) (S _ _ h2)
   refine⟨_,_,.inr qt,rfl,.inr ⟨_,DGet.k (k:=.inr e.1) (S2 _ _ e1d),?_⟩⟩
   rw [nk]
   refine⟨_,_,.inr qt,rfl,_,.inl ⟨qa,fun tp htp=>?_⟩⟩
   have S3:=Same.upd (o:=Cw e.2) htp
   have et:upd H2 tp (Cw e.2) tp=some (Cw e.2):=Aa
   show Cc K (Ab 1) (Ah (A5 K) (Ab 3) (dC (.int 0))) (.ref tp) [some (.ref a),some (.ref d),some (.int (By (sw.take i):Nat)),some (.ref ta)] (upd H2 tp (Cw e.2)) _
   have hft:H tp=none:=S.free htp
   generalize upd H2 tp (Cw e.2)=H3 at S3 et ⊢
   have Sa:=S.trans S3
   have e3d:=S3 _ _ (S2 _ _ e1d)
   have ndt:d≠tp:=Ai (S2 _ _ e1d) htp
   refine⟨_,_,.inr (S3.seqT qt),rfl,_,DPut.k (k:=.inr e.1) e3d ?_,?_⟩
   ·rw [ae]
    have:=Pz ee
    have:=hw.2.1
    exact bh (show es.length<=5 by omega) (by decide)
   rw [Hz nk]
   have Sb:Same H (upd H3 d (.dK ((es++[(e,tp)]).map kR))):=Sa.set hd0
   have keep:∀ b,b≠d->upd H3 d (.dK ((es++[(e,tp)]).map kR)) b=H3 b:=fun b hb=>Ad hb
   have ebd:upd H3 d (.dK ((es++[(e,tp)]).map kR)) d=some (.dK ((es++[(e,tp)]).map kR)):=Aa
   generalize upd H3 d (.dK ((es++[(e,tp)]).map kR))=H4 at Sb keep ebd ⊢
   refine⟨_,_,.inr (SqT.of (Sb _ _ h1)),rfl,.inl ⟨_,.inl (SqL.of (Sb _ _ h2)),?_⟩⟩
   rw [ae]
   have pm:((By (sw.take i):Nat):Int) * (e.2.length:Int)=((By (sw.take (i+1)):Nat):Int):=by
    unfold By
    rw [Cg hi2,jD]
   have hb4:=hok.2.2.2
   refine⟨.inr ⟨show -(2 ^ 64)<(e.2.length:Int) by omega,show (e.2.length:Int)<2 ^ 64 by omega⟩,?_⟩
   refine⟨⟨_,congrArg (fun z=>[some (V.ref a),some (V.ref d),some (V.int z),some (V.ref ta)]) pm⟩,Sb,es++[(e,tp)],Fx ee hi2,ebd,?_⟩
   intro x hx
   rcases List.mem_append.mp hx with hx|hx
   ·obtain⟨a1,a2⟩:=he x hx
    refine⟨a1,?_⟩
    rw [keep x.2 (fun z=>by rw [z,e1d] at a2;cases a2)]
    exact S3 _ _ (S2 _ _ a2)
   ·have:x=(e,tp):=by simpa using hx
    subst this
    exact⟨hft,by rw [keep _ (cB ndt)];exact et⟩
  ·rintro σ H1 ⟨⟨v3,rfl⟩,S1,es,ee,e1d,he⟩
   rw [el,aL] at ee
   rw [el,aL]
   refine .inl (Hb ?_ ?_)
   ·have:=hw.2.2.2.2
    simp
    omega
   ·exact k H1 d S1 ⟨es,ee,⟨hd0,e1d⟩,he⟩
theorem a80 (Z:An K t):OkD K ao7 (A3 K t) bl (t.f 5) (t.d 5) (Zx K t):=by
 refine okD (n:=40) (t:=bk0 K t) rfl (by decide +kernel) (by kernel_rfl) (fun vs H Q E h=>?_) (fun vs H Q E h=>?_)
 ·obtain⟨r,rule,rfl,_⟩:=h;rfl
 ·obtain⟨r,rule,rfl,⟨ds,ed,⟨_,od⟩,hd⟩,nd,hl,k⟩:=h
  intro c hc
  have ncr:r≠c:=Ai od hc
  have od1:upd H c (.dK []) r=some (.dK (ds.map kR)):=by rw [Ad ncr];exact od
  refine .inl (.inr (.inr (.inl (.inl ⟨_,od1,fun o=>?_⟩))))
  have Hf:∀ b u,b≠r->H b=some u->upd (upd H c (.dK [])) r (.frz o (.dK (ds.map kR))) b=some u:=fun b u hb e=>by
   rw [Ad hb,Ad (Ai e hc)];exact e
  have ef:upd (upd H c (.dK [])) r (.frz o (.dK (ds.map kR))) r=some (.frz o (.dK (ds.map kR))):=Aa
  have ec:upd (upd H c (.dK [])) r (.frz o (.dK (ds.map kR))) c=some (.dK []):=by rw [Ad (cB ncr),Aa]
  have len:ds.length=rule.length:=by rw [<- ed];simp
  generalize upd (upd H c (.dK [])) r (.frz o (.dK (ds.map kR)))=H0 at Hf ef ec ⊢
  refine Bh (Fb (ds.map kR)) (fun i σ H'=>(∃ v2,σ=[some (.ref r),some (.ref c),v2])/\(∀ b u,b≠r->H b=some u->H' b=some u)/\H' r=some (.frz o (.dK (ds.map kR))) /\
    ∃ es:List ((Str×List Str)×Addr),es.map (·.1)=rule.take i/\H' c=some (.dK (es.map kR)) /\ ∀ x∈es,H x.2=none/\H' x.2=some (Be x.1.2))
   ⟨⟨_,rfl⟩,Hf,ef,[],rfl,ec,fun x hx=>by cases hx⟩ (fun i σ H' _ q=>q.2.2.1) ?_ ?_
  ·rintro i x σ H1 hx ⟨⟨v2,rfl⟩,S1,f1,es,ee,e1c,he⟩
   obtain⟨kv,hi0,rfl⟩:=Al hx
   obtain⟨⟨e,la⟩,hi,rfl⟩:=Al hi0
   have hi2:rule[i]? = some e:=by rw [<- ed,ak,hi];rfl
   obtain⟨_,h2⟩:=hd _ (am hi)
   have nla:la≠r:=fun z=>by rw [z,od] at h2;cases h2
   have nk:=Mo ee hi2 nd
   have hv:Bs (ds.map kR) (.inr e.1)=some (.ref la):=Bg (D4 ed nd) hi0
   refine⟨.ref la,.inl ⟨_,.inr e.1,.inr ⟨o,f1⟩,rfl,hv.symm⟩,.inl ⟨_,.inl (SqL.of (S1 _ _ nla h2)),fun lc hlc=>?_⟩⟩
   have S3:=Same.upd (o:=Be e.2) hlc
   have et:upd H1 lc (Be e.2) lc=some (Be e.2):=Aa
   have nlr:lc≠r:=(Ai f1 hlc).symm
   have hft:H lc=none:=by
    cases q:H lc with
    | none=>rfl
    | some u=>rw [S1 _ _ nlr q] at hlc;cases hlc
   have ndt:c≠lc:=Ai e1c hlc
   show Cc K (Ab 1) (Ab 2) (.ref lc) [some (.ref r),some (.ref c),some (.str e.1)] (upd H1 lc (Be e.2)) _
   generalize upd H1 lc (Be e.2)=H3 at S3 et ⊢
   refine⟨_,DPut.k (k:=.inr e.1) (S3 _ _ e1c) ?_,?_⟩
   ·rw [ae]
    have:=Pz ee
    exact bh (show es.length<=100 by omega) (by decide)
   rw [Hz nk]
   refine⟨⟨_,rfl⟩,fun b u hb e4=>?_,?_,es++[(e,lc)],Fx ee hi2,Aa,?_⟩
   ·rw [Ad (Ai e4 hc)];exact S3 _ _ (S1 _ _ hb e4)
   ·rw [Ad ncr];exact S3 _ _ f1
   ·intro x hx
    rcases List.mem_append.mp hx with hx|hx
    ·obtain⟨a1,a2⟩:=he x hx
     refine⟨a1,?_⟩
     rw [Ad (fun z=>by rw [z,e1c] at a2;cases a2)]
     exact S3 _ _ a2
    ·have:x=(e,lc):=by simpa using hx
     subst this
     exact⟨hft,by rw [Ad (cB ndt)];exact et⟩
  ·rintro σ H1 ⟨⟨v2,rfl⟩,S1,f1,es,ee,e1c,he⟩
   rw [ae,ae,len,aL] at ee
   refine .inr ⟨r,o,_,od1,f1,?_⟩
   refine k _ c (fun b u e4=>?_) ⟨es,ee,⟨hc,?_⟩,fun x hx=>⟨(he x hx).1,?_⟩⟩
   ·by_cases hb:b=r
    ·subst hb;rw [Aa,<- od,e4]
    ·rw [Ad hb];exact S1 _ _ hb e4
   ·rw [Ad (cB ncr)];exact e1c
   ·rw [Ad (fun z=>by have:=(he x hx).1;rw [z,od] at this;cases this)];exact (he x hx).2
theorem Lf:∀ (a:List (List Str)) (r:List Str) (k:Nat),Jt k (a++[r])=Jt k a++[(Kk r,.int ((k+a.length:Nat):Int))]
 | [],r,k=>rfl
 | b::a,r,k=>by
  rw [i_,Jt,Lf a r (k+1),Jt,aK,i_,show k+1+a.length=k+(a.length+1) by omega]
theorem Le:∀ (a:List (List Str)) (k:Nat),(Jt k a).map (·.1)=a.map Kk
 | [],_=>rfl
 | b::a,k=>by rw [Jt,aY,aY,Le a]
theorem Of:∀ (a:List (List Str)) (k:Nat),(Jt k a).length=a.length
 | [],_=>rfl
 | b::a,k=>by rw [Jt,aK,aK,Of a]
theorem Yf {a b:List Str} (h:Kk a=Kk b):a=b:=by
 unfold Kk at h
 injection h with h
 exact (List.map_inj_right (fun x y e=>by injection e with e;injection e)).mp h
theorem Id {H:Hp}:∀ r:List Str,As H (r.map fun z=>.at_ (.inr z)) (r.map V.str)/\Bz (r.map fun z=>.at_ (.inr z))=0
 | []=>⟨by unfold As;rfl,rfl⟩
 | z::r=>⟨by rw [aY];unfold As;exact⟨_,_,rfl,by unfold TkAt;rfl,(Id r).1⟩,by rw [aY,Bz,(Id (H:=H) r).2];rfl⟩
theorem at4 {H:Hp} {b:Addr} {r:List Str} (h:H b=some (Cw r)):Ap (Kk r)<=8/\TkAt H (Kk r) (.ref b):=by
 refine⟨?_,?_⟩
 ·unfold Kk Ap;rw [(Id (H:=H) r).2];decide
 ·unfold Kk TkAt;exact⟨b,_,rfl,h,(Id r).1⟩
theorem Dv {α:Type} {l:List α} {i:Nat} {x:α} (nd:l.Nodup) (h:l[i]? = some x):¬ x∈l.take i:=by
 intro hm
 obtain⟨j,hj,e⟩:=List.mem_iff_getElem.mp hm
 rw [aH] at hj
 rw [iD] at e
 have hi:=Aj h
 rw [af hi] at h
 have:=(cJ (i:=j) (j:=i) (h₀:=by omega) (h₁:=hi) nd).mp (by rw [e];exact (av h).symm)
 omega
theorem a65 (Z:An K t):OkD K an2 (A3 K t) bl (t.f 9) (t.d 9) (Zo K t):=by
 refine okD (n:=40) (t:=bi5 K t) rfl (by decide +kernel) (by kernel_rfl) (fun vs H Q E h=>?_) (fun vs H Q E h=>?_)
 ·obtain⟨l,rows,rfl,_⟩:=h;rfl
 ·obtain⟨l,rows,rfl,⟨ds,ed,⟨_,ol⟩,hd⟩,nd,hl,k⟩:=h
  intro n hn
  have ql:=SqL.of (K:=K) ol
  have len:(Dm 0 (ds.map fun x=>V.ref x.2)).length=rows.length:=by rw [Bf,<- ed];simp
  refine .inr (.inl ⟨⟨_,(Same.upd hn).seqL ql⟩,?_⟩)
  refine Hu (Ef (ds.map fun x=>V.ref x.2)) (fun i σ H'=>(∃ v2 v3,σ=[some (.ref l),some (.ref n),v2,v3])/\Same H H'/\H' n=some (.dT (Jt 0 (rows.take i))))
   ⟨⟨_,_,rfl⟩,Same.upd hn,Aa⟩ (fun i σ H' _ q=>q.2.1.seqL ql) ?_ ?_
  ·rintro i x y T σ H1 hxy hT ⟨⟨v2,v3,rfl⟩,S1,e1⟩
   have hi':=Aj hxy
   rw [Bf,ae] at hi'
   obtain⟨⟨r,b⟩,hi⟩:∃ z,ds[i]? = some z:=⟨_,af hi'⟩
   have:=Cf (k:=0) (xs:=ds.map fun x=>V.ref x.2) (i:=i) (x:=.ref b) (by rw [ak,hi];rfl)
   rw [this] at hxy
   obtain⟨rfl,rfl⟩:V.int ((0+i:Nat):Int)=x/\V.ref b=y:=by simpa using hxy
   have hi2:rows[i]? = some r:=by rw [<- ed,ak,hi];rfl
   have hb:=(hd _ (am hi)).2
   have ST:=Same.upd (o:=.tup [.int ((0+i:Nat):Int),.ref b]) hT
   refine⟨_,.inl (SqT.of Aa),rfl,?_⟩
   generalize upd H1 T (.tup [.int ((0+i:Nat):Int),.ref b])=H2 at ST ⊢
   have S2:=S1.trans ST
   have hb2:=S2 _ _ hb
   refine⟨_,DPut.t (ST _ _ e1) (at4 hb2) ?_,⟨_,_,rfl⟩,S2.set hn,?_⟩
   ·rw [Of,aH]
    exact bh (show min i rows.length<=256 by omega) (by decide)
   ·rw [Aa,Ds,aV,hi2,cA,Lf,aH,Nat.min_eq_left (dy (Aj hi2))]
    refine Bx ?_
    rw [Le]
    intro hm
    obtain⟨r2,h1,h2⟩:=List.mem_map.mp hm
    rw [Yf h2] at h1
    exact Dv nd hi2 h1
  ·rintro σ H1 ⟨⟨v2,v3,rfl⟩,S1,e1⟩
   rw [len,aL] at e1
   exact .inl (k H1 n S1 ⟨hn,e1⟩)
theorem bf5 {H:Hp} {aa p:Addr} {a:List Str} {z:Str} {Q:VK} (ha:H aa=some (Cw a)) (hp:H p=some (.tup [.str z])) (hl:a.length<=100) (k:∀ q H',Same H H'->H' q=some (Cw (a++[z]))->(H q=none\/q=p)->Q (.ref q) H'):A9 K (.ref aa) (.ref p) H Q:=by
 cases a with
 | nil=>exact .inr (.inr ⟨aa,p,_,rfl,rfl,SqT.of ha,SqT.of hp,k p H (Same.refl _) hp (.inr rfl)⟩)
 | cons y a=>
  refine .inr (.inl ⟨aa,p,_,_,rfl,rfl,SqT.of ha,SqT.of hp,by simp,?_,(fun e=>by cases e),fun _ q hq=>?_⟩)
  ·rw [ae]
   exact aT (show (y::a).length+1<=101 by omega) (by decide)
  ·refine k q _ (Same.upd hq) ?_ (.inl hq)
   rw [Aa,Cw,ax]
   rfl
theorem Uh {α:Type} {ok:Addr->Prop} {H:Hp} {f:α->HO} {es:List (α×Addr)} {e:α} {a:Addr} (h:∀ x∈es,ok x.2/\H x.2=some (f x.1)) (h1:ok a) (h2:H a=some (f e)):∀ x∈es++[(e,a)],ok x.2/\H x.2=some (f x.1):=by
 intro x hx
 rcases List.mem_append.mp hx with hx|hx
 ·exact h x hx
 ·have:x=(e,a):=by simpa using hx
  subst this
  exact⟨h1,h2⟩
theorem ac5 {α:Type} {ok:Addr->Prop} {H H':Hp} {f:α->HO} {es:List (α×Addr)} (S:Same H H') (h:∀ x∈es,ok x.2/\H x.2=some (f x.1)):∀ x∈es,ok x.2/\H' x.2=some (f x.1):=fun x hx=>⟨(h x hx).1,S _ _ (h x hx).2⟩
theorem Vs {rows:List (List Str)} {j:Nat} {r:List Str} {x:Str×List Str} (h:rows[j]? = some r):Du (rows.take (j+1)) x=Du (rows.take j) x++x.2.map fun z=>r++[z]:=by
 unfold Du
 rw [aV,h,cA,List.flatMap_append]
 simp
theorem Qb {E:EK} {H0 H:Hp} {aa ta:Addr} {a:List Str} {l:List Str} {σ:St} {R:Hp->Addr->Prop} (hσ:∃ v,σ=[v,some (.ref aa)]) (S0:Same H0 H) (ha:H aa=some (Cw a)) (ht:H ta=some (Cw l)) (hl:a.length<=100) (hl2:l.length<=8)
  (k:∀ D H',Same H H'->H D=none -> ∀ fs:List (List Str×Addr),fs.map (·.1)=l.map (fun z=>a++[z])->H' D=some (.lst (fs.map fun x=>.ref x.2))->(∀ x∈fs,H0 x.2=none/\H' x.2=some (Cw x.1))->R H' D) :
  ∀ D,H D=none->El (Itt K ta) (gdN 0) B3 (Ah (A9 K) (Ab 1) (Fg (Ac (Ab 0) Af))) D (fun H'=>R H' D) σ (upd H D (.lst [])) E:=by
 intro D hD
 refine Dg (ab0 (l.map V.str)) (fun m σ H'=>(∃ v,σ=[v,some (.ref aa)])/\Same H H' /\ ∃ fs:List (List Str×Addr),fs.map (·.1)=(l.take m).map (fun z=>a++[z])/\H' D=some (.lst (fs.map fun x=>.ref x.2)) /\ ∀ x∈fs,H0 x.2=none/\H' x.2=some (Cw x.1))
  ⟨hσ,Same.upd hD,[],rfl,Aa,fun x hx=>by cases hx⟩ (fun m σ H' _ q=>q.2.1.seqT (SqT.of ht)) ?_ ?_
 ·rintro m x σ H1 hx ⟨⟨v,rfl⟩,S1,fs,ef,eD,hf⟩
  obtain⟨z,hz,rfl⟩:=Al hx
  refine⟨(show 1<=sizeLine by decide),fun p hp=>?_⟩
  have Sp:=Same.upd (o:=.tup [.str z]) hp
  have ep:upd H1 p (.tup [.str z]) p=some (.tup [.str z]):=Aa
  show A9 K (.ref aa) (.ref p) (upd H1 p (.tup [.str z])) _
  generalize upd H1 p (.tup [.str z])=H2 at Sp ep ⊢
  refine bf5 (Sp _ _ (S1 _ _ ha)) ep hl fun q H3 S3 eq nq=>?_
  have S03:=S0.trans (S1.trans (Sp.trans S3))
  have hq0:H0 q=none:=by
   rcases nq with nq|rfl
   ·exact (S0.trans (S1.trans Sp)).free nq
   ·exact (S0.trans S1).free hp
  have qD:q≠D:=by
   rcases nq with nq|rfl
   ·exact (Ai (Sp _ _ eD) nq).symm
   ·exact (Ai eD hp).symm
  have eD3:=S3 _ _ (Sp _ _ eD)
  refine⟨_,eD3,?_,⟨_,rfl⟩,(S1.trans (Sp.trans S3)).set hD,fs++[(a++[z],q)],?_,?_,?_⟩
  ·rw [ae]
   have:=congrArg cg ef
   rw [ae,ae,aH] at this
   exact bh (show fs.length<=8 by omega) (by decide)
  ·rw [ax,ef,B7 hz];rfl
  ·rw [Aa,ax];rfl
  ·have hf3:∀ x∈fs++[(a++[z],q)],H0 x.2=none/\H3 x.2=some (Cw x.1):=Uh (ok:=fun a=>H0 a=none) (f:=Cw) (ac5 (ok:=fun a=>H0 a=none) (f:=Cw) (Sp.trans S3) hf) hq0 eq
   intro x hx
   refine⟨(hf3 x hx).1,?_⟩
   rw [Ad (fun e=>by have:=(hf3 x hx).2;rw [e,eD3] at this;cases this)]
   exact (hf3 x hx).2
 ·rintro σ H1 ⟨_,S1,fs,ef,eD,hf⟩
  rw [ae,aL] at ef
  exact k D H1 S1 hD fs ef eD hf
theorem a66 (Z:An K t):OkD K an3 (A3 K t) bl (t.f 8) (t.d 8) (Zs K t):=by
 refine okD (n:=40) (t:=bi6 K t) rfl (by decide +kernel) (by kernel_rfl) (fun vs H Q E h=>?_) (fun vs H Q E h=>?_)
 ·obtain⟨d,sw,rfl,_⟩:=h;rfl
 ·obtain⟨d,sw,rfl,⟨ds,ed,⟨_,od⟩,hd⟩,hw,k⟩:=h
  refine⟨(show 0<=sizeLine by decide),fun t0 h0=>⟨(show 1<=sizeLine by decide),fun l0 hl0=>?_⟩⟩
  have St:=Same.upd (o:=.tup []) h0
  have Sl:=Same.upd (o:=.lst [.ref t0]) hl0
  have ft:H t0=none:=h0
  have fl:H l0=none:=St.free hl0
  have et:upd (upd H t0 (.tup [])) l0 (.lst [.ref t0]) t0=some (Cw []):=Sl _ _ Aa
  have el:upd (upd H t0 (.tup [])) l0 (.lst [.ref t0]) l0=some (.lst [.ref t0]):=Aa
  have S0:=St.trans Sl
  generalize upd (upd H t0 (.tup [])) l0 (.lst [.ref t0])=H0 at S0 et el ⊢
  have od0:=S0 _ _ od
  refine .inr (.inr (.inl (.inl ⟨_,od0,fun o=>?_⟩)))
  have len:ds.length=sw.length:=by rw [<- ed];simp
  have kf:Kp (fresh H) H0 (fresh H) (upd H0 d (.frz o (.dK (ds.map kR)))):=Kp.off (E9 od)
  have ef:upd H0 d (.frz o (.dK (ds.map kR))) d=some (.frz o (.dK (ds.map kR))):=Aa
  have ht0:∀ x∈ds,upd H0 d (.frz o (.dK (ds.map kR))) x.2=some (Cw x.1.2):=fun x hx=>by
   rw [Ad (fun e=>by have:=(hd x hx).2;rw [e,od] at this;cases this)]
   exact S0 _ _ (hd x hx).2
  have T0:TupsAt (fresh H) (upd H0 d (.frz o (.dK (ds.map kR)))) l0 (Ak (sw.take 0)):=⟨[([],t0)],rfl,kf _ _ ⟨fl,el⟩,fun x hx=>by
   have:x=([],t0):=by simpa using hx
   subst this
   exact kf _ _ ⟨ft,et⟩⟩
  have frees:∀ {H':Hp} {b:Addr},Same (upd H0 d (.frz o (.dK (ds.map kR)))) H'->H' b=none->H b=none:=fun {H' b} S e=>by
   have e1:=S.free e
   have nb:b≠d:=fun z=>by rw [z,ef] at e1;cases e1
   rw [Ad nb] at e1
   exact S0.free e1
  generalize hHf:upd H0 d (.frz o (.dK (ds.map kR)))=Hf at kf ef ht0 T0 frees ⊢
  refine Bh (Fb (ds.map kR)) (fun i σ H'=>(∃ l v2 v3 v4,σ=[some (.ref d),some (.ref l),v2,v3,v4]/\TupsAt (fresh H) H' l (Ak (sw.take i)))/\Same Hf H') ⟨⟨_,_,_,_,rfl,T0⟩,Same.refl _⟩ (fun i σ H' _ q=>q.2 _ _ ef) ?_ ?_
  ·rintro i x σ H1 hx ⟨⟨l,v2,v3,v4,rfl,⟨es,ee,⟨fl1,el1⟩,he⟩⟩,S1⟩
   obtain⟨kv,hi0,rfl⟩:=Al hx
   obtain⟨⟨e,ta⟩,hi,rfl⟩:=Al hi0
   have hi2:sw[i]? = some e:=by rw [<- ed,ak,hi];rfl
   have hta:=ht0 _ (am hi)
   have hoke:=hw.sets e (am hi2)
   have hv:Bs (ds.map kR) (.inr e.1)=some (.ref ta):=Bg (D4 ed hw.2.2.1) hi0
   refine⟨by decide,fun l2 hl2=>.inl ⟨⟨_,(Same.upd hl2).seqL (SqL.of el1)⟩,?_⟩⟩
   have f2:H l2=none:=frees S1 hl2
   have Sl2:=Same.upd (o:=.lst []) hl2
   have rl:∀ r∈Ak (sw.take i),r.length<=100:=fun r hr=>by
    have h1:=(Ga (sw:=sw.take i) (fun x hx=>hw.sets x (fb hx))).2.1 r hr
    rw [h1,aH]
    have:=hw.2.1
    omega
   have lenr:es.length=(Ak (sw.take i)).length:=by rw [<- ee];simp
   have few:(Ak (sw.take i)).length<=256:=by rw [F8];exact aT (Ve hw i) hw.2.2.2.2
   refine Bh (Ba (es.map fun x=>V.ref x.2)) (fun j σ H'=>(∃ v4,σ=[some (.ref d),some (.ref l),some (.str e.1),some (.ref l2),v4])/\Same H1 H' /\ ∃ fs:List (List Str×Addr),fs.map (·.1)=Du ((Ak (sw.take i)).take j) e /\
     H' l2=some (.lst (fs.map fun x=>.ref x.2)) /\ ∀ x∈fs,H x.2=none/\H' x.2=some (Cw x.1))
    ⟨⟨_,rfl⟩,Sl2,[],rfl,Aa,fun x hx=>by cases hx⟩ (fun j σ H' _ q=>q.2.1.seqL (SqL.of el1)) ?_ ?_
   ·rintro j y σ H2 hy ⟨⟨v4,rfl⟩,S2,fs,efs,e2l,hf⟩
    obtain⟨⟨r,ra⟩,hj,rfl⟩:=Al hy
    have hj2:(Ak (sw.take i))[j]? = some r:=by rw [<- ee,ak,hj];rfl
    obtain⟨_,hra⟩:=he _ (am hj)
    have S12:=S1.trans S2
    refine⟨.inl ⟨rfl,_,SqL.of e2l⟩,.ref ta,.inl ⟨_,.inr e.1,.inr ⟨o,S12 _ _ ef⟩,rfl,hv.symm⟩,.inr (.inl ⟨⟨_,SqT.of (S12 _ _ hta)⟩,?_⟩)⟩
    refine Qb (H0:=H1) ⟨_,rfl⟩ S2 (S2 _ _ hra) (S12 _ _ hta) (rl r (am hj2)) (aT hoke.2.2 (by decide)) fun D H3 S3 hD gs eg eD hg=>?_
    have e3l:=S3 _ _ e2l
    have lfs:fs.length<=1024:=by
     have:=congrArg cg efs
     rw [ae,Lk,aH] at this
     have h4:=hoke.2.2
     have:min j (Ak (sw.take i)).length * e.2.length<=256 * 4:=Nat.mul_le_mul (by omega) h4
     omega
    have lgs:gs.length<=4:=by
     have h1:gs.length=e.2.length:=by simpa using congrArg cg eg
     have h2:e.2.length<=4:=hoke.2.2
     omega
    refine⟨l2,D,_,_,rfl,rfl,e3l,eD,?_,⟨_,rfl⟩,(S2.trans S3).set hl2,fs++gs,?_,?_,?_⟩
    ·rw [ae,ae]
     exact aT (show fs.length+gs.length<=1028 by omega) (by decide)
    ·rw [ax,efs,eg,Vs hj2]
    ·rw [Aa,ax]
    ·have h3:∀ x∈fs++gs,H x.2=none/\H3 x.2=some (Cw x.1):=fun x hx=>by
      rcases List.mem_append.mp hx with hx|hx
      ·exact⟨(hf x hx).1,S3 _ _ (hf x hx).2⟩
      ·exact⟨frees S1 (hg x hx).1,(hg x hx).2⟩
     intro x hx
     refine⟨(h3 x hx).1,?_⟩
     rw [Ad (fun e=>by have:=(h3 x hx).2;rw [e,e3l] at this;cases this)]
     exact (h3 x hx).2
   ·rintro σ H2 ⟨⟨v4,rfl⟩,S2,fs,efs,e2l,hf⟩
    rw [ae,lenr,aL] at efs
    refine .inl ⟨⟨_,_,_,_,rfl,fs,?_,⟨f2,e2l⟩,hf⟩,S1.trans S2⟩
    rw [efs]
    exact (Cg hi2 _ _).symm
  ·rintro σ H1 ⟨⟨l,v2,v3,v4,rfl,T1⟩,S1⟩
   rw [ae,ae,len,aL] at T1
   refine .inr ⟨d,o,_,od0,S1 _ _ ef,?_⟩
   exact k _ l (S0.trans (Same.thaw od0 (hHf▸S1))) (T1.mono (Kp.off (E9 od)))
noncomputable def Off (d:Addr) (H H':Hp):Prop:=∀ b u,b≠d->H b=some u->H' b=some u
theorem Off.up {d:Addr} {H H1 H2:Hp} (h:Off d H H1) (S:Same H1 H2):Off d H H2:=fun b u n e=>S _ _ (h b u n e)
theorem Off.set {d a:Addr} {o:HO} {H H1:Hp} (h:Off d H H1) (e:H a=none):Off d H (upd H1 a o):=fun b u n q=>by rw [Ad (Ai q e)];exact h b u n q
theorem Off.free {d b:Addr} {H H1:Hp} (h:Off d H H1) (n:b≠d) (e:H1 b=none):H b=none:=by
 cases q:H b with
 | none=>rfl
 | some u=>rw [h b u n q] at e;cases e
theorem Off.thaw {d:Addr} {kvs:List (Key×V)} {H H1:Hp} (h:Off d H H1) (e:H d=some (.dK kvs)):Same H (upd H1 d (.dK kvs)):=fun b u q=>by
 by_cases n:b=d
 ·subst n;rw [Aa,<- e,q]
 ·rw [Ad n];exact h b u n q
theorem K2 (p:Nat) (z:Str):∀ (a:List (List Str)) (r:List Str) (k:Nat),C2 p z k (a++[r])=C2 p z k a++(if r[p]? = some z then [k+a.length] else [])
 | [],r,k=>by
  rw [List.nil_append,C2,C2,C2,List.nil_append]
  rfl
 | b::a,r,k=>by
  rw [i_,C2,C2,K2 p z a r (k+1),aK,show k+1+a.length=k+(a.length+1) by omega]
  split <;> simp
theorem Mh (p:Nat) (z:Str):∀ (a:List (List Str)) (k n:Nat),n∈C2 p z k a->n<k+a.length
 | [],k,n,h=>by cases h
 | b::a,k,n,h=>by
  rw [C2] at h
  rw [aK]
  split at h
  ·rcases List.mem_cons.mp h with h|h
   ·omega
   ·have:=Mh p z a (k+1) n h;omega
  ·have:=Mh p z a (k+1) n h;omega
theorem Je (p:Nat) (z:Str):∀ (a:List (List Str)) (k:Nat),(C2 p z k a).length<=a.length
 | [],k=>aj _
 | b::a,k=>by
  rw [C2,aK]
  split
  ·rw [aK];have:=Je p z a (k+1);omega
  ·have:=Je p z a (k+1);omega
theorem Mc {α:Type} {ds:List (α×Addr)} {i:Nat} {x y:V} (h:(Dm 0 (ds.map fun x=>V.ref x.2))[i]? = some (x,y)):∃ z,ds[i]? = some z/\x=.int (i:Int)/\y=.ref z.2:=by
 have hi:=Aj h
 rw [Bf,ae] at hi
 refine⟨_,af hi,?_⟩
 have:=Cf (k:=0) (xs:=ds.map fun x=>V.ref x.2) (i:=i) (x:=.ref ds[i].2) (by rw [ak,af hi];rfl)
 rw [this,cL] at h
 obtain⟨rfl,rfl⟩:V.int (i:Int)=x/\V.ref ds[i].2=y:=by simpa using h
 exact⟨rfl,rfl⟩
theorem ar4 {E:EK} {H:Hp} {l:Addr} {ds:List (List Str×Addr)} {rows:List (List Str)} {i:Nat} {z:Str} {R:Hp->Addr->Prop} (ed:ds.map (·.1)=rows) (ol:H l=some (.lst (ds.map fun x=>.ref x.2))) (hd:∀ x∈ds,H x.2=some (Cw x.1)) (hr:∀ r∈rows,i<r.length) (few:rows.length<=256)
  (k:∀ D H',Same H H'->H D=none->H' D=some (.lst ((C2 i z 0 rows).map fun n:Nat=>V.int (n:Int)))->R H' D) :
  ∀ D,H D=none->El (Ite K l) (gdT K 2 [gdN 0,gdN 1]) (Bp (Ah (B8 K false) (Ah (A5 K) (Ab 1) (Ab 2)) (Ab 3))) (Ab 0) D (fun H'=>R H' D) [none,none,some (.int (i:Int)),some (.str z)] (upd H D (.lst [])) E:=by
 intro D hD
 have len:(Dm 0 (ds.map fun x=>V.ref x.2)).length=rows.length:=by rw [Bf,<- ed];simp
 refine Hq (Ef (ds.map fun x=>V.ref x.2)) (fun m σ H'=>(∃ v0 v1,σ=[v0,v1,some (.int (i:Int)),some (.str z)])/\Same H H'/\H' D=some (.lst ((C2 i z 0 (rows.take m)).map fun n:Nat=>V.int (n:Int))))
  ⟨⟨_,_,rfl⟩,Same.upd hD,Aa⟩ (fun m σ H' _ q=>q.2.1.seqL (SqL.of ol)) ?_ ?_
 ·rintro m x y T σ H1 hxy hT ⟨⟨v0,v1,rfl⟩,S1,eD⟩
  obtain⟨⟨r,b⟩,hm,rfl,rfl⟩:=Mc hxy
  have hm2:rows[m]? = some r:=by rw [<- ed,ak,hm];rfl
  have hb:=hd _ (am hm)
  have hi:=hr r (am hm2)
  have ST:=Same.upd (o:=.tup [.int (m:Int),.ref b]) hT
  refine⟨_,.inl (SqT.of Aa),rfl,?_⟩
  show Bp _ [some (.int (m:Int)),some (.ref b),some (.int (i:Int)),some (.str z)] (upd H1 T (.tup [.int (m:Int),.ref b])) _ _
  generalize upd H1 T (.tup [.int (m:Int),.ref b])=H2 at ST ⊢
  have S2:=S1.trans ST
  have eD2:=ST _ _ eD
  have mm:min m rows.length=m:=Nat.min_eq_left (dy (Aj hm2))
  have he:C2 i z 0 (rows.take (m+1))=C2 i z 0 (rows.take m)++(if r[i]? = some z then [m] else []):=by
   rw [aV,hm2,cA,K2,aH,mm,cL]
  refine⟨_,_,.inr (SqT.of (S2 _ _ hb)),Bw (j:=i) (by rw [ak,af hi];rfl),?_⟩
  rw [af hi] at he
  show if decide (r[i]=z)=true then _ else _
  refine Ji (fun e=>?_) (fun e=>?_)
  ·have e:r[i]=z:=by simpa using e
   rw [if_pos (by rw [e])] at he
   refine⟨_,eD2,?_,⟨_,_,rfl⟩,S2.set hD,?_⟩
   ·rw [ae]
    have h1:=Je i z (rows.take m) 0
    rw [aH] at h1
    exact bh (show (C2 i z 0 (rows.take m)).length<=256 by omega) (by decide)
   ·rw [Aa,he,ax];rfl
  ·have e:¬ r[i]=z:=by simpa using e
   rw [if_neg (by simpa using e),dI] at he
   exact⟨⟨_,_,rfl⟩,S2,by rw [he];exact eD2⟩
 ·rintro σ H1 ⟨_,S1,eD⟩
  rw [len,aL] at eD
  exact k D H1 S1 hD eD
theorem Vq {rows:List (List Str)} {i m:Nat} {l:List Str} {z:Str} (hz:l[m]? = some z) (nd:l.Nodup) :
  Cq ((l.take m).map fun z=>((.inr z:Key),V.int (Dp rows i z))) (.inr z) (.int (Dp rows i z))=(l.take (m+1)).map fun z=>((.inr z:Key),V.int (Dp rows i z)):=by
 rw [Ds,B7 hz]
 refine Bx ?_
 rw [aE]
 intro hm
 obtain⟨y,hy,e⟩:=List.mem_map.mp hm
 have e:y=z:=by injection e
 subst e
 exact Dv nd hz hy
theorem a70 (Z:An K t):OkD K an7 (A3 K t) bl (t.f 11) (t.d 11) (Zt K t):=by
 refine okD (n:=40) (t:=bj0 K t) rfl (by decide +kernel) (by kernel_rfl) (fun vs H Q E h=>?_) (fun vs H Q E h=>?_)
 ·obtain⟨d,l,sw,rfl,_⟩:=h;rfl
 ·obtain⟨d,l,sw,rfl,⟨ds,ed,⟨_,od⟩,hd⟩,⟨ts,et,⟨_,ol⟩,htp⟩,hw,k⟩:=h
  intro s hs
  have nds:d≠s:=Ai od hs
  have nld:l≠d:=fun e=>by rw [e,od] at ol;cases ol
  have od1:upd H s (.dK []) d=some (.dK (ds.map kR)):=by rw [Ad nds];exact od
  refine .inl (.inr (.inl ⟨_,od1,fun o=>?_⟩))
  have O0:Off d H (upd (upd H s (.dK [])) d (.frz o (.dK (ds.map kR)))):=fun b u n e=>by rw [Ad n,Ad (Ai e hs)];exact e
  have ef:upd (upd H s (.dK [])) d (.frz o (.dK (ds.map kR))) d=some (.frz o (.dK (ds.map kR))):=Aa
  have es0:upd (upd H s (.dK [])) d (.frz o (.dK (ds.map kR))) s=some (.dK []):=by rw [Ad (cB nds),Aa]
  have len:(Dm 0 ((ds.map kR).map fun kv=>kV kv.1)).length=sw.length:=by rw [Bf,<- ed];simp
  have few:=hw.len
  have rlen:=(Ga hw.sets).2.1
  show Gg (Wv d o (ds.map kR)) _ _ _ [some (.ref d),some (.ref l),some (.ref s),none,none,none,none] _
  generalize upd (upd H s (.dK [])) d (.frz o (.dK (ds.map kR)))=H0 at O0 ef es0 ⊢
  refine Hu (aa9 (ds.map kR)) (fun i σ H'=>(∃ v3 v4 v5 v6,σ=[some (.ref d),some (.ref l),some (.ref s),v3,v4,v5,v6])/\Off d H H'/\H' d=some (.frz o (.dK (ds.map kR))) /\
    ∃ es:List ((Str×List Str)×Addr),es.map (·.1)=sw.take i/\H' s=some (.dK (es.map kR)) /\ ∀ j x,es[j]? = some x->H x.2=none/\H' x.2=some (Qx (Ak sw) j x.1.2))
   ⟨⟨_,_,_,_,rfl⟩,O0,ef,[],rfl,es0,fun j x hx=>by simp at hx⟩ (fun i σ H' _ q=>q.2.2.1) ?_ ?_
  ·rintro i x y T σ H1 hxy hT ⟨⟨v3,v4,v5,v6,rfl⟩,O1,f1,es,ee,e1s,he⟩
   have hi':=Aj hxy
   rw [len] at hi'
   have hids:i<ds.length:=by rw [<- ed,ae] at hi';exact hi'
   obtain⟨⟨e,ta⟩,hi⟩:∃ z,ds[i]? = some z:=⟨_,af hids⟩
   have hxy2:=Cf (k:=0) (xs:=(ds.map kR).map fun kv=>kV kv.1) (i:=i) (x:=.str e.1) (by rw [ak,ak,hi];rfl)
   rw [hxy2,cL] at hxy
   obtain⟨rfl,rfl⟩:V.int (i:Int)=x/\V.str e.1=y:=by simpa using hxy
   have hi2:sw[i]? = some e:=by rw [<- ed,ak,hi];rfl
   have hta:=(hd _ (am hi)).2
   have nta:ta≠d:=fun z=>by rw [z,od] at hta;cases hta
   have hoke:=hw.sets e (am hi2)
   have hv:Bs (ds.map kR) (.inr e.1)=some (.ref ta):=Bg (D4 ed hw.2.2.1) (by rw [ak,hi];rfl)
   have nk:=Mo ee hi2 hw.2.2.1
   have les:es.length=i:=by
    have:=congrArg cg ee
    rw [ae,aH] at this
    omega
   have ST:=Same.upd (o:=.tup [.int (i:Int),.str e.1]) hT
   refine⟨_,.inl (SqT.of Aa),rfl,?_⟩
   show Ae _ _ _ [some (.ref d),some (.ref l),some (.ref s),some (.int (i:Int)),some (.str e.1),v5,v6] (upd H1 T (.tup [.int (i:Int),.str e.1]))
   generalize upd H1 T (.tup [.int (i:Int),.str e.1])=H2 at ST ⊢
   have O2:=O1.up ST
   have f2:=ST _ _ f1
   have e2s:=ST _ _ e1s
   intro q hq
   have nqd:q≠d:=(Ai f2 hq).symm
   have nqs:q≠s:=(Ai e2s hq).symm
   have fq:H q=none:=O2.free nqd hq
   have Sq:=Same.upd (o:=.dK []) hq
   have eq:upd H2 q (.dK []) q=some (.dK []):=Aa
   refine .inl ?_
   show Cc K (Ab 2) (Ab 4) (.ref q) [some (.ref d),some (.ref l),some (.ref s),some (.int (i:Int)),some (.str e.1),v5,v6] (upd H2 q (.dK [])) _
   generalize upd H2 q (.dK [])=H3 at Sq eq ⊢
   refine⟨_,DPut.k (k:=.inr e.1) (Sq _ _ e2s) ?_,?_⟩
   ·rw [ae]
    have:=hw.2.1
    exact bh (show es.length<=5 by omega) (by decide)
   rw [Hz nk]
   have O4:Off d H (upd H3 s (.dK ((es++[(e,q)]).map kR))):=(O2.up Sq).set hs
   have f4:upd H3 s (.dK ((es++[(e,q)]).map kR)) d=some (.frz o (.dK (ds.map kR))):=by rw [Ad nds];exact Sq _ _ f2
   have e4s:upd H3 s (.dK ((es++[(e,q)]).map kR)) s=some (.dK ((es++[(e,q)]).map kR)):=Aa
   have e4q:upd H3 s (.dK ((es++[(e,q)]).map kR)) q=some (Qx (Ak sw) i (e.2.take 0)):=by rw [Ad nqs];exact eq
   have he4:∀ j x,es[j]? = some x->H x.2=none/\upd H3 s (.dK ((es++[(e,q)]).map kR)) x.2=some (Qx (Ak sw) j x.1.2)/\x.2≠q/\x.2≠s:=fun j x hx=>by
    obtain⟨a1,a2⟩:=he j x hx
    have b1:=Ai (ST _ _ a2) hq
    have b2:x.2≠s:=fun z=>by
     rw [z,e1s] at a2
     unfold Qx at a2
     have a3:es.map kR=x.1.2.map fun z=>((.inr z:Key),V.int (Dp (Ak sw) j z)):=by injection (av a2)
     have m1:kR x∈es.map kR:=cj (am hx)
     rw [a3] at m1
     obtain⟨y,_,hy⟩:=List.mem_map.mp m1
     injection hy with _ hy
     cases hy
    refine⟨a1,?_,b1,b2⟩
    rw [Ad b2];exact Sq _ _ (ST _ _ a2)
   generalize upd H3 s (.dK ((es++[(e,q)]).map kR))=H4 at O4 f4 e4s e4q he4 ⊢
   have nd4:(((es++[(e,q)]).map kR).map (·.1)).Nodup:=D4 (Fx ee hi2) (by rw [iV];exact hw.2.2.1.sublist (dJ _ _))
   have hq4:Bs ((es++[(e,q)]).map kR) (.inr e.1)=some (.ref q):=Bg (i:=es.length) nd4 (by rw [ak,bx (aj _),fA];rfl)
   refine⟨.ref ta,.inl ⟨_,.inr e.1,.inr ⟨o,f4⟩,rfl,hv.symm⟩,.inr (.inl ⟨⟨_,SqT.of (O4 _ _ nta hta)⟩,?_⟩)⟩
   refine Bh (ab0 (e.2.map V.str)) (fun m σ H'=>(∃ v5 v6,σ=[some (.ref d),some (.ref l),some (.ref s),some (.int (i:Int)),some (.str e.1),v5,v6])/\Off d H H'/\H' d=some (.frz o (.dK (ds.map kR)))/\H' s=some (.dK ((es++[(e,q)]).map kR)) /\
     H' q=some (Qx (Ak sw) i (e.2.take m)) /\ ∀ j x,es[j]? = some x->H' x.2=some (Qx (Ak sw) j x.1.2))
    ⟨⟨_,_,rfl⟩,O4,f4,e4s,e4q,fun j x hx=>(he4 j x hx).2.1⟩ (fun m σ H' _ q=>SqT.of (q.2.1 _ _ nta hta)) ?_ ?_
   ·rintro m x σ H5 hx ⟨⟨v5,v6,rfl⟩,O5,f5,e5s,e5q,he5⟩
    obtain⟨z,hz,rfl⟩:=Al hx
    refine .inl ⟨⟨_,SqL.of (O5 _ _ nld ol)⟩,?_⟩
    refine ar4 et (O5 _ _ nld ol) (fun x hx=>O5 _ _ (fun e=>by have:=(htp x hx).2;rw [e,od] at this;cases this) (htp x hx).2) (fun r hr=>by rw [rlen r hr];exact hi') few fun D H6 S6 hD eD=>?_
    refine⟨D,_,rfl,SqL.of eD,(fun n hn=>?_),?_⟩
    ·have:=Mh i z (Ak sw) 0 n hn
     omega
    show Cc K (Ah (A5 K) (Ab 2) (Ab 4)) (Ab 5) (.int (Dp (Ak sw) i z)) [some (.ref d),some (.ref l),some (.ref s),some (.int (i:Int)),some (.str e.1),some (.str z),some (.ref D)] H6 _
    refine⟨.ref q,.inl ⟨_,.inr e.1,.inl (S6 _ _ e5s),rfl,hq4.symm⟩,_,DPut.k (k:=.inr z) (S6 _ _ e5q) ?_,?_⟩
    ·rw [ae,aH]
     have:=hoke.2.2
     exact bh (show min m e.2.length<=4 by omega) (by decide)
    rw [Vq hz hoke.1.2.1]
    refine⟨⟨_,_,rfl⟩,(O5.up S6).set fq,?_,?_,Aa,fun j x hx=>?_⟩
    ·rw [Ad (cB nqd)];exact S6 _ _ f5
    ·rw [Ad (cB nqs)];exact S6 _ _ e5s
    ·rw [Ad (he4 j x hx).2.2.1];exact S6 _ _ (he5 j x hx)
   ·rintro σ H5 ⟨⟨v5,v6,rfl⟩,O5,f5,e5s,e5q,he5⟩
    rw [ae,aL] at e5q
    refine .inl ⟨⟨_,_,_,_,rfl⟩,O5,f5,es++[(e,q)],Fx ee hi2,e5s,fun j x hx=>?_⟩
    by_cases hj:j<es.length
    ·rw [bP hj] at hx
     exact⟨(he4 j x hx).1,he5 j x hx⟩
    ·have hj2:=Aj hx
     rw [aZ] at hj2
     have hj3:j=es.length:=by have:[(e,q)].length=1:=rfl;omega
     subst hj3
     rw [bx (aj _),fA] at hx
     have:(e,q)=x:=by simpa using hx
     subst this
     rw [les]
     exact⟨fq,e5q⟩
  ·rintro σ H1 ⟨⟨v3,v4,v5,v6,rfl⟩,O1,f1,es,ee,e1s,he⟩
   rw [len,aL] at ee
   refine .inr ⟨d,o,_,od1,f1,?_⟩
   refine k _ s (O1.thaw od) ⟨es,ee,⟨hs,?_⟩,fun j x hx=>⟨(he j x hx).1,?_⟩⟩
   ·rw [Ad (cB nds)];exact e1s
   ·rw [Ad (fun z=>by have:=(he j x hx).1;rw [z,od] at this;cases this)];exact (he j x hx).2
theorem E4 (l:List Str):(l.map V.str).all Bu=true:=by rw [ge,bb];exact fun _ _=>rfl
theorem Jv {sw:Sw} {i:Nat} {x:Str×List Str} (h:sw[i]? = some x) (nd:(sw.map (·.1)).Nodup):Fk sw x.1=i:=by
 have hi:=Aj h
 have ex:sw[i]=x:=by rw [af hi] at h;exact av h
 unfold Fk
 rw [List.findIdx_eq hi]
 refine⟨by rw [ex];simp,fun j hj=>?_⟩
 have hj2:j<sw.length:=by omega
 refine decide_eq_false fun e=>?_
 have:=(cJ (i:=j) (j:=i) (h₀:=by rw [ae];exact hj2) (h₁:=by rw [ae];exact hi) nd).mp (by rw [b9,b9,e,ex])
 omega
theorem Pd {rows:List (List Str)} {i:Nat} {l:List Str} {z:Str} (nd:l.Nodup) (h:z∈l):Bs (l.map fun z=>((.inr z:Key),V.int (Dp rows i z))) (.inr z)=some (.int (Dp rows i z)):=by
 obtain⟨j,hj,e⟩:=List.mem_iff_getElem.mp h
 refine Bg (i:=j) ?_ ?_
 ·rw [aE];exact Gw nd
 ·rw [ak,af hj,e];rfl
theorem a86 (Z:An K t):OkD K ap2 (A3 K t) bl (t.m_zbg 6) (t.e_zbg 6) (am4 K t):=by
 refine okD (n:=40) (t:=bk5 K t) rfl (by decide +kernel) (by kernel_rfl) (fun vs H Q E h=>?_) (fun vs H Q E h=>?_)
 ·obtain⟨p,a,l,s,wd,ss,sw,rfl,_⟩:=h;rfl
 ·obtain⟨p,a,l,s,wd,ss,sw,rfl,⟨dx,fs,⟨_,hp⟩,hl,hs,hm⟩,⟨ds,ed,⟨_,os⟩,hd⟩,hw,ha,⟨ne,hL,x,hx,ex,hin⟩,k⟩:=h
  have ex:x.1=wd:=ex
  have ne:ss≠[]:=ne
  have hL:okL ss:=hL
  have hin:∀ z∈ss,z∈x.2:=hin
  subst ex
  obtain⟨i,hi2⟩:=List.mem_iff_getElem?.mp hx
  have hids:i<ds.length:=by have:=Aj hi2;rw [<- ed,ae] at this;exact this
  obtain⟨⟨x',q⟩,hi⟩:∃ z,ds[i]? = some z:=⟨_,af hids⟩
  have:x'=x:=by
   rw [<- ed,ak,hi] at hi2
   exact av hi2
  subst this
  have oq:=(hd i _ hi).2
  have hok:=hw.sets x' hx
  have hv:Bs (ds.map kR) (.inr x'.1)=some (.ref q):=Bg (D4 ed hw.2.2.1) (by rw [ak,hi];rfl)
  have pl:=Jv hi2 hw.2.2.1
  have cl:=Z.pf.cl
  have na:NoAttr K t.c_zbg "sets" := Z.pf.na _ (by simp)
  have gq:∀ {H'},Same H H'->DGet H' s (.str x'.1) (some (.ref q)):=fun S=>.inl ⟨_,.inr x'.1,.inl (S _ _ os),rfl,hv.symm⟩
  refine⟨rfl,?_⟩
  refine gy ⟨_,_,_,_,hp,cl,na,hs,?_⟩
  refine .inr ⟨_,gq (Same.refl _),?_⟩
  refine⟨a,ss,rfl,SqL.of ha,hL,fun H1 S1=>⟨by decide,fun e he=>.inl ⟨a,e,_,_,rfl,rfl,(S1.trans (Same.upd he)).seqL (SqL.of ha),SqL.of Aa,E4 ss,rfl,Hb ?_ ?_⟩⟩⟩
  ·exact Er (by rw [ae];intro z;exact ne (List.length_eq_zero_iff.mp z))
  have S2:=S1.trans (Same.upd (o:=.lst []) he)
  generalize upd H1 e (.lst [])=H2 at S2 ⊢
  refine .inl ⟨⟨_,S2.seqL (SqL.of ha)⟩,?_⟩
  refine Nl (K:=K) (σ:=[none,some (.ref p),some (.str x'.1)]) (Ba (ss.map V.str)) (fun σ=>∃ v,σ=[v,some (.ref p),some (.str x'.1)]) (fun H3 S3=>(S2.trans S3).seqL (SqL.of ha)) ?_ ⟨_,rfl⟩ (fun σ x ⟨v,e⟩=>⟨some x,by rw [e];rfl⟩) ?_ fun D3 H3 S3 q3=>⟨_,q3,?_⟩
  ·rw [ae];exact bh hL.2.2 (by decide)
  ·rintro y σ H3 Q1 hy ⟨v,rfl⟩ S3 q1
   obtain⟨z,hz,rfl⟩:=List.mem_map.mp hy
   have S:=S2.trans S3
   refine gy ⟨_,_,_,_,(S _ _ hp),cl,na,hs,⟨.ref q,gq S,.inr ⟨_,.inl ⟨_,.inr z,.inl (S _ _ oq),rfl,rfl⟩,?_⟩⟩⟩
   rw [Pd hok.1.2.1 (hin z hz)]
   exact q1 H3 (Same.refl _)
  ·rw [Ry]
   have S:=S2.trans S3
   refine .inl ⟨⟨_,S.seqL (SqL.of ha)⟩,fun D hD=>?_⟩
   refine L0 (Ba (ss.map V.str)) (fun σ=>∃ v,σ=[v,some (.ref p),some (.str x'.1)]) (fun _=>true) (fun v=>match v with | .str z=>.int (Dp (Ak sw) i z)|_=>.non) hD (fun H4 S4=>(S.trans S4).seqL (SqL.of ha)) ?_ ⟨_,rfl⟩ ?_ ?_
   ·rw [ae];exact bh hL.2.2 (by decide)
   ·rintro y σ H4 hy ⟨v,rfl⟩ S4 Fin Skip hF hK
    obtain⟨z,hz,rfl⟩:=List.mem_map.mp hy
    have S5:=S.trans S4
    refine (gy ⟨_,_,_,_,(S5 _ _ hp),cl,na,hs,⟨.ref q,gq S5,.int (Dp (Ak sw) i z),.inl ⟨_,.inr z,.inl (S5 _ _ oq),rfl,?_⟩,?_⟩⟩)
    ·rw [Pd hok.1.2.1 (hin z hz)]
    ·exact hF _ _ _ ⟨_,rfl⟩ (Same.refl _) rfl rfl
   ·intro H4 S4 eD
    refine⟨D,ss.map (Dp (Ak sw) i),rfl,SqL.of (eD.trans ?_),?_⟩
    ·rw [List.filter_eq_self.mpr (fun _ _=>rfl),aE,aE];rfl
    ·have:=k H4 (S.trans S4)
     unfold Hk at this
     rw [pl] at this
     exact this
theorem at6 (Z:An K t):OkD K V7 (A3 K t) bl (t.m_zbg 2) (t.e_zbg 2) (Zq K t):=by
 refine okD (n:=40) (t:=bc0 K t) rfl (by decide +kernel) (by kernel_rfl) (fun vs H Q E h=>?_) (fun vs H Q E h=>?_)
 ·obtain⟨p,r,l,s,sw,rule,rfl,_⟩:=h;rfl
 ·obtain⟨p,r,l,s,sw,rule,rfl,hs,ht,hse,hw,⟨ds,ed,⟨_,od⟩,hd⟩,hr,k⟩:=h
  obtain⟨dx,fs,⟨np,hp⟩,_,_,hm⟩:=id hs
  have len:ds.length=rule.length:=by rw [<- ed];simp
  refine⟨_,true,.of (.dK od),rfl,⟨p,dx,fs,⟨t.c_zbg,ad1 K t⟩,rfl,.head _,hp,hm _ (by decide),⟨aG rfl,aG rfl⟩,p,l,s,sw,rfl,hs.mono Kp.any,ht.mono Kp.any,hw.len,?_⟩⟩
  refine .inr (.inr (.inl (.inl ⟨_,od,fun o=>?_⟩)))
  have kf:Kp (· ≠ r) H (· ≠ r) (upd H r (.frz o (.dK (ds.map kR)))):=Kp.off (fun e=>e rfl)
  have ef:upd H r (.frz o (.dK (ds.map kR))) r=some (.frz o (.dK (ds.map kR))):=Aa
  have hd2:∀ x∈ds,upd H r (.frz o (.dK (ds.map kR))) x.2=some (Be x.1.2):=fun x hx=>by
   rw [Ad (fun e=>by have:=(hd x hx).2;rw [e,od] at this;cases this)]
   exact (hd x hx).2
  show Gg (Itd r o (ds.map kR)) _ _ _ [some (.ref p),some (.ref r),some (.int (Lq sw)),none] _
  generalize hHf:upd H r (.frz o (.dK (ds.map kR)))=Hf at kf ef hd2 ⊢
  refine Bh (Fb (ds.map kR)) (fun i σ H'=>(∃ v3,σ=[some (.ref p),some (.ref r),some (.int ((rule.take i).foldl (fun c e=>cm c (Hk sw e)) (Lq sw))),v3])/\Same Hf H') ⟨⟨_,rfl⟩,Same.refl _⟩ (fun i σ H' _ q=>q.2 _ _ ef) ?_ ?_
  ·rintro i x σ H1 hx ⟨⟨v3,rfl⟩,S1⟩
   obtain⟨kv,hi0,rfl⟩:=Al hx
   obtain⟨⟨e,la⟩,hi,rfl⟩:=Al hi0
   have hi2:rule[i]? = some e:=by rw [<- ed,ak,hi];rfl
   have hv:Bs (ds.map kR) (.inr e.1)=some (.ref la):=Bg (D4 ed hr.1) hi0
   have kn:Kp (· ≠ r) H any H1:=(kf.trans (Kp.same S1)).trans Kp.any
   refine⟨p,dx,fs,⟨t.c_zbg,as2 K t⟩,rfl,.head _,(kn _ _ ⟨np,hp⟩).2,hm _ (by decide),⟨aG rfl,aG rfl⟩,.ref la,.inl ⟨_,.inr e.1,.inr ⟨o,S1 _ _ ef⟩,rfl,hv.symm⟩,?_⟩
   refine⟨p,la,l,s,e.1,e.2,sw,rfl,hs.mono kn,hse.mono kn,hw,S1 _ _ (hd2 _ (am hi)),hr.2 e (am hi2),fun H2 S2=>?_⟩
   exact⟨⟨_,congrArg (fun z=>[some (V.ref p),some (V.ref r),some (V.int z),some (V.str e.1)]) (Cg hi2 (fun c e=>cm c (Hk sw e)) (Lq sw)).symm⟩,S1.trans S2⟩
  ·rintro σ H1 ⟨⟨v3,rfl⟩,S1⟩
   rw [ae,ae,len,aL]
   exact .inr ⟨r,o,_,od,S1 _ _ ef,k _ (Same.thaw od (hHf▸S1))⟩
theorem a71 (Z:An K t):OkD K an8 (A3 K t) bl (t.m_zbg 4) (t.e_zbg 4) (al5 K t):=by
 refine okD (n:=40) (t:=bj1 K t) rfl (by decide +kernel) (by kernel_rfl) (fun vs H Q E h=>?_) (fun vs H Q E h=>?_)
 ·obtain⟨p,r,l,s,sw,rule,rfl,_⟩:=h;rfl
 ·obtain⟨p,r,l,s,sw,rule,rfl,hs,ht,hse,hw,hrl,hr,k⟩:=h
  obtain⟨ds,ed,⟨_,od⟩,hd⟩:=id hrl
  obtain⟨dx,fs,⟨np,hp⟩,_,_,hm⟩:=id hs
  have len:ds.length=rule.length:=by rw [<- ed];simp
  have pos:0<rule.length:=List.length_pos_iff.mpr hr.1
  refine⟨_,true,.of (.dK od),rfl,(.inr ⟨_,.inl od,Hb ?_ ?_⟩)⟩
  ·refine decide_eq_false fun e=>?_
   rw [ae] at e
   omega
  refine⟨p,dx,fs,⟨t.c_zbg,Sh K t⟩,rfl,.head _,hp,hm _ (by decide),⟨aG rfl,aG rfl⟩,p,r,l,s,sw,rule,rfl,hs,ht,hse,hw,hrl,⟨hr.2.2.1,hr.2.2.2⟩,fun H1 S1=>?_⟩
  exact⟨r,rule,rfl,hrl.mono (Kp.same S1),hr.2.2.1,hr.2.1,fun H2 c S2 R2=>k H2 c (S1.trans S2) (R2.mono (Kp.fresh S1))⟩
theorem a68 (Z:An K t):OkD K an5 (A3 K t) bl (t.m_zbg 5) (t.e_zbg 5) (al4 K t):=by
 refine okD (n:=40) (t:=bi8 K t) rfl (by decide +kernel) (by kernel_rfl) (fun vs H Q E h=>?_) (fun vs H Q E h=>?_)
 ·obtain⟨p,l,s,ok,v,sw,rules,rfl,_⟩:=h;rfl
 ·obtain⟨p,l,s,ok,v,sw,rules,rfl,hs,ht,hse,hw,hv,hr,h8,k⟩:=h
  rcases hv with ⟨rfl,rfl⟩|⟨kk,rfl,ds,ed,⟨nk,ok1⟩,hd⟩
  ·refine⟨by decide,fun q hq=>k _ q (Same.upd hq) ⟨[],rfl,⟨hq,Aa⟩,fun x hx=>by cases hx⟩⟩
  ·obtain⟨dx,fs,⟨op,hp⟩,_,_,hm⟩:=id hs
   have len:(ds.map fun x=>V.ref x.2).length=rules.length:=by rw [<- ed];simp
   refine⟨_,true,.sqL rfl (SqL.of ok1) rfl,rfl,(.inl ⟨_,.inl (SqL.of ok1),Hb ?_ ?_⟩)⟩
   ·refine decide_eq_false fun e=>?_
    rw [len] at e
    omega
   refine .inl ⟨⟨_,SqL.of ok1⟩,fun D hD=>?_⟩
   refine Dg (Ba (ds.map fun x=>V.ref x.2)) (fun m σ H'=>(∃ v,σ=[v,some (.ref p)])/\Same H H' /\ ∃ fs:List (Sw×Addr),fs.map (·.1)=rules.take m/\H' D=some (.lst (fs.map fun x=>.ref x.2)) /\ ∀ x∈fs,RuleAt (fun a=>H a=none/\a≠D) H' x.2 x.1)
    ⟨⟨_,rfl⟩,Same.upd hD,[],rfl,Aa,fun x hx=>by cases hx⟩ (fun m σ H' _ q=>q.2.1.seqL (SqL.of ok1)) ?_ ?_
   ·rintro m x σ H1 hx ⟨⟨v,rfl⟩,S1,gs,eg,eD,hg⟩
    obtain⟨⟨rule,r⟩,hm2,rfl⟩:=Al hx
    have hm3:rules[m]? = some rule:=by rw [<- ed,ak,hm2];rfl
    have hrl:=hd _ (am hm2)
    have nr:¬ ok r:=by obtain⟨_,_,o,_⟩:=hrl;exact o.1
    have kw:Kp ok H (· ≠ r) H1:=(Kp.same S1).trans (Kp.weak fun a h e=>nr (e▸h))
    refine⟨p,dx,fs,⟨t.c_zbg,ar7 K t⟩,rfl,.head _,S1 _ _ hp,hm _ (by decide),⟨aG rfl,aG rfl⟩,p,r,l,s,sw,rule,rfl,hs.mono kw,ht.mono kw,hse.mono kw,hw,hrl.mono ((Kp.same S1).trans Kp.any),hr rule (am hm3),fun H2 c S2 R2=>?_⟩
    have eD2:=S2 _ _ eD
    refine⟨_,eD2,?_,⟨_,rfl⟩,(S1.trans S2).set hD,gs++[(rule,c)],Fx eg hm3,?_,?_⟩
    ·rw [ae]
     have:=Pz eg
     exact bh (show gs.length<=8 by omega) (by decide)
    ·rw [Aa,ax];rfl
    ·have ko:Kp (fun a=>H a=none/\a≠D) H2 (fun a=>H a=none/\a≠D) (upd H2 D (.lst ((gs.map fun x=>V.ref x.2)++[.ref c]))):=Kp.off (fun e=>e.2 rfl)
     intro x hx
     rcases List.mem_append.mp hx with hx|hx
     ·exact (hg x hx).mono ((Kp.same S2).trans ko)
     ·have:x=(rule,c):=by simpa using hx
      subst this
      exact R2.mono ((Kp.weak fun a h=>⟨S1.free h,(Ai eD h).symm⟩).trans ko)
   ·rintro σ H1 ⟨_,S1,gs,eg,eD,hg⟩
    rw [len,aL] at eg
    exact k H1 D S1 ⟨gs,eg,⟨hD,eD⟩,fun x hx=>(hg x hx).mono (Kp.weak fun a h=>h.1)⟩
theorem Fh {f:Str} {p C dx:Addr} {fs fs':List (Str×V)} {y:V} {H:Hp} {N:Hp->Prop} (hp:H p=some (.ins C dx fs)) (c:Cls K C) (n:NoAttr K C f) (l:fs.length<1000) (e:Ev f y fs=fs') (k:∀ H',(∀ b,b≠p->H' b=H b)->H' p=some (.ins C dx fs')->N H'):Zc K f (.ref p) y H N:=
 .inl ⟨C,dx,fs,hp,c,n,l,k _ (fun b hb=>Ad hb) (by rw [Aa,e])⟩
theorem Kp.but {ok:Addr->Prop} {p:Addr} {H H':Hp} (h:∀ b,b≠p->H' b=H b) (n:¬ ok p):Kp ok H ok H':=fun a o q=>⟨q.1,by rw [h a (fun e=>n (e▸q.1))];exact q.2⟩
theorem Off.but {p:Addr} {H H1 H2:Hp} (h:Off p H H1) (e:∀ b,b≠p->H2 b=H1 b):Off p H H2:=fun b u n q=>by rw [e b n];exact h b u n q
theorem Off.fr {p:Addr} {u:HO} {H H1:Hp} (h:Off p H H1) (e:H1 p=some u):∀ b,H1 b=none->H b=none:=fun b q=>h.free (fun z=>by rw [z,e] at q;cases q) q
structure Pc (ok:Addr->Prop) (H:Hp) (d l n s:Addr) (sw:Sw):Prop where
 sws:SwAt ok H d sw
 tps:TupsAt ok H l (Ak sw)
 nms:NumAt ok H n (Ak sw)
 sts:SetsAt ok H s sw
theorem Pc.mono {ok ok':Addr->Prop} {H H':Hp} {d l n s:Addr} {sw:Sw} (h:Pc ok H d l n s sw) (k:Kp ok H ok' H'):Pc ok' H' d l n s sw:=⟨h.sws.mono k,h.tps.mono k,h.nms.mono k,h.sts.mono k⟩
noncomputable abbrev fl1 (d:Addr):List (Str×V):=[("settings", .ref d)]
noncomputable abbrev fl2 (d l:Addr):List (Str×V):=[("settings", .ref d),("tuples", .ref l)]
noncomputable abbrev fl3 (d l n:Addr):List (Str×V):=[("settings", .ref d),("tuples", .ref l),("numbers", .ref n)]
noncomputable abbrev fl4 (d l n s:Addr):List (Str×V):=[("settings", .ref d),("tuples", .ref l),("numbers", .ref n),("sets", .ref s)]
noncomputable abbrev fl5 (d l n s k:Addr):List (Str×V):=[("settings", .ref d),("tuples", .ref l),("numbers", .ref n),("sets", .ref s),("kept_rules", .ref k)]
noncomputable abbrev fl6 (d l n s k b:Addr):List (Str×V):=[("settings", .ref d),("tuples", .ref l),("numbers", .ref n),("sets", .ref s),("kept_rules", .ref k),("bars", .ref b)]
theorem Mq {fs:List (Str×V)} (h:fs.lookup ("all_choices" : Str)=none/\fs.lookup ("box" : Str)=none/\fs.lookup ("many" : Str)=none/\fs.lookup ("term" : Str)=none/\fs.lookup ("read_rule" : Str)=none/\fs.lookup ("read_rules" : Str)=none):∀ m∈(["all_choices", "box", "many", "term", "read_rule", "read_rules"]:List Str),fs.lookup m=none:=by
 intro m hm
 simp only [aI,c7,or_false] at hm
 rcases hm with rfl|rfl|rfl|rfl|rfl|rfl
 ·exact h.1
 ·exact h.2.1
 ·exact h.2.2.1
 ·exact h.2.2.2.1
 ·exact h.2.2.2.2.1
 ·exact h.2.2.2.2.2
theorem a84 (Z:An K t):OkD K D_zt (A3 K t) bl t.f_zt t.d_zt (am2 K t):=by
 refine okD (n:=40) (t:=bk3 K t) rfl (by decide +kernel) (by kernel_rfl) (fun vs H Q E h=>?_) (fun vs H Q E h=>?_)
 ·obtain⟨p,a,dx,v,sw,rules,rfl,_⟩:=h;rfl
 ·obtain⟨p,a,dx,v,sw,rules,rfl,hp,hsw,hw,hrl,hr,h8,hf,k⟩:=h
  have cl:=Z.pf.cl
  have na:=Z.pf.na
  have nf:¬ fresh H p:=(E9 hp)
  refine⟨a,sw,rfl,hsw.mono Kp.any,hw,fun H1 d S1 A1=>?_⟩
  refine Fh (S1 _ _ hp) cl (na _ (by simp)) (aG rfl) (fs':=fl1 d) rfl fun H2 b2 p2=>?_
  have O2:Off p H H2:=fun b u n e=>by rw [b2 b n];exact S1 _ _ e
  have A2:=A1.mono (Kp.but b2 nf)
  refine gy ⟨_,_,_,_,p2,cl,(na _ (by simp)),rfl,⟨d,sw,rfl,A2.mono Kp.any,hw,fun H3 l S3 T3=>?_⟩⟩
  refine Fh (S3 _ _ p2) cl (na _ (by simp)) (aG rfl) (fs':=fl2 d l) rfl fun H4 b4 p4=>?_
  have O4:=(O2.up S3).but b4
  have A4:=A2.mono ((Kp.same S3).trans (Kp.but b4 nf))
  have T4:=T3.mono ((Kp.weak (O2.fr p2)).trans (Kp.but b4 nf))
  refine gy ⟨_,_,_,_,p4,cl,(na _ (by simp)),rfl,⟨l,Ak sw,rfl,T4.mono Kp.any,(Ga hw.sets).1,hw.len,fun H5 n S5 N5=>?_⟩⟩
  refine Fh (S5 _ _ p4) cl (na _ (by simp)) (aG rfl) (fs':=fl3 d l n) rfl fun H6 b6 p6=>?_
  have O6:=(O4.up S5).but b6
  have A6:=A4.mono ((Kp.same S5).trans (Kp.but b6 nf))
  have T6:=T4.mono ((Kp.same S5).trans (Kp.but b6 nf))
  have N6:=N5.mono ((Kp.weak (O4.fr p4)).trans (Kp.but b6 nf))
  refine gy ⟨_,_,_,_,p6,cl,(na _ (by simp)),rfl,(gy ⟨_,_,_,_,p6,cl,(na _ (by simp)),rfl,⟨d,l,sw,rfl,A6.mono Kp.any,T6.mono Kp.any,hw,fun H7 s S7 E7=>?_⟩⟩)⟩
  refine Fh (S7 _ _ p6) cl (na _ (by simp)) (aG rfl) (fs':=fl4 d l n s) rfl fun H8 b8 p8=>?_
  have O8:=(O6.up S7).but b8
  have k78:=(Kp.same (ok:=fresh H) S7).trans (Kp.but b8 nf)
  have P8:Pc (fresh H) H8 d l n s sw:=⟨A6.mono k78,T6.mono k78,N6.mono k78,E7.mono ((Kp.weak (O6.fr p6)).trans (Kp.but b8 nf))⟩
  have P8':Pc (fun b=>H b=none/\H8 b≠none) H8 d l n s sw:=P8.mono fun b o q=>⟨⟨q.1,by rw [q.2];exact fun z=>nomatch z⟩,q.2⟩
  have w8:Kp (fresh H) H8 (fun b=>b=p\/H b=none) H8:=Kp.weak fun b e=>.inr e
  have RI:Lp (fun b=>¬ (b=p\/H b=none)) H8 v rules:=by
   rcases hrl with h|⟨kk,e,R⟩
   ·exact .inl h
   ·refine .inr ⟨kk,e,R.mono fun b o q=>⟨fun z=>?_,O8 _ _ q.1 q.2⟩⟩
    rcases z with z|z
    ·exact q.1 z
    ·have:=q.2;rw [z] at this;cases this
  refine⟨p,dx,_,⟨t.c_zbg,ar6 K t⟩,rfl,.head _,p8,rfl,⟨aG rfl,aG rfl⟩,p,l,s,(fun b=>b=p\/H b=none),v,sw,rules,rfl,⟨dx,_,⟨.inl rfl,p8⟩,rfl,rfl,Mq ⟨rfl,rfl,rfl,rfl,rfl,rfl⟩⟩,P8.tps.mono w8,P8.sts.mono w8,hw,RI,hr,h8,fun H9 kk S9 R9=>?_⟩
  refine Fh (S9 _ _ p8) cl (na _ (by simp)) (aG rfl) (fs':=fl5 d l n s kk) rfl fun H10 b10 p10=>?_
  have O10:=(O8.up S9).but b10
  have n8:¬ fresh H8 p:=(E9 p8)
  have R10:=R9.mono (Kp.but b10 n8)
  have P10:Pc (fun b=>H b=none/\H8 b≠none) H10 d l n s sw:=P8'.mono ((Kp.same S9).trans (Kp.but b10 (fun e=>nf e.1)))
  obtain⟨rs,er,⟨fk,ok⟩,hrs⟩:=id R10
  have lenr:(rs.map fun x=>V.ref x.2).length=rules.length:=by rw [<- er];simp
  refine gy ⟨_,_,_,_,p10,cl,(na _ (by simp)),rfl,(.inl ⟨⟨_,SqL.of ok⟩,fun D hD=>?_⟩)⟩
  have fD:H D=none:=O10.fr p10 D hD
  refine Dg (Ba (rs.map fun x=>V.ref x.2)) (fun m σ H'=>(∃ v,σ=[v,some (.ref p)])/\Same H10 H'/\H' D=some (.lst ((G6 sw (rules.take m)).map V.int))) ⟨⟨_,rfl⟩,Same.upd hD,Aa⟩ (fun m σ H' _ q=>q.2.1.seqL (SqL.of ok)) ?_ ?_
  ·rintro m x σ H11 hx ⟨⟨v,rfl⟩,S11,eD⟩
   obtain⟨⟨rule,r⟩,hm2,rfl⟩:=Al hx
   have hm3:rules[m]? = some rule:=by rw [<- er,ak,hm2];rfl
   have hrl2:=hrs _ (am hm2)
   have nr:H8 r=none:=by obtain⟨_,_,o,_⟩:=hrl2;exact o.1
   have npr:p≠r:=Ai p8 nr
   have kw:Kp (fun b=>H b=none/\H8 b≠none) H10 (· ≠ r) H11:=(Kp.same S11).trans (Kp.weak fun b h e=>h.2 (e▸nr))
   refine⟨p,dx,_,⟨t.c_zbg,Sh K t⟩,rfl,.head _,S11 _ _ p10,rfl,⟨aG rfl,aG rfl⟩,p,r,l,s,sw,rule,rfl,⟨dx,_,⟨npr,S11 _ _ p10⟩,rfl,rfl,Mq ⟨rfl,rfl,rfl,rfl,rfl,rfl⟩⟩,P10.tps.mono kw,P10.sts.mono kw,hw,hrl2.mono ((Kp.same S11).trans Kp.any),(hr rule (am hm3)).2.2,fun H12 S12=>?_⟩
   refine⟨_,S12 _ _ eD,?_,⟨_,rfl⟩,(S11.trans S12).set hD,?_⟩
   ·rw [ae]
    unfold G6
    rw [ae,aH]
    exact bh (show min m rules.length<=8 by omega) (by decide)
   ·rw [Aa]
    unfold G6
    rw [B7 hm3,ax]
    rfl
  rintro σ H11 ⟨_,S11,eD⟩
  rw [lenr,aL] at eD
  refine Fh (S11 _ _ p10) cl (na _ (by simp)) (aG rfl) (fs':=fl6 d l n s kk D) rfl fun H12 b12 p12=>?_
  have O12:=(O10.up S11).but b12
  have nDp:D≠p:=(Ai p10 hD).symm
  have B12:H12 D=some (.lst ((G6 sw rules).map V.int)):=by rw [b12 D nDp];exact eD
  have k12:∀ {ok:Addr->Prop},¬ ok p->Kp ok H10 ok H12:=fun h=>(Kp.same S11).trans (Kp.but b12 h)
  have P12:=P10.mono (k12 fun e=>nf e.1)
  have R12:=R10.mono (k12 n8)
  refine⟨p,dx,_,⟨t.c_zbg,ad1 K t⟩,rfl,.head _,p12,rfl,⟨aG rfl,aG rfl⟩,p,l,s,sw,rfl,⟨dx,_,⟨trivial,p12⟩,rfl,rfl,Mq ⟨rfl,rfl,rfl,rfl,rfl,rfl⟩⟩,P12.tps.mono Kp.any,hw.len,gy ⟨_,_,_,_,p12,cl,(na _ (by simp)),rfl,⟨D,G6 sw rules,rfl,SqL.of B12,?_⟩⟩⟩
  refine Fh p12 cl (na _ (by simp)) (aG rfl) (fs':=a54 d l n s kk D (Ja sw rules)) rfl fun H14 b14 p14=>?_
  refine gy ⟨_,_,_,_,p14,cl,(na _ (by simp)),rfl,(Hb (decide_eq_false hf) ?_)⟩
  have kk14:∀ {ok:Addr->Prop},¬ ok p->(∀ b,ok b->H b=none)->Kp ok H12 (fun b=>b=p\/H b=none) H14:=fun h g=>(Kp.but b14 h).trans (Kp.weak fun b e=>.inr (g b e))
  have P14:=P12.mono (kk14 (fun e=>nf e.1) fun b e=>e.1)
  refine k H14 ((O12.but b14)) ⟨dx,d,l,n,s,kk,D,⟨.inl rfl,p14⟩,P14.sws,P14.tps,P14.nms,P14.sts,R12.mono (kk14 n8 (O8.fr p8)),⟨.inr fD,?_⟩⟩
  rw [b14 D nDp];exact B12
end
theorem W1 {a b:Bool} {A B:Prop} (hB:¬ (a=true/\b=true)->B) (hA:a=true->b=true->A):if a=true then (if b=true then A else B) else B:=by
 cases a with
 | false=>exact hB fun z=>by cases z.1
 | true=>cases b with
  | false=>exact hB fun z=>by cases z.2
  | true=>exact hA rfl rfl
theorem ab4 {a b c:Bool} {A B:Prop} (hB:¬ (a=true/\b=true/\c=true)->B) (hA:a=true->b=true->c=true->A):if a=true then (if b=true then (if c=true then A else B) else B) else B:=by
 cases a with
 | false=>exact hB fun z=>by cases z.1
 | true=>exact P7 (W1 (fun z=>hB fun y=>z y.2) (hA rfl))
noncomputable def NL (H H':Hp):Prop:=∀ a o,(∀ l,o≠.lst l)->H a=some o->H' a=some o
theorem NL.same {H H':Hp} (S:Same H H'):NL H H':=fun a o _ e=>S a o e
theorem NL.tup {H H':Hp} (S:NL H H'):∀ b ys,H b=some (.tup ys)->H' b=some (.tup ys):=fun b ys=>S b _ fun _ z=>by cases z
theorem NL.upd {H:Hp} {D:Addr} {l m:List V} (h:H D=some (.lst l)):NL H (upd H D (.lst m)):=fun a o n e=>by rw [Ad fun z=>by rw [z,h] at e;cases e;exact n _ rfl];exact e
theorem Hr {J:It} {its:List V} {ok:Hp->Prop} {te:DE} {rest:St} {H:Hp} {R:Hp->Addr->Prop} {E:EK} {P:Nat->V->Hp->Prop} (up:∀ i v H1 H2,NL H1 H2->P i v H1->P i v H2) (Y:Cd J its ok) (hok:∀ H1,Same H H1->ok H1) (hn:its.length<=1000)
  (he:∀ i x H1 Q1,its[i]? = some x->Same H H1->(∀ v H2,Same H1 H2->P i v H2->Q1 v H2)->te (some x::rest) H1 Q1 E) (k:∀ D H' vs,Same H H'->H D=none->H' D=some (.lst vs)->vs.length=its.length->(∀ (i:Nat) v,vs[i]? = some v->P i v H')->R H' D) :
  ∀ D,H D=none->El J (gdN 0) B3 te D (fun H'=>R H' D) (none::rest) (upd H D (.lst [])) E:=by
 intro D hD
 refine Dg Y (fun i σ H'=>(∃ v,σ=v::rest)/\Same H H' /\ ∃ vs:List V,H' D=some (.lst vs)/\vs.length=i /\ ∀ (i:Nat) v,vs[i]? = some v->P i v H') ⟨⟨_,rfl⟩,Same.upd hD,[],Aa,rfl,fun i v h=>by simp at h⟩ (fun _ _ H' _ q=>hok H' q.2.1) ?_ ?_
 ·rintro i x σ H1 hx ⟨⟨v,rfl⟩,S1,vs,eD,lv,hv⟩
  have hi:=Aj hx
  have big:(1000:Nat)<sizeLine:=by decide
  refine he i x H1 _ hx S1 fun v H2 S2 pv=>⟨vs,S2 _ _ eD,by omega,⟨_,rfl⟩,(S1.trans S2).set hD,vs++[v],Aa,by rw [aZ,lv];rfl,fun j u hj=>?_⟩
  have nl:=NL.upd (m:=vs++[v]) (S2 _ _ eD)
  by_cases hj2:j<vs.length
  ·rw [bP hj2] at hj
   exact up _ _ _ _ nl (up _ _ _ _ (NL.same S2) (hv j u hj))
  ·have hj3:=Aj hj
   rw [aZ] at hj3
   have hj4:j=vs.length:=by have:j<vs.length+1:=hj3;omega
   subst hj4
   rw [bx (aj _),fA] at hj
   cases hj
   rw [lv]
   exact up _ _ _ _ nl pv
 ·rintro σ H1 ⟨_,S1,vs,eD,lv,hv⟩
  exact k D H1 vs S1 hD eD lv hv
theorem Gk {J:It} {its:List V} {ok:Hp->Prop} {te:DE} {rest:St} {H:Hp} {R:Hp->Addr->Prop} {E:EK} {f:Nat->V} (Y:Cd J its ok) (hok:∀ H1,Same H H1->ok H1) (hn:its.length<=1000)
  (he:∀ i x H1 Q1,its[i]? = some x->Same H H1->(∀ H2,Same H1 H2->Q1 (f i) H2)->te (some x::rest) H1 Q1 E) (k:∀ D H',Same H H'->H D=none->H' D=some (.lst ((aw its.length).map f))->R H' D) :
  ∀ D,H D=none->El J (gdN 0) B3 te D (fun H'=>R H' D) (none::rest) (upd H D (.lst [])) E:=
 Hr (P:=fun i v _=>v=f i) (fun _ _ _ _ _ h=>h) Y hok hn (fun i x H1 Q1 hx S q=>he i x H1 Q1 hx S fun H2 S2=>q _ H2 S2 rfl) fun D H' vs S hD eD lv hv=>k D H' S hD (by
  rw [eD]
  congr 2
  refine fX fun i=>?_
  rw [ak]
  by_cases hi:i<its.length
  ·rw [dj hi,af (by omega)]
   exact congrArg some (hv i _ (af (by omega)))
  ·rw [cD (by omega),cD (by rw [a7];omega)]
   rfl)
section
variable {P:aS} {w:bB} {K:ac} {mg:Str->Option ah} {base:Heap} {t:Adr}
theorem av1 (Z:An K t):OkD K Wl (A3 K t) bl (t.f 12) (t.d 12) (Ec K t):=by
 refine okD (n:=40) (t:=bd4 K t) rfl (by decide +kernel) (by kernel_rfl) (fun vs H Q E h=>?_) (fun vs H Q E h=>?_)
 ·obtain⟨a,ns,k,rfl,_⟩:=h;rfl
 ·obtain⟨a,ns,k,rfl,hS,q⟩:=h
  refine .inl ⟨_,.inl hS,?_⟩
  refine Ji (fun e=>?_) (fun e=>?_)
  ·have e:(k:Int)<((ns.map V.int).length:Int):=by simpa using e
   have hk:k<ns.length:=by rw [ae] at e;omega
   have:B4 ns k=ns[k]:=by unfold B4;rw [ao,af hk];rfl
   rw [this] at q
   exact⟨_,_,.inl hS,Bw (j:=k) (by rw [ak,af hk];rfl),q⟩
  ·have e:¬ (k:Int)<((ns.map V.int).length:Int):=by simpa using e
   have hk:ns.length<=k:=by rw [ae] at e;omega
   have:B4 ns k=0:=by unfold B4;rw [ao,cD hk];rfl
   rw [this] at q
   exact q
theorem av8 (Z:An K t):OkD K Ws (A3 K t) bl (t.f 13) (t.d 13) (Bj K t):=by
 refine okD (n:=40) (t:=be1 K t) rfl (by decide +kernel) (by kernel_rfl) (fun vs H Q E h=>?_) (fun vs H Q E h=>?_)
 ·obtain⟨c,k,rfl,_⟩:=h;rfl
 ·obtain⟨c,k,rfl,hk,q⟩:=h
  unfold Bi at q
  refine⟨.inl ⟨by decide,by decide⟩,by omega,by decide,ab4 (fun hn=>?_) (fun e1 e2 e3=>?_)⟩
  ·rw [if_neg (fun z=>hn ⟨decide_eq_true z.1,by simp [z.2.1],by simp [z.2.2]⟩)] at q
   have b1:0<=(c+7919 * k) * 48271 % 2147483647/\(c+7919 * k) * 48271 % 2147483647<2147483647:=⟨cV _ (by decide),cy _ (by decide)⟩
   refine⟨.inl ⟨by decide,by decide⟩,.inr ⟨by decide,by decide⟩,by decide,?_⟩
   dsimp only at q
   generalize (c+7919 * k) * 48271 % 2147483647=n at b1 q ⊢
   have b2:0<=n * n % 2147483629/\n * n % 2147483629<2147483629:=⟨cV _ (by decide),cy _ (by decide)⟩
   refine⟨.inl ⟨by omega,by omega⟩,by decide,?_⟩
   generalize n * n % 2147483629=m at b2 q ⊢
   exact⟨.inl ⟨by omega,by omega⟩,by decide,⟨by decide,by decide⟩,q⟩
  ·rw [if_pos ⟨of_decide_eq_true e1,by simpa using e2,by simpa using e3⟩] at q
   exact q
theorem D0 (l:List Nat):Txt.join (cN "") (l.map fun k=>(⟨#[k]⟩:Str))=⟨l.toArray⟩:=by
 show Builtin.Str.glued (cN "") _=_
 rw [StrLaws.glued_eq_join,show cN "" = (⟨#[]⟩:Str) from by decide +kernel]
 exact PyProof.Rows.join_ones l
theorem Ey (l:List Nat):((l.map fun k=>(⟨#[k]⟩:Str)).map (·.length)).sum+(l.map fun k=>(⟨#[k]⟩:Str)).length * (cN "").length=l.length:=by
 rw [show (cN "").length=0 from by decide +kernel,Nat.mul_zero,Nat.add_zero]
 induction l with
 | nil=>rfl
 | cons a l ih=>rw [aY,aY,kQ,ih,aK,show (⟨#[a]⟩:Str).length=1 from rfl,lI]
noncomputable def sgC (sg:Str) (x:Int):Nat:=sg.cps.toList.getD (x % (sg.length:Int)).toNat 0
theorem Zm {sg:Str} (x:Int) (h:1<=sg.length):atI sg.cps.toList (x % (sg.length:Int))=some (sgC sg x):=by
 have h0:=cV x (show (sg.length:Int)≠0 by omega)
 have h1:=cy x (show 0<(sg.length:Int) by omega)
 have e:x % (sg.length:Int)=(((x % (sg.length:Int)).toNat:Nat):Int):=by omega
 have hl:(x % (sg.length:Int)).toNat<sg.cps.toList.length:=by rw [Gb];omega
 unfold sgC
 rw [e,aU]
 exact Bw (by rw [ao,af hl];rfl)
theorem Tm {sg:Str} (x:Int) (h:1<=sg.length):sgC sg x∈sg.cps.toList:=by
 have h1:=cy x (show 0<(sg.length:Int) by omega)
 have hl:(x % (sg.length:Int)).toNat<sg.cps.toList.length:=by
  rw [Gb]
  have h0:=cV x (show (sg.length:Int)≠0 by omega)
  omega
 unfold sgC
 rw [ao,af hl]
 exact cK hl
theorem ai2 {sg:Str} {x:Int} {i j:Nat} (nd:sg.cps.toList.Nodup) (hi:i<sg.length) (hj:j<sg.length) (e:sgC sg (x+i)=sgC sg (x+j)):i=j:=by
 have hp:0<(sg.length:Int):=by omega
 have a0:=cV (x+i) (show (sg.length:Int)≠0 by omega)
 have a1:=cy (x+i) hp
 have b0:=cV (x+j) (show (sg.length:Int)≠0 by omega)
 have b1:=cy (x+j) hp
 unfold sgC at e
 have l1:((x+i) % (sg.length:Int)).toNat<sg.cps.toList.length:=by rw [Gb];omega
 have l2:((x+j) % (sg.length:Int)).toNat<sg.cps.toList.length:=by rw [Gb];omega
 rw [ao,ao,af l1,af l2] at e
 have e2:=(cJ nd).mp (show _=_ from e)
 have e3:(x+i) % (sg.length:Int)=(x+j) % (sg.length:Int):=by omega
 have e4:=Int.emod_emod_of_dvd (m:=(sg.length:Int)) (k:=(sg.length:Int))
 have d1:=jC (x+i) (sg.length:Int)
 have d2:=jC (x+j) (sg.length:Int)
 rw [e3] at d1
 generalize (x+i) / (sg.length:Int)=q1 at d1
 generalize (x+j) / (sg.length:Int)=q2 at d2
 have d3:(sg.length:Int) * q1 - (sg.length:Int) * q2=(i:Int) - j:=by omega
 rw [<- Int.mul_sub] at d3
 have:q1 - q2=0:=by
  by_cases z:q1 - q2=0
  ·exact z
  ·exfalso
   have:1<=q1 - q2\/q1 - q2 <= -1:=by omega
   rcases this with z|z
   ·have:=gn z (Int.le_of_lt hp);omega
   ·have:=gn z (Int.le_of_lt hp);omega
 rw [this,Int.mul_zero] at d3
 omega
noncomputable def wA (g:Nat->Nat) (lo k:Nat):Str:=⟨(((aw lo).map g).take (lo - k)).toArray⟩
noncomputable def wB (g:Nat->Nat) (n:Nat):Str:=⟨((aw n).map g).toArray⟩
theorem Rp (g:Nat->Nat) (lo k:Nat):(wA g lo k).length=lo - k:=by
 show (((aw lo).map g).take (lo - k)).toArray.size=_
 rw [aq,aH,ae,a7]
 omega
theorem Nc (g:Nat->Nat) (n:Nat):(wB g n).length=n:=by
 show ((aw n).map g).toArray.size=_
 rw [aq,ae,a7]
theorem Ob {α:Type} {f:Nat->α} {m:Nat} (h:∀ i j,i<m->j<m->f i=f j->i=j):((aw m).map f).Nodup:=by
 refine List.pairwise_iff_getElem.mpr fun i j hi hj hij=>?_
 rw [ae,a7] at hi hj
 rw [b9,b9,kO,kO]
 intro e
 have:=h i j hi hj e
 omega
theorem M2 (g:Nat->Nat) (n:Nat):(aw n).map (fun j=>V.str ⟨#[g j]⟩)=(((aw n).map g).map fun c=>(⟨#[c]⟩:Str)).map V.str:=by rw [aE,aE];rfl
theorem au5 (Z:An K t):OkD K Wg (A3 K t) bl (t.f 14) (t.d 14) (J4 K t):=by
 refine okD (n:=40) (t:=bc8 K t) rfl (by decide +kernel) (by kernel_rfl) (fun vs H Q E h=>?_) (fun vs H Q E h=>?_)
 ·obtain⟨c,sg,lo,m,rfl,_⟩:=h;rfl
 ·obtain⟨c,sg,lo,m,rfl,h1,h12,hm,s1,s100,nd,k⟩:=h
  have big:(1000:Nat)<sizeLine:=by decide
  refine⟨c,1,rfl,by decide,by decide,W1 (fun _=>?_) (fun _ e2=>?_)⟩
  ·have b1:1<=1+Bi c 20 % (lo:Int)/\1+Bi c 20 % (lo:Int)<=lo:=by
    have:=cV (Bi c 20) (show (lo:Int)≠0 by omega)
    have:=cy (Bi c 20) (show 0<(lo:Int) by omega)
    omega
   refine⟨c,20,rfl,by decide,by omega,c,21,rfl,by decide,by omega,by decide,fun D hD=>⟨⟨by omega,by omega⟩,?_⟩⟩
   show Gg (Itr 0 ((m:Int)).toNat) _ _ _ [some (.int c),some (.str sg),some (.int (lo:Int)),some (.int (m:Int)),none,none,some (.int (1+Bi c 20 % (lo:Int))),some (.int (Bi c 21 % (1+Bi c 20 % (lo:Int)))),some (.ref D),none] _
   obtain⟨n,en⟩:∃ n:Nat,1+Bi c 20 % (lo:Int)=(n:Int):=⟨(1+Bi c 20 % (lo:Int)).toNat,by omega⟩
   rw [en] at b1 ⊢
   have b2:0<=Bi c 21 % (n:Int)/\Bi c 21 % (n:Int)<n:=⟨cV _ (by omega),cy _ (by omega)⟩
   obtain⟨a,ea⟩:∃ a:Nat,Bi c 21 % (n:Int)=(a:Int):=⟨(Bi c 21 % (n:Int)).toNat,by omega⟩
   rw [ea] at b2 ⊢
   let gB:Nat->Nat->Nat:=fun i j=>sgC sg (Bi c (22+(j:Int))+(i:Int) * (if decide ((j:Int)=(a:Int))=true then 1 else 0))
   rw [aU]
   refine Bh (Br 0 m) (fun i σ H'=>(∃ v5 v9,σ=[some (.int c),some (.str sg),some (.int (lo:Int)),some (.int (m:Int)),none,v5,some (.int (n:Int)),some (.int (a:Int)),some (.ref D),v9])/\Same H H'/\H' D=some (Be ((aw i).map fun i=>wB (gB i) n))) ⟨⟨_,_,rfl⟩,Same.upd hD,Aa⟩ (fun _ _ _ _ _=>aX) ?_ ?_
   ·rintro i x σ H2 hx ⟨⟨v5,v9,rfl⟩,S2,eL⟩
    obtain⟨hi,rfl⟩:=Cr hx
    refine⟨⟨by omega,by omega⟩,?_⟩
    show ∀ D,H2 D=none->El (Itr 0 ((n:Int)).toNat) _ _ _ D _ _ _ _
    rw [aU]
    refine Gk (f:=fun j=>.int (Bi c (22+(j:Int))+(i:Int) * (if decide ((j:Int)=(a:Int))=true then 1 else 0))) (rest:=[some (.int (a:Int)),some (.int c),some (.int (i:Int))]) (Br 0 n) (fun _ _=>aX) (by rw [Ax];omega) (fun j x H3 Q1 hj _ q=>?_) fun D1 H3 S3 hD1 eD1=>?_
    ·obtain⟨hj,rfl⟩:=Cr hj
     exact⟨c,22+(j:Int),rfl,by omega,.inl ⟨by omega,by omega⟩,q _ (Same.refl _)⟩
    ·rw [Ax] at eD1
     refine⟨.inl ⟨rfl,_,SqL.of (S3 _ _ eL)⟩,rfl,.inl ⟨⟨_,SqL.of eD1⟩,?_⟩⟩
     refine Gk (f:=fun j=>.str ⟨#[gB i j]⟩) (rest:=[some (.str sg)]) (Ba _) (fun H4 S4=>S4.seqL (SqL.of eD1)) (by rw [ae,a7];omega) (fun j x H4 Q1 hj _ q=>?_) fun D2 H4 S4 hD2 eD2=>?_
     ·obtain⟨j',hj',rfl⟩:=Al hj
      obtain rfl:j'=j:=by
       have:=Aj hj'
       rw [a7] at this
       rw [dj this] at hj'
       exact (av hj').symm
      exact⟨by omega,by omega,by omega,_,Zm _ s1,q _ (Same.refl _)⟩
     ·rw [ae,a7,M2] at eD2
      have S34:=S3.trans S4
      refine⟨_,D2,_,rfl,rfl,.inl (SqL.of eD2),?_,?_⟩
      ·rw [Ey,ae,a7];omega
      rw [D0]
      refine⟨D,_,_,rfl,rfl,S34 _ _ eL,?_,⟨_,_,rfl⟩,(S2.trans S34).set hD,?_⟩
      ·rw [ae,ae,a7]
       omega
      ·rw [Aa,Be,fK,ax,ax]
       rfl
   ·rintro σ H2 ⟨⟨v5,v9,rfl⟩,S2,eL⟩
    rw [Ax] at eL
    refine .inl (k H2 D _ S2 hD eL (by simp) ⟨Ob fun i j hi hj e=>?_,fun z hz=>?_⟩)
    ·have h:(aw n).map (gB i)=(aw n).map (gB j):=congrArg (fun z:Str=>z.cps.toList) e
     have h2:=congrArg (fun l:List Nat=>l[a]?) h
     have ha:a<n:=by omega
     simp only [ak,dj ha,jL,eW] at h2
     have h3:sgC sg (Bi c (22+(a:Int))+(i:Int))=sgC sg (Bi c (22+(a:Int))+(j:Int)):=by
      have e1:∀ x:Nat,gB x a=sgC sg (Bi c (22+(a:Int))+(x:Int)):=fun x=>by
       show sgC sg (_+(x:Int) * (if decide ((a:Int)=(a:Int))=true then 1 else 0))=_
       rw [decide_eq_true rfl,if_pos rfl,Int.mul_one]
      rw [<- e1,<- e1];exact h2
     exact ai2 nd (by omega) (by omega) h3
    ·obtain⟨i,_,rfl⟩:=List.mem_map.mp hz
     rw [Nc]
     refine⟨by omega,by omega,fun x hx=>?_⟩
     have hx:x∈(aw n).map (gB i):=hx
     obtain⟨j,_,rfl⟩:=List.mem_map.mp hx
     exact Tm _ s1
  ·have e2:m<=lo:=by
    have e2:(m:Int)<=(lo:Int):=of_decide_eq_true e2
    omega
   let gA:Nat->Nat:=fun j=>sgC sg (Bi c (2+(j:Int)))
   refine⟨rfl,⟨by omega,by omega⟩,?_⟩
   show ∀ D,H D=none->El (Itr 0 ((lo:Int)).toNat) _ _ _ D _ _ _ _
   rw [aU]
   refine Gk (f:=fun j=>.str ⟨#[gA j]⟩) (rest:=[some (.int c),some (.str sg)]) (Br 0 lo) (fun _ _=>aX) (by rw [Ax];omega) (fun j x H2 Q1 hj _ q=>?_) fun D H2 S2 hD eD=>?_
   ·obtain⟨hj,rfl⟩:=Cr hj
    exact⟨c,2+(j:Int),rfl,by omega,by omega,by omega,by omega,_,Zm _ s1,q _ (Same.refl _)⟩
   ·rw [Ax,M2] at eD
    refine⟨_,D,_,rfl,rfl,.inl (SqL.of eD),?_,?_⟩
    ·rw [Ey,ae,a7];omega
    rw [D0]
    refine⟨⟨by omega,by omega⟩,?_⟩
    show ∀ D,H2 D=none->El (Itr 0 ((m:Int)).toNat) _ _ _ D _ _ _ _
    rw [aU]
    refine Gk (f:=fun k=>.str (wA gA lo k)) (rest:=[some (.int (lo:Int)),some (.str ⟨((aw lo).map gA).toArray⟩)]) (Br 0 m) (fun _ _=>aX) (by rw [Ax];omega) (fun j x H3 Q1 hj _ q=>?_) fun D3 H3 S3 hD3 eD3=>?_
    ·obtain⟨hj,rfl⟩:=Cr hj
     have es:Txt.slice ⟨((aw lo).map gA).toArray⟩ none (some ((lo:Int) - (j:Int)))=wA gA lo j:=by
      have hl:((⟨((aw lo).map gA).toArray⟩:Str).length:Int)=lo:=by
       have:=Nc gA lo
       unfold wB at this
       rw [this]
      have e:=ck (PyProof.Rows.slice_closes_to (x:=⟨((aw lo).map gA).toArray⟩) (j:=(lo:Int) - (j:Int)) ⟨by omega,by rw [Gb,hl];omega⟩)
      rw [e,lG,show ((lo:Int) - (j:Int)).toNat=lo - j by omega]
      unfold wA
      simp
     refine⟨?_,?_⟩
     ·have:=Nc gA lo
      unfold wB at this
      rw [this]
      omega
     ·rw [es];exact q _ (Same.refl _)
    ·rw [Ax] at eD3
     refine k H3 D3 ((aw m).map (wA gA lo)) (S2.trans S3) (S2.free hD3) (by rw [eD3,Be,aE];rfl) (by simp) ⟨Ob fun i j hi hj e=>?_,fun z hz=>?_⟩
     ·have h:=congrArg Str.length e
      rw [Rp,Rp] at h
      omega
     ·obtain⟨i,hi,rfl⟩:=List.mem_map.mp hz
      have hi:=List.mem_range.mp hi
      rw [Rp]
      refine⟨by omega,by omega,fun x hx=>?_⟩
      have hx:x∈((aw lo).map gA).take (lo - i):=hx
      obtain⟨j,_,rfl⟩:=List.mem_map.mp (fb hx)
      exact Tm _ s1
theorem au2 (Z:An K t):OkD K Wd (A3 K t) bl (t.f 24) (t.d 24) (Q4 K t):=by
 refine okD (n:=40) (t:=bc5 K t) rfl (by decide +kernel) (by kernel_rfl) (fun vs H Q E h=>?_) (fun vs H Q E h=>?_)
 ·obtain⟨c,m,rfl,_⟩:=h;rfl
 ·obtain⟨c,m,rfl,hm,k⟩:=h
  have l37:(cN "abcdefghijklmnopqrstuvwxyz0123456789.").length=37:=by decide +kernel
  exact⟨c,_,12,m,rfl,by decide,by decide,by rw [l37];omega,by rw [l37];decide,by rw [l37];decide,by decide +kernel,fun H' l ws S _ e hl hw=>k H' l ws S e hl hw.1⟩
theorem Iy {xs:List V} {i:Nat} {x y:V} (h:(Dm 0 xs)[i]? = some (x,y)):x=.int (i:Int)/\xs[i]? = some y:=by
 have hi:=Aj h
 rw [Bf] at hi
 have:=Cf (k:=0) (af hi)
 rw [h] at this
 injection this with e
 injection e with e1 e2
 rw [cL] at e1
 exact⟨e1,by rw [e2,af hi]⟩
structure SwL (H':Hp) (ls:Addr) (ds:List (((Str×List Str)×Addr)×Addr)):Prop where
 at_:H' ls=some (.lst (ds.map fun x=>.ref x.2))
 tup:∀ x∈ds,H' x.2=some (.tup [.str x.1.1.1,.ref x.1.2])
 lst:∀ x∈ds,H' x.1.2=some (Be x.1.1.2)/\x.1.2≠ls
theorem SwL.up {H1 H2:Hp} {ls:Addr} {ds:List (((Str×List Str)×Addr)×Addr)} (h:SwL H1 ls ds) (S:Same H1 H2):SwL H2 ls ds:=⟨S _ _ h.at_,fun x hx=>S _ _ (h.tup x hx),fun x hx=>⟨S _ _ (h.lst x hx).1,(h.lst x hx).2⟩⟩
theorem SwL.snoc {H1:Hp} {ls:Addr} {ds:List (((Str×List Str)×Addr)×Addr)} (h:SwL H1 ls ds) {e:Str×List Str} {la ta:Addr} (ht:H1 ta=some (.tup [.str e.1,.ref la])) (hl:H1 la=some (Be e.2)) (nl:la≠ls) :
  SwL (upd H1 ls (.lst ((ds.map fun x=>V.ref x.2)++[.ref ta]))) ls (ds++[((e,la),ta)]):=by
 have nt:∀ {a:Addr} {xs:List V},H1 a=some (.tup xs)->a≠ls:=fun q z=>by rw [z,h.at_] at q;cases q
 refine⟨by rw [Aa,ax];rfl,fun x hx=>?_,fun x hx=>?_⟩
 ·rcases List.mem_append.mp hx with hx|hx
  ·rw [Ad (nt (h.tup x hx))];exact h.tup x hx
  ·obtain rfl:x=((e,la),ta):=by simpa using hx
   rw [Ad (nt ht)];exact ht
 ·rcases List.mem_append.mp hx with hx|hx
  ·rw [Ad (h.lst x hx).2];exact h.lst x hx
  ·obtain rfl:x=((e,la),ta):=by simpa using hx
   rw [Ad nl];exact⟨hl,nl⟩
theorem Jw (sw:Sw) (e:Str×List Str):By (sw++[e])=By sw * e.2.length:=by unfold By;rw [eU];rfl
noncomputable abbrev lettersS:Str := "abcdefghijklmnopqrstuvwxyz"
theorem Yg {z:Str} (h:1<=z.length/\z.length<=8 /\ ∀ c∈z.cps.toList,c∈lettersS.cps.toList):okW z:=⟨h.1,h.2.1,by
 rw [bb]
 intro c hc
 have:=h.2.2 c hc
 rw [show lettersS.cps.toList=(aw 26).map (97 + ·) by decide +kernel] at this
 obtain⟨i,hi,rfl⟩:=List.mem_map.mp this
 have:=List.mem_range.mp hi
 unfold Ic
 simp
 omega⟩
theorem a77 (Z:An K t):OkD K ao4 (A3 K t) bl (t.f 15) (t.d 15) (Zv K t):=by
 refine okD (n:=40) (t:=bj7 K t) rfl (by decide +kernel) (by kernel_rfl) (fun vs H Q E h=>?_) (fun vs H Q E h=>?_)
 ·obtain⟨c,m,rfl,_⟩:=h;rfl
 ·obtain⟨c,m,rfl,hm,hm2,k⟩:=h
  have l26:lettersS.length=26:=by decide +kernel
  have nd26:lettersS.cps.toList.Nodup:=by decide +kernel
  refine⟨c,lettersS,8,5,rfl,by decide,by decide,by rw [l26];decide,by rw [l26];decide,by rw [l26];decide,nd26,fun H1 lw ws S1 _ elw lws okw=>⟨by decide,fun ls hls=>?_⟩⟩
  have fls:=S1.free hls
  have nwl:lw≠ls:=Ai elw hls
  have S2:=S1.trans (Same.upd (o:=.lst []) hls)
  have elw2:upd H1 ls (.lst []) lw=some (Be ws):=by rw [Ad nwl];exact elw
  have L2:SwL (upd H1 ls (.lst [])) ls []:=⟨Aa,fun x hx=>(by cases hx),fun x hx=>(by cases hx)⟩
  generalize upd H1 ls (.lst [])=H2 at S2 elw2 L2 ⊢
  refine⟨c,40,rfl,by decide,by decide,⟨by omega,by omega⟩,?_⟩
  have hN:1<=(1+Bi c 40 % 5).toNat/\(1+Bi c 40 % 5).toNat<=5:=by omega
  refine Bh (Br 0 (1+Bi c 40 % 5).toNat) (fun i σ H'=>∃ ds:List (((Str×List Str)×Addr)×Addr),(∃ v6 v7,σ=[some (.int c),some (.int (m:Int)),some (.str lettersS),some (.ref lw),some (.ref ls),some (.int (By (ds.map (·.1.1)):Nat)),v6,v7])/\Same H H'/\H' lw=some (Be ws)/\SwL H' ls ds /\
    (ds.map (·.1.1.1)).Sublist (ws.take i)/\(∀ x∈ds,Fe x.1.1.2)/\By (ds.map (·.1.1))<=m/\(i=0->ds=[])/\(1<=i->ds≠[]))
   ⟨[],⟨_,_,rfl⟩,S2,elw2,L2,dH _,fun x hx=>(by cases hx),(show 1<=m by omega),fun _=>rfl,fun h=>(by omega)⟩ (fun _ _ _ _ _=>aX) ?_ ?_
  ·rintro i x σ H5 hx ⟨ds,⟨v6,v7,rfl⟩,S45,elw5,L5,sub,oks,pm,z0,z1⟩
   obtain⟨hi,rfl⟩:=Cr hx
   have hs:2<=2+Bi c (41+(i:Int)) % 3/\2+Bi c (41+(i:Int)) % 3<=4:=by omega
   obtain⟨sz,esz⟩:∃ sz:Nat,2+Bi c (41+(i:Int)) % 3=(sz:Int):=⟨(2+Bi c (41+(i:Int)) % 3).toNat,by omega⟩
   refine⟨c,41+(i:Int),rfl,by omega,by decide,?_⟩
   refine⟨.inr ⟨by omega,by omega⟩,Ji (fun e=>⟨.inr ⟨by omega,by omega⟩,?_⟩) (fun e=>?_)⟩
   ·have e:((By (ds.map (·.1.1)):Nat):Int) * (2+Bi c (41+(i:Int)) % 3)<=m:=of_decide_eq_true e
    have hiw:i<ws.length:=by omega
    refine⟨.inl ⟨rfl,_,SqL.of L5.at_⟩,_,_,.inl (SqL.of elw5),Bw (j:=i) (by rw [ak,af hiw];rfl),?_⟩
    refine⟨c+1+(i:Int),lettersS,8,sz,by rw [<- esz];rfl,by decide,by decide,by rw [l26];omega,by rw [l26];decide,by rw [l26];decide,nd26,fun H6 la ss S6 fla ela lss okss=>⟨(show 2<=sizeLine by decide),fun ta hta=>?_⟩⟩
    have nla:la≠ls:=(Ai L5.at_ fla).symm
    have ST:=Same.upd (o:=.tup [.str ws[i],.ref la]) hta
    have et:upd H6 ta (.tup [.str ws[i],.ref la]) ta=some (.tup [.str ws[i],.ref la]):=Aa
    generalize upd H6 ta (.tup [.str ws[i],.ref la])=H7 at ST et ⊢
    have L7:=L5.up (S6.trans ST)
    have lds:ds.length<=5:=by
     have:=sub.length_le
     rw [ae,aH] at this
     omega
    refine⟨ls,_,_,rfl,rfl,L7.at_,?_,?_⟩
    ·rw [ae];exact bh lds (by decide)
    have pe:((By ((ds++[(((ws[i],ss),la),ta)]).map (·.1.1)):Nat):Int)=(By (ds.map (·.1.1)):Nat) * (2+Bi c (41+(i:Int)) % 3):=by
     rw [ax,show [(((ws[i],ss),la),ta)].map (fun x:((Str×List Str)×Addr)×Addr=>x.1.1)=[(ws[i],ss)] from rfl,Jw,jD,lss,esz]
    refine⟨ds++[(((ws[i],ss),la),ta)],⟨_,_,congrArg (fun z=>[some (V.int c),some (V.int (m:Int)),some (V.str lettersS),some (V.ref lw),some (V.ref ls),some (V.int z),some (V.int (i:Int)),some (V.int (2+Bi c (41+(i:Int)) % 3))]) pe.symm⟩,(S45.trans (S6.trans ST)).set fls,?_,L7.snoc et (ST _ _ ela) nla,?_,?_,by omega,fun h=>(by omega),fun _ h=>by simp at h⟩
    ·rw [Ad nwl];exact (S6.trans ST) _ _ elw5
    ·rw [ax,aV,af hiw]
     exact sub.append (dH _)
    ·intro x hx
     rcases List.mem_append.mp hx with hx|hx
     ·exact oks x hx
     ·obtain rfl:x=(((ws[i],ss),la),ta):=by simpa using hx
      exact⟨⟨fun z hz=>Yg (okss.2 z hz),okss.1,by rw [lss];omega⟩,by rw [lss];omega,by rw [lss];omega⟩
   ·have e:¬ ((By (ds.map (·.1.1)):Nat):Int) * (2+Bi c (41+(i:Int)) % 3)<=m:=of_decide_eq_false (by simpa using e)
    have hi0:i≠0:=fun z=>e (by
     rw [z0 z]
     show ((1:Nat):Int) * _<=_
     omega)
    exact⟨ds,⟨_,_,rfl⟩,S45,elw5,L5,sub.trans (dm (by omega)),oks,pm,fun h=>(by omega),fun _=>z1 (by omega)⟩
  ·rintro σ H4 ⟨ds,⟨v5,v6,rfl⟩,S4,elw4,L4,sub,oks,pm,z0,z1⟩
   rw [Ax] at sub z0 z1
   have sub2:=sub.trans (dJ _ ws)
   have hl:=sub2.length_le
   rw [ae] at hl
   have e1:(ds.map (·.1.1)).map (·.1)=ds.map (·.1.1.1):=by rw [aE];rfl
   refine .inl (k H4 ls (ds.map (·.1.1)) S4 ⟨ds,rfl,⟨trivial,L4.at_⟩,fun x hx=>⟨⟨trivial,L4.tup x hx⟩,trivial,(L4.lst x hx).1⟩⟩ ⟨?_,?_,?_,?_,?_⟩)
   ·rw [ae]
    exact List.length_pos_iff.mpr (z1 hN.1)
   ·rw [ae];omega
   ·rw [e1];exact okw.1.sublist sub2
   ·intro y hy
    obtain⟨x,hx,rfl⟩:=List.mem_map.mp hy
    exact⟨Yg (okw.2 _ (sub2.subset (List.mem_map.mpr ⟨x,hx,rfl⟩))),oks x hx⟩
   ·omega
theorem au6 (Z:An K t):OkD K Wh (A3 K t) bl (t.f 16) (t.d 16) (M5 K t):=by
 refine okD (n:=40) (t:=bc9 K t) rfl (by decide +kernel) (by kernel_rfl) (fun vs H Q E h=>?_) (fun vs H Q E h=>?_)
 ·obtain⟨l,sw,rfl,_⟩:=h;rfl
 ·obtain⟨l,sw,rfl,⟨ds,ed,⟨_,ol⟩,hd⟩,hw,k⟩:=h
  have len:ds.length=sw.length:=by rw [<- ed];simp
  refine .inl ⟨⟨_,SqL.of ol⟩,?_⟩
  refine Bh (Ba (ds.map fun x=>V.ref x.2)) (fun i σ H'=>(∃ v2 v3,σ=[some (.ref l),some (.int (By (sw.take i):Nat)),v2,v3])/\H'=H) ⟨⟨_,_,rfl⟩,rfl⟩ (fun _ _ H' _ q=>q.2▸SqL.of ol) ?_ ?_
  ·rintro i x σ H' hx ⟨⟨v2,v3,rfl⟩,rfl⟩
   obtain⟨⟨⟨x',la⟩,ta⟩,hi,rfl⟩:=Al hx
   have hi2:sw[i]? = some x':=by rw [<- ed,ak,hi];rfl
   obtain⟨⟨_,h1⟩,_,h2⟩:=hd _ (am hi)
   have h2:H' la=some (Be x'.2):=h2
   have o4:=(hw.sets x' (am hi2)).2.2
   refine⟨_,.inl (SqT.of h1),rfl,.inl ⟨_,.inl (SqL.of h2),?_⟩⟩
   have e:((By (sw.take (i+1)):Nat):Int)=(By (sw.take i):Nat) * ((x'.2.map V.str).length:Nat):=by
    rw [aV,hi2,cA,Jw,jD,ae]
   exact⟨.inr ⟨by rw [ae];omega,by rw [ae];omega⟩,⟨_,_,congrArg (fun z=>[some (V.ref l),some (V.int z),some (V.str x'.1),some (V.ref la)]) e.symm⟩,rfl⟩
  ·rintro σ H' ⟨⟨v2,v3,rfl⟩,rfl⟩
   rw [ae,len,aL]
   rw [F8] at k
   exact .inl k
theorem a38 {a:Addr} (xs:List V):Cd (Ph K a xs.length) xs.reverse (fun H=>SqL K H a xs):=by
 refine⟨fun i H q h=>⟨by rw [bK] at h;exact h,xs,q,rfl⟩,fun H q=>by show xs.length<=xs.reverse.length;rw [bK];exact aj _,fun i H x H' q hi h=>?_⟩
 obtain⟨h1,h2⟩:=h
 rw [bK] at hi
 refine⟨h1,?_⟩
 rw [List.getElem?_reverse hi]
 exact h2 xs q
noncomputable def Jm:List Nat->Nat->Nat
 | [],n=>n
 | s::r,n=>Jm r (n / s)
theorem K9:∀ (l:List Nat) (s n:Nat),Jm (l++[s]) n=Jm l n / s
 | [],_,_=>rfl
 | a::l,s,n=>K9 l s (n / a)
theorem Nx:∀ (l:List Nat) (s n:Nat),Kh (l++[s]) n=(Jm l n % s)::Kh l n
 | [],_,_=>rfl
 | a::l,s,n=>by
  show Kh (l++[s]) (n / a)++[n % a]=_
  rw [Nx l s (n / a)]
  rfl
theorem a90 (Z:An K t):OkD K ap5 (A3 K t) bl (t.f 18) (t.d 18) (Tp K t):=by
 refine okD (n:=40) (t:=bk9 K t) rfl (by decide +kernel) (by kernel_rfl) (fun vs H Q E h=>?_) (fun vs H Q E h=>?_)
 ·obtain⟨l,n,sw,rfl,_⟩:=h;rfl
 ·obtain⟨l,n,sw,rfl,⟨ds,ed,⟨_,ol⟩,hd⟩,hw,k⟩:=h
  refine⟨(show 0<=sizeLine by decide),fun D hD=>?_⟩
  have S0:=Same.upd (o:=.lst []) hD
  have e0:upd H D (.lst []) D=some (nO []):=Aa
  generalize upd H D (.lst [])=H0 at S0 e0 ⊢
  refine⟨_,SqL.of (S0 _ _ ol),?_⟩
  have big:(1000:Nat)<sizeLine:=by decide
  have rv:(ds.map fun x=>V.ref x.2).reverse=(ds.reverse).map fun x=>V.ref x.2:=List.map_reverse.symm
  have es:(ds.reverse.map fun x=>x.1.1.2.length)=(sw.map (·.2.length)).reverse:=by rw [<- ed,aE,jc];rfl
  have ld:ds.reverse.length<=5:=by
   have:=hw.2.1
   rw [<- ed,ae] at this
   rw [bK];exact this
  refine Bh (a38 (ds.map fun x=>V.ref x.2)) (fun i σ H'=>(∃ v3 v4,σ=[some (.ref l),some (.int (Jm ((ds.reverse.take i).map fun x=>x.1.1.2.length) n:Nat)),some (.ref D),v3,v4])/\Same H H'/\H' D=some (nO (Kh ((ds.reverse.take i).map fun x=>x.1.1.2.length) n)))
   ⟨⟨_,_,rfl⟩,S0,e0⟩ (fun _ _ H' _ q=>q.2.1.seqL (SqL.of ol)) ?_ ?_
  ·rintro i x σ H1 hx ⟨⟨v3,v4,rfl⟩,S1,e1⟩
   rw [rv] at hx
   obtain⟨⟨⟨x',la⟩,ta⟩,hi,rfl⟩:=Al hx
   have hm:((x',la),ta)∈ds:=List.mem_reverse.mp (am hi)
   have o2:=(hw.sets x' (by rw [<- ed];exact List.mem_map.mpr ⟨_,hm,rfl⟩)).2
   obtain⟨⟨_,h1⟩,_,h2⟩:=hd _ hm
   have h2:H la=some (Be x'.2):=h2
   have tk:=B7 hi fun x=>x.1.1.2.length
   have li:=Aj hi
   refine⟨_,.inl (SqT.of (S1 _ _ h1)),rfl,.inl ⟨rfl,_,SqL.of e1⟩,.inl ⟨_,.inl (SqL.of (S1 _ _ h2)),?_⟩⟩
   have cl:(((x'.2.map V.str).length:Nat):Int)=(x'.2.length:Int):=by rw [ae]
   have md:∀ a:Nat,(a:Int) % (x'.2.length:Int)=((a % x'.2.length:Nat):Int):=fun a=>(Int.natCast_emod a _).symm
   have el:((Jm ((ds.reverse.take (i+1)).map fun x=>x.1.1.2.length) n:Nat):Int)=(Jm ((ds.reverse.take i).map fun x=>x.1.1.2.length) n:Nat) / (((x'.2.map V.str).length:Nat):Int):=by
    rw [tk,K9,cl];exact Int.natCast_ediv _ _
   refine⟨by omega,D,_,_,0,rfl,rfl,e1,bj _,?_,.inl ⟨_,.inl (SqL.of ((S1.set hD) _ _ h2)),⟨by omega,by omega⟩,⟨_,_,congrArg (fun z=>[some (V.ref l),some (V.int z),some (V.ref D),some (V.str x'.1),some (V.ref la)]) el.symm⟩,S1.set hD,?_⟩⟩
   ·rw [ae,Dl,ae,aH];omega
   ·rw [Aa,nO,tk,Nx,cl,md]
    rfl
  ·rintro σ H1 ⟨⟨v3,v4,rfl⟩,S1,e1⟩
   rw [bK,ae,<- bK,aL,es] at e1
   exact .inl (k H1 D S1 e1)
theorem ar1 {sw:Sw} {x e:Str×List Str} (hw:okSw sw) (hx:x∈sw) (h:e.1=x.1/\e.2≠[]/\e.2.Sublist x.2):Gx sw e:=by
 have ox:=hw.sets x hx
 refine⟨h.2.1,⟨fun z hz=>ox.1.1 z (h.2.2.subset hz),ox.1.2.1.sublist h.2.2,?_⟩,x,hx,h.1.symm,fun z hz=>h.2.2.subset hz⟩
 have:=h.2.2.length_le
 have:=ox.2.2
 omega
theorem au4 (Z:An K t):OkD K Wf (A3 K t) bl (t.f 17) (t.d 17) (Q6 K t):=by
 refine okD (n:=40) (t:=bc7 K t) rfl (by decide +kernel) (by kernel_rfl) (fun vs H Q E h=>?_) (fun vs H Q E h=>?_)
 ·obtain⟨c,l,sw,rfl,_⟩:=h;rfl
 ·obtain⟨c,l,sw,rfl,⟨ds,ed,⟨_,ol⟩,hd⟩,hw,k⟩:=h
  have len:ds.length=sw.length:=by rw [<- ed];simp
  have l5:=hw.2.1
  have big:(1000:Nat)<sizeLine:=by decide
  refine⟨(show 0<=sizeLine by decide),fun kk hkk=>?_⟩
  have S0:=Same.upd (o:=.lst []) hkk
  have ek0:upd H kk (.lst []) kk=some (.lst []):=Aa
  generalize upd H kk (.lst [])=H0 at S0 ek0 ⊢
  refine⟨c,60,rfl,by decide,by decide,⟨by omega,by omega⟩,?_⟩
  refine Bh (Br 0 (Bi c 60 % 4).toNat) (fun i σ H'=>∃ gs:List (Sw×Addr),(∃ v3 v4 v5 v6 v7 v8 v9,σ=[some (.int c),some (.ref l),some (.ref kk),v3,v4,v5,v6,v7,v8,v9])/\Same H H'/\H' kk=some (.lst (gs.map fun x=>.ref x.2))/\(∀ x∈gs,RuleAt (· ≠ kk) H' x.2 x.1)/\(∀ r∈gs.map (·.1),Eb sw r)/\gs.length<=i)
   ⟨[],⟨_,_,_,_,_,_,_,rfl⟩,S0,ek0,(fun x hx=>by cases hx),(fun x hx=>by cases hx),aj _⟩ (fun _ _ _ _ _=>aX) ?_ ?_
  ·rintro i x σ H1 hx ⟨gs,⟨v3,v4,v5,v6,v7,v8,v9,rfl⟩,S1,ek,hg,okg,gl⟩
   obtain⟨hi,rfl⟩:=Cr hx
   intro d hd0
   refine .inl (.inl ⟨⟨_,(S1.trans (Same.upd hd0)).seqL (SqL.of ol)⟩,?_⟩)
   have Sd:=Same.upd (o:=.dK []) hd0
   have e0:upd H1 d (.dK []) d=some (.dK (([]:List ((Str×List Str)×Addr)).map kR)):=Aa
   have ndk:d≠kk:=(Ai ek hd0).symm
   show Gg (Ite K l) _ _ _ [some (.int c),some (.ref l),some (.ref kk),some (.int (i:Int)),some (.ref d),v5,v6,v7,v8,v9] (upd H1 d (.dK []))
   generalize upd H1 d (.dK [])=H2 at Sd e0 ⊢
   refine Hu (Ef (ds.map fun x=>V.ref x.2)) (fun j σ H'=>(∃ v5 v6 v7 v8 v9,σ=[some (.int c),some (.ref l),some (.ref kk),some (.int (i:Int)),some (.ref d),v5,v6,v7,v8,v9])/\Same H1 H' /\ ∃ es:List ((Str×List Str)×Addr),H' d=some (.dK (es.map kR))/\(∀ e∈es,H1 e.2=none/\e.2≠d/\H' e.2=some (Be e.1.2))/\((es.map (·.1)).map (·.1)).Sublist ((sw.take j).map (·.1)) /\ ∀ e∈es,Gx sw e.1)
    ⟨⟨_,_,_,_,_,rfl⟩,Sd,[],e0,(fun e he=>by cases he),dH _,(fun e he=>by cases he)⟩ (fun _ _ H' _ q=>(S1.trans q.2.1).seqL (SqL.of ol)) ?_ ?_
   ·rintro j x y T σ H3 hx3 hT ⟨⟨v5,v6,v7,v8,v9,rfl⟩,S3,es,ed3,he,sub,oke⟩
    obtain⟨⟨⟨x',la⟩,ta⟩,hj,rfl,rfl⟩:=Mc hx3
    have hj2:sw[j]? = some x':=by rw [<- ed,ak,hj];rfl
    have jl:=Aj hj2
    obtain⟨⟨_,h1⟩,_,h2⟩:=hd _ (am hj)
    have h2:H la=some (Be x'.2):=h2
    have o4:=(hw.sets x' (am hj2)).2.2
    have ST:=Same.upd (o:=.tup [.int (j:Int),.ref ta]) hT
    refine⟨_,.inl (SqT.of Aa),rfl,?_⟩
    generalize upd H3 T (.tup [.int (j:Int),.ref ta])=H4 at ST ⊢
    have S14:=S3.trans ST
    have S04:=S1.trans S14
    refine⟨_,.inl (SqT.of (S04 _ _ h1)),rfl,⟨.inl ⟨by decide,by decide⟩,c,61+8 * (i:Int)+(j:Int),rfl,by omega,?_⟩⟩
    refine .inl ⟨⟨_,SqL.of (S04 _ _ h2)⟩,fun D hD=>?_⟩
    refine Hq (Ef (x'.2.map V.str)) (fun m σ H'=>(∃ v0 v1,σ=[v0,v1,some (.int (Bi c (61+8 * (i:Int)+(j:Int))))])/\Same H4 H' /\ ∃ ss,H' D=some (Be ss)/\ss.Sublist (x'.2.take m)) ⟨⟨_,_,rfl⟩,Same.upd hD,[],Aa,List.nil_sublist _⟩ (fun m σ H' _ q=>(S04.trans q.2.1).seqL (SqL.of h2)) ?_ ?_
    ·rintro m u y T2 σ H5 hx5 hT2 ⟨⟨v0,v1,rfl⟩,S5,ss,eD,sb⟩
     obtain⟨rfl,hy⟩:=Iy hx5
     obtain⟨z,hz,rfl⟩:=Al hy
     have ST2:=Same.upd (o:=.tup [.int (m:Int),.str z]) hT2
     refine⟨_,.inl (SqT.of Aa),rfl,by omega,?_⟩
     have pl:ss.length<=4:=by
      have:=sb.length_le
      rw [aH] at this
      omega
     refine Ji (fun _=>?_) (fun _=>?_)
     ·refine⟨_,ST2 _ _ eD,by rw [ae];omega,⟨_,_,rfl⟩,(S5.trans ST2).set hD,ss++[z],by rw [Aa,Be,ax];rfl,?_⟩
      rw [aV,hz]
      exact sb.append (dH _)
     ·exact⟨⟨_,_,rfl⟩,S5.trans ST2,ss,ST2 _ _ eD,sb.trans (dm (by omega))⟩
    ·rintro σ H5 ⟨_,S5,ss,eD,sb⟩
     have sb2:ss.Sublist x'.2:=sb.trans (dJ _ _)
     have S15:=S14.trans S5
     refine⟨(show 0<=sizeLine by decide),fun q hq=>.inl ⟨D,q,_,_,rfl,rfl,SqL.of ((Same.upd hq) _ _ eD),SqL.of Aa,E4 _,rfl,?_⟩⟩
     have Sq:=Same.upd (o:=.lst []) hq
     generalize upd H5 q (.lst [])=H6 at Sq ⊢
     have S16:=S15.trans Sq
     have stay:(∃ v5 v6 v7 v8 v9,[some (V.int c),some (.ref l),some (.ref kk),some (.int (i:Int)),some (.ref d),some (.int (j:Int)),some (.str x'.1),some (.ref la),some (.int (Bi c (61+8 * (i:Int)+(j:Int)))),some (.ref D)]=[some (V.int c),some (.ref l),some (.ref kk),some (.int (i:Int)),some (.ref d),v5,v6,v7,v8,v9])/\Same H1 H6 /\ ∃ es:List ((Str×List Str)×Addr),H6 d=some (.dK (es.map kR))/\(∀ e∈es,H1 e.2=none/\e.2≠d/\H6 e.2=some (Be e.1.2))/\((es.map (·.1)).map (·.1)).Sublist ((sw.take (j+1)).map (·.1)) /\ ∀ e∈es,Gx sw e.1:=
      ⟨⟨_,_,_,_,_,rfl⟩,S16,es,(ST.trans (S5.trans Sq)) _ _ ed3,fun e h=>⟨(he e h).1,(he e h).2.1,(ST.trans (S5.trans Sq)) _ _ (he e h).2.2⟩,sub.trans ((dm (by omega)).map _),oke⟩
     by_cases hp:ss=[]
     ·subst hp
      exact stay
     ·refine N2 (by rw [Er (by rw [ae];intro z;exact hp (List.length_eq_zero_iff.mp z))];rfl) ?_
      refine⟨⟨by decide,by decide⟩,by decide,Ji (fun _=>?_) (fun _=>stay)⟩
      have nk:Bs (es.map kR) (.inr x'.1)=none:=by
       refine Bx fun q=>?_
       rw [Ia] at q
       obtain⟨y,hy,e⟩:=List.mem_map.mp q
       cases e
       have hm:=sub.subset hy
       rw [iV] at hm
       exact Dv hw.2.2.1 (show (sw.map (·.1))[j]? = some x'.1 by rw [ak,hj2];rfl) hm
      have el:es.length<=5:=by
       have:=sub.length_le
       rw [ae,ae,ae,aH] at this
       omega
      have e6D:=Sq _ _ eD
      have e6d:=(ST.trans (S5.trans Sq)) _ _ ed3
      have ndD:D≠d:=fun z=>by rw [z,e6d] at e6D;cases e6D
      refine⟨_,DPut.k (k:=.inr x'.1) e6d (by rw [ae];omega),?_⟩
      rw [Hz (e:=(x'.1,ss)) nk]
      refine⟨⟨_,_,_,_,_,rfl⟩,S16.set hd0,es++[((x'.1,ss),D)],Aa,fun x hx=>?_,?_,fun x hx=>?_⟩
      ·rcases List.mem_append.mp hx with hx|hx
       ·obtain⟨a1,a2,a3⟩:=he x hx
        exact⟨a1,a2,by rw [Ad a2];exact (ST.trans (S5.trans Sq)) _ _ a3⟩
       ·obtain rfl:x=((x'.1,ss),D):=by simpa using hx
        exact⟨S14.free hD,ndD,by rw [Ad ndD];exact e6D⟩
      ·rw [ax,ax,aV,hj2,ax]
       exact sub.append (dH _)
      ·rcases List.mem_append.mp hx with hx|hx
       ·exact oke x hx
       ·obtain rfl:x=((x'.1,ss),D):=by simpa using hx
        exact ar1 hw (am hj2) ⟨rfl,hp,sb2⟩
   ·rintro σ H3 ⟨⟨v5,v6,v7,v8,v9,rfl⟩,S3,es,ed3,he,sub,oke⟩
    rw [Bf,ae,len,aL] at sub
    refine .inl ?_
    intro q hq
    refine .inl (.inr (.inr (.inl (.inr (.inl ⟨_,.inl ((Same.upd hq) _ _ ed3),.inl Aa,?_⟩)))))
    have Sq:=Same.upd (o:=.dK []) hq
    generalize upd H3 q (.dK [])=H4 at Sq ⊢
    have S14:=S3.trans Sq
    have ek4:=S14 _ _ ek
    have hg4:∀ x∈gs,RuleAt (· ≠ kk) H4 x.2 x.1:=fun x hx=>(hg x hx).mono (Kp.same S14)
    cases es with
    | nil=>exact⟨gs,⟨_,_,_,_,_,_,_,rfl⟩,S1.trans S14,ek4,hg4,okg,Nat.le_succ_of_le gl⟩
    | cons e0 es0=>
     refine P7 ?_
     refine⟨.inl ⟨rfl,_,SqL.of ek4⟩,kk,_,_,rfl,rfl,ek4,by rw [ae];omega,?_⟩
     refine⟨gs++[((e0::es0).map (·.1),d)],⟨_,_,_,_,_,_,_,rfl⟩,(S1.trans S14).set hkk,by rw [Aa,ax];rfl,fun x hx=>?_,fun r hr=>?_,by rw [aZ];exact dq gl⟩
     ·refine RuleAt.mono (H:=H4) (ok:=(· ≠ kk)) ?_ (Kp.off fun z=>z rfl)
      rcases List.mem_append.mp hx with hx|hx
      ·exact hg4 x hx
      ·obtain rfl:x=((e0::es0).map (·.1),d):=by simpa using hx
       exact⟨e0::es0,rfl,⟨ndk,Sq _ _ ed3⟩,fun x hx=>⟨(Ai ek (he x hx).1).symm,Sq _ _ (he x hx).2.2⟩⟩
     ·rw [ax] at hr
      rcases List.mem_append.mp hr with hr|hr
      ·exact okg r hr
      ·obtain rfl:r=(e0::es0).map (·.1):=by simpa using hr
       have sl:=sub.length_le
       rw [ae,ae,ae] at sl
       refine⟨by simp,by rw [ae];omega,hw.2.2.1.sublist sub,fun e h=>?_⟩
       obtain⟨x,hx,rfl⟩:=List.mem_map.mp h
       exact oke x hx
  ·rintro σ H1 ⟨gs,⟨v3,v4,v5,v6,v7,v8,v9,rfl⟩,S1,ek,hg,okg,gl⟩
   rw [Ax] at gl
   exact .inl (k H1 kk (gs.map (·.1)) S1 ⟨gs,rfl,⟨trivial,ek⟩,fun x hx=>(hg x hx).mono Kp.any⟩ okg (by rw [ae];omega))
theorem N1 (z:Str) (l:List Str):inV (.str z) (l.map V.str)=decide (z∈l):=by
 unfold inV
 rw [lH,bT,decide_eq_true_iff,fj]
 constructor
 ·rintro⟨y,hy,e⟩
  have e:(y==z)=true:=e
  rw [<- ck e]
  exact hy
 ·intro h
  exact⟨z,h,beq_self_eq_true z⟩
noncomputable def inE (rule:Sw) (x z:Str):Bool:=rule.all fun e=>!decide (e.1=x)||decide (z∈e.2)
noncomputable def Uo (sw rule:Sw) (r:List Str) (j:Nat):Bool:=inE rule ((sw.map (·.1)).getD j dX) (r.getD j dX)
theorem E5 {α:Type} {l:List α} {i:Nat} {x d:α} (h:l[i]? = some x):l.getD i d=x:=by rw [ao,h];rfl
theorem aq5 {sw rule:Sw} {n:Nat} {r:List Str} (hw:okSw sw) (hb:Eb sw rule) (hn:(Ak sw)[n]? = some r):((aw sw.length).all (Uo sw rule r))=(Fc sw rule).testBit n:=by
 have rl:r.length=sw.length:=(Ga hw.sets).2.1 r (am hn)
 have nm:∀ {j:Nat} {x:Str×List Str},sw[j]? = some x->(sw.map (·.1)).getD j dX=x.1:=fun h=>E5 (by rw [ak,h];rfl)
 have hz:∀ {j:Nat},j<sw.length->r[j]? = some (r.getD j dX):=fun h=>by rw [ao,af (by omega)];rfl
 rw [W9,decide_eq_true (Aj hn),gG,bT,bb,bb]
 constructor
 ·intro h e he
  obtain⟨_,_,x,hx,ex,_⟩:=hb.2.2.2 e he
  obtain⟨j,hj⟩:=List.mem_iff_getElem?.mp hx
  have jl:=Aj hj
  have:=List.all_eq_true.mp (h j (List.mem_range.mpr jl)) e he
  rw [nm hj,ex,decide_eq_true rfl,kJ,iQ,decide_eq_true_iff] at this
  refine List.any_eq_true.mpr ⟨_,this,?_⟩
  unfold P4
  rw [hn,<- ex,Jv hj hw.2.2.1]
  exact decide_eq_true (hz jl)
 ·intro h j hj
  have jl:=List.mem_range.mp hj
  have hx:sw[j]? = some sw[j]:=af jl
  refine List.all_eq_true.mpr fun e he=>?_
  rw [nm hx]
  by_cases c:e.1=sw[j].1
  ·obtain⟨z,hz1,hz2⟩:=List.any_eq_true.mp (h e he)
   unfold P4 at hz2
   have hz2:=of_decide_eq_true hz2
   rw [hn,c,Jv hx hw.2.2.1] at hz2
   have hz2:r[j]? = some z:=hz2
   rw [E5 hz2,decide_eq_true hz1,Bool.or_true]
  ·rw [decide_eq_false c];rfl
theorem aq3 (f:Nat->Bool) (n:Nat):(((aw n).map f).all fun b=>b)=(aw n).all f:=by rw [ge];rfl
theorem a89 (Z:An K t):OkD K ap4 (A3 K t) bl (t.f 19) (t.d 19) (Z1 K t):=by
 refine okD (n:=40) (t:=bk8 K t) rfl (by decide +kernel) (by kernel_rfl) (fun vs H Q E h=>?_) (fun vs H Q E h=>?_)
 ·obtain⟨l,k,n,sw,rules,rfl,_⟩:=h;rfl
 ·obtain⟨l,kk,n,sw,rules,rfl,hsw,hw,⟨gs,eg,⟨_,ok⟩,hg⟩,hr,hn,k⟩:=h
  have big:(1000:Nat)<sizeLine:=by decide
  have l5:=hw.2.1
  refine⟨l,n,sw,rfl,hsw,hw,fun H1 r S1 er=>?_⟩
  obtain⟨ds,ed,⟨_,ol⟩,hd⟩:=hsw
  have len:ds.length=sw.length:=by rw [<- ed];simp
  have hrow:(Ak sw)[n]? = some (Ak sw)[n]:=af hn
  generalize (Ak sw)[n]=row at hrow
  refine .inl ⟨⟨_,SqL.of (S1 _ _ ok)⟩,?_⟩
  refine Bh (Ba (gs.map fun x=>V.ref x.2)) (fun i σ H'=>(∃ v4 v5,σ=[some (.ref l),some (.ref kk),some (.int (n:Int)),some (.ref r),v4,v5])/\Same H1 H' /\ ∀ q∈rules.take i,(Fc sw q).testBit n=false) ⟨⟨_,_,rfl⟩,Same.refl _,fun q hq=>(by cases hq)⟩ (fun _ _ H' _ q=>(S1.trans q.2.1).seqL (SqL.of ok)) ?_ ?_
  ·rintro i x σ H2 hx ⟨⟨v4,v5,rfl⟩,S2,pre⟩
   obtain⟨⟨rule,ra⟩,hi,rfl⟩:=Al hx
   have hi2:rules[i]? = some rule:=by rw [<- eg,ak,hi];rfl
   obtain⟨es,ee,⟨_,oe⟩,he⟩:=hg _ (am hi)
   have ee:es.map (·.1)=rule:=ee
   have oe:H ra=some (.dK (es.map kR)):=oe
   have okr:=hr rule (am hi2)
   have S02:=S1.trans S2
   refine .inl ⟨⟨_,SqL.of (S02 _ _ ol)⟩,fun D hD=>?_⟩
   refine Hq (Ef (ds.map fun x=>V.ref x.2)) (fun m σ H'=>(∃ v0 v1 v2,σ=[v0,v1,v2,some (.ref r),some (.ref ra)])/\Same H2 H'/\H' D=some (.lst (((aw m).map (Uo sw rule row)).map V.bl))) ⟨⟨_,_,_,rfl⟩,Same.upd hD,Aa⟩ (fun m σ H' _ q=>(S02.trans q.2.1).seqL (SqL.of ol)) ?_ ?_
   ·rintro j x y T σ H3 hx3 hT ⟨⟨v0,v1,v2,rfl⟩,S3,eD⟩
    obtain⟨⟨⟨x',la⟩,ta⟩,hj,rfl,rfl⟩:=Mc hx3
    have hj2:sw[j]? = some x':=by rw [<- ed,ak,hj];rfl
    have jl:=Aj hj2
    obtain⟨⟨_,h1⟩,_,h2⟩:=hd _ (am hj)
    have h2:H la=some (Be x'.2):=h2
    have ST:=Same.upd (o:=.tup [.int (j:Int),.ref ta]) hT
    refine⟨_,.inl (SqT.of Aa),rfl,?_⟩
    generalize upd H3 T (.tup [.int (j:Int),.ref ta])=H4 at ST ⊢
    have S24:=S3.trans ST
    have S04:=S02.trans S24
    obtain⟨dg,hd1,hd2,hd3⟩:=ar0 hw hrow hj2
    have hz:x'.2[dg]? = some x'.2[dg]:=af hd2
    rw [hz] at hd3
    generalize x'.2[dg]=z at hz hd3
    refine⟨_,.inl (SqT.of (S04 _ _ h1)),rfl,?_⟩
    refine⟨_,.int (dg:Int),.inl (SqL.of ((S2.trans S24) _ _ er)),Bw (j:=j) (by rw [ak,hd1];rfl),_,.str z,.inl (SqL.of (S04 _ _ h2)),Bw (j:=dg) (by rw [ak,hz];rfl),?_⟩
    refine⟨.inr (.inr (.inl ⟨rfl,.inl ⟨_,S04 _ _ oe⟩⟩)),_,DGet.k (k:=.inr x'.1) (S04 _ _ oe),?_⟩
    have fin:∀ b:Bool,b=Uo sw rule row j -> ∃ ys,H4 D=some (.lst ys)/\ys.length<sizeLine/\(∃ v0 v1 v2,[some (V.int (j:Int)),some (.str x'.1),some (.ref la),some (.ref r),some (.ref ra)]=[v0,v1,v2,some (.ref r),some (.ref ra)])/\Same H2 (upd H4 D (.lst (ys++[.bl b])))/\upd H4 D (.lst (ys++[.bl b])) D=some (.lst (((aw (j+1)).map (Uo sw rule row)).map V.bl)):=fun b hb=>
     ⟨_,ST _ _ eD,by rw [ae,ae,a7];omega,⟨_,_,_,rfl⟩,S24.set hD,by rw [Aa,hb,fK,ax,ax];rfl⟩
    have ins:Uo sw rule row j=inE rule x'.1 z:=by unfold Uo;rw [E5 hd3,E5 (x:=x'.1) (by rw [ak,hj2];rfl)]
    by_cases hin:x'.1∈rule.map (·.1)
    ·obtain⟨e,hee,en⟩:=List.mem_map.mp hin
     rw [<- ee] at hee
     obtain⟨⟨e',le⟩,hes,rfl⟩:=List.mem_map.mp hee
     obtain⟨a,ha⟩:=List.mem_iff_getElem?.mp hes
     have hv:Bs (es.map kR) (.inr x'.1)=some (.ref le):=by
      rw [<- en]
      exact Bg (D4 ee okr.2.2.1) (by rw [ak,ha];rfl)
     rw [hv]
     refine .inl ⟨le,_,rfl,.inl (SqL.of (S04 _ _ (he _ hes).2)),rfl,E4 _,fin _ ?_⟩
     show inV (.str z) _=_
     rw [N1,ins]
     have em:e'∈rule:=by rw [<- ee];exact hee
     unfold inE
     rw [bT,decide_eq_true_iff,bb]
     refine⟨fun hz e he2=>?_,fun h=>by simpa [show e'.1=x'.1 from en] using h e' em⟩
     by_cases c:e.1=x'.1
     ·have:e=e':=by
       obtain⟨a1,q1⟩:=List.mem_iff_getElem?.mp he2
       obtain⟨a2,q2⟩:=List.mem_iff_getElem?.mp em
       have l1:=Aj q1
       have l2:=Aj q2
       rw [af l1] at q1
       rw [af l2] at q2
       have:=(cJ (i:=a1) (j:=a2) (h₀:=by rw [ae];exact l1) (h₁:=by rw [ae];exact l2) okr.2.2.1).mp (by rw [b9,b9,av q1,av q2,c];exact en.symm)
       subst this
       exact (av q1).symm.trans (av q2)
      rw [this,decide_eq_true hz,Bool.or_true]
     ·rw [decide_eq_false c];rfl
    ·have hv:Bs (es.map kR) (.inr x'.1)=none:=by
      refine Bx fun q=>hin ?_
      rw [Ia,ee] at q
      obtain⟨y,hy,e⟩:=List.mem_map.mp q
      cases e
      exact hy
     rw [hv]
     refine .inl ⟨la,_,rfl,.inl (SqL.of (S04 _ _ h2)),rfl,E4 _,fin _ ?_⟩
     show inV (.str z) _=_
     rw [N1,ins,decide_eq_true (am hz)]
     refine (List.all_eq_true.mpr fun e he2=>?_).symm
     rw [decide_eq_false fun c=>hin (List.mem_map.mpr ⟨e,he2,c⟩)];rfl
   ·rintro σ H3 ⟨_,S3,eD⟩
    rw [Bf,ae,len] at eD
    refine⟨_,SqL.of eD,?_⟩
    rw [aq3,aq5 hw okr hrow]
    cases hc:(Fc sw rule).testBit n with
    | true=>
     have:=k H3 (S02.trans S3)
     have hb:Fr sw rules n=true:=List.any_eq_true.mpr ⟨rule,am hi2,hc⟩
     rw [hb] at this
     exact this
    | false=>
     refine⟨⟨_,_,rfl⟩,S2.trans S3,fun q hq=>?_⟩
     rw [aV,hi2] at hq
     rcases List.mem_append.mp hq with hq|hq
     ·exact pre q hq
     ·obtain rfl:q=rule:=by simpa using hq
      exact hc
  ·rintro σ H2 ⟨⟨v4,v5,rfl⟩,S2,pre⟩
   rw [ae,<- ae (f:=lV) (as:=gs),eg,aL] at pre
   have hb:Fr sw rules n=false:=by
    unfold Fr
    rw [iA]
    exact fun q hq z=>by rw [pre q hq] at z;cases z
   have:=k H2 (S1.trans S2)
   rw [hb] at this
   exact .inl this
theorem Cy (l:List Nat):(l.map fun n:Nat=>V.int (n:Int)).all Bu=true:=by rw [ge,bb];exact fun _ _=>rfl
theorem au7 (Z:An K t):OkD K Wi (A3 K t) bl (t.f 20) (t.d 20) (Q7 K t):=by
 refine okD (n:=40) (t:=bd0 K t) rfl (by decide +kernel) (by kernel_rfl) (fun vs H Q E h=>?_) (fun vs H Q E h=>?_)
 ·obtain⟨c,m,rfl,_⟩:=h;rfl
 ·obtain⟨c,m,rfl,hm,hm2,k⟩:=h
  have big:(1000:Nat)<sizeLine:=by decide
  refine⟨c,m,rfl,hm,hm2,fun H1 l sw S1 hsw hw=>⟨c,l,sw,rfl,hsw,hw,fun H2 kk rules S2 hr okr lr=>?_⟩⟩
  have few:=hw.len
  have S02:=S1.trans S2
  have hsw2:=hsw.mono (Kp.same S2)
  refine⟨l,sw,rfl,hsw2,hw,⟨by omega,by omega⟩,fun D hD=>?_⟩
  rw [aU]
  refine Dg (Br 0 (Ak sw).length) (fun i σ H'=>(∃ v,σ=[v,some (.ref kk),some (.ref l)])/\Same H2 H'/\H' D=some (nO ((aw i).filter fun n=>!Fr sw rules n))) ⟨⟨_,rfl⟩,Same.upd hD,Aa⟩ (fun _ _ _ _ _=>aX) ?_ ?_
  ·rintro i x σ H3 hx ⟨⟨v,rfl⟩,S3,eD⟩
   obtain⟨hi,rfl⟩:=Cr hx
   refine⟨l,kk,i,sw,rules,rfl,hsw2.mono (Kp.same S3),hw,hr.mono (Kp.same S3),okr,hi,fun H4 S4=>?_⟩
   have S34:=S3.trans S4
   have fs:(aw (i+1)).filter (fun n=>!Fr sw rules n)=(aw i).filter (fun n=>!Fr sw rules n)++(if (!Fr sw rules i)=true then [i] else []):=by
    rw [fK,fI,ja,jG]
   cases hc:Fr sw rules i with
   | true=>
    rw [hc,if_neg (by decide),dI] at fs
    exact⟨⟨_,rfl⟩,S34,by rw [fs];exact S4 _ _ eD⟩
   | false=>
    rw [hc,if_pos (by decide)] at fs
    refine⟨_,S4 _ _ eD,?_,⟨_,rfl⟩,S34.set hD,?_⟩
    ·rw [ae]
     have:=cW (fun n=>!Fr sw rules n) (aw i)
     rw [a7] at this
     omega
    ·rw [Aa,fs,nO,ax];rfl
  ·rintro σ H3 ⟨_,S3,eD⟩
   rw [Ax] at eD
   have eD:H3 D=some (nO (Aq sw rules)):=eD
   refine⟨(show 0<=sizeLine by decide),fun q hq=>.inl ⟨D,q,_,_,rfl,rfl,SqL.of ((Same.upd hq) _ _ eD),SqL.of Aa,Cy _,rfl,?_⟩⟩
   have Sq:=Same.upd (o:=.lst []) hq
   generalize upd H3 q (.lst [])=H4 at Sq ⊢
   have S24:=S3.trans Sq
   have S04:=S02.trans S24
   by_cases hf:Aq sw rules=[]
   ·rw [hf]
    refine P7 ?_
    refine⟨(show 0<=sizeLine by decide),fun k2 hk2=>?_⟩
    have S5:=Same.upd (o:=.lst []) hk2
    have e5:upd H4 k2 (.lst []) k2=some (.lst []):=Aa
    generalize upd H4 k2 (.lst [])=H5 at S5 e5 ⊢
    refine⟨l,sw,rfl,hsw2.mono (Kp.same (S24.trans S5)),hw,by omega,by omega,fun D2 hD2=>?_⟩
    rw [aU]
    have S6:=Same.upd (o:=nO (aw (Ak sw).length)) hD2
    have e6:upd H5 D2 (nO (aw (Ak sw).length)) D2=some (nO (aw (Ak sw).length)):=Aa
    show Ae _ _ _ _ (upd H5 D2 (nO (aw (Ak sw).length)))
    generalize upd H5 D2 (nO (aw (Ak sw).length))=H6 at S6 e6 ⊢
    refine⟨(show 3<=sizeLine by decide),fun W hW=>?_⟩
    have S7:=Same.upd (o:=.lst [.ref l,.ref k2,.ref D2]) hW
    have f0:Aq sw []=aw (Ak sw).length:=List.filter_eq_self.mpr fun _ _=>rfl
    refine k _ W sw [] l k2 D2 (S04.trans (S5.trans (S6.trans S7))) ⟨Aa,hsw2.mono (Kp.same (S24.trans (S5.trans (S6.trans S7)))),hw,⟨[],rfl,⟨trivial,(S6.trans S7) _ _ e5⟩,fun x hx=>by cases hx⟩,fun r hr=>(by cases hr),bj _,by rw [f0];exact S7 _ _ e6,?_⟩
    rw [f0]
    intro z
    have:=congrArg cg z
    rw [a7,List.length_nil] at this
    have:=hw.pos
    omega
   ·refine Hb (Er (by rw [ae];intro z;exact hf (List.length_eq_zero_iff.mp z))) ?_
    refine⟨(show 3<=sizeLine by decide),fun W hW=>?_⟩
    have S7:=Same.upd (o:=.lst [.ref l,.ref kk,.ref D]) hW
    exact k _ W sw rules l kk D (S04.trans S7) ⟨Aa,hsw2.mono (Kp.same (S24.trans S7)),hw,hr.mono (Kp.same (S24.trans S7)),okr,by omega,(Sq.trans S7) _ _ eD,hf⟩
theorem Fv (x:Int) {m:Nat} (h:1<=m):∃ v:Nat,v<m/\x % (m:Int)=(v:Int):=by
 have h0:=cV x (show (m:Int)≠0 by omega)
 have h1:=cy x (show 0<(m:Int) by omega)
 exact⟨(x % (m:Int)).toNat,by omega,by omega⟩
theorem a82 (Z:An K t):OkD K ao9 (A3 K t) bl (t.f 25) (t.d 25) (Zz K t):=by
 refine okD (n:=40) (t:=bk2 K t) rfl (by decide +kernel) (by kernel_rfl) (fun vs H Q E h=>?_) (fun vs H Q E h=>?_)
 ·obtain⟨c,l,sw,n,m,rfl,_⟩:=h;rfl
 ·obtain⟨c,l,sw,n,m,rfl,hsw,hw,hm,k⟩:=h
  obtain⟨ds,ed,⟨_,ol⟩,hd⟩:=id hsw
  have len:ds.length=sw.length:=by rw [<- ed];simp
  have l1:=hw.1
  refine⟨c,70,rfl,by decide,by decide,Ji (fun _=>?_) (fun _=>?_)⟩
  ·refine⟨l,n,sw,rfl,hsw,hw,fun H1 r S1 er=>⟨c,71,rfl,by decide,.inl ⟨_,.inl (SqL.of (S1 _ _ ol)),?_⟩⟩⟩
   rw [ae,len]
   obtain⟨j,hj,ej⟩:=Fv (Bi c 71) l1
   have hd2:(Mb sw n)[j]? = some ((Mb sw n)[j]'(by rw [Iv];exact hj)):=af _
   refine⟨by omega,_,.int ((Mb sw n)[j]'(by rw [Iv];exact hj):Nat),.inl (SqL.of er),?_,by omega,?_⟩
   ·rw [ej];exact Bw (by rw [ak,hd2];rfl)
   ·obtain⟨v,hv,ev⟩:=Fv (((Mb sw n)[j]'(by rw [Iv];exact hj):Nat):Int) hm
    rw [ev]
    exact k H1 v S1 hv
  ·obtain⟨v,hv,ev⟩:=Fv (Bi c (700+(n:Int))) hm
   refine⟨c,700+(n:Int),rfl,by omega,by omega,?_⟩
   rw [ev]
   exact k H v (Same.refl _) hv
noncomputable def textS:Str := " !\"#$&'()*+,-./0123456789:;<=>?@ABCDEFGHIJKLMNOPQRSTUVWXYZ[\\]^_`" ++ "abcdefghijklmnopqrstuvwxyz{|}~"
theorem bf7 (x:Int) (h0:0<=x) (h:x<5):∃ L:Nat,L<=60/\atI [V.int 0,.int 1,.int 2,.int 5,.int 60] x=some (.int (L:Int)):=by
 have:x=0\/x=1\/x=2\/x=3\/x=4:=by omega
 rcases this with rfl|rfl|rfl|rfl|rfl
 ·exact⟨0,by decide,rfl⟩
 ·exact⟨1,by decide,rfl⟩
 ·exact⟨2,by decide,rfl⟩
 ·exact⟨5,by decide,rfl⟩
 ·exact⟨60,by decide,rfl⟩
theorem av3 (Z:An K t):OkD K Wn (A3 K t) bl (t.f 21) (t.d 21) (M6 K t):=by
 refine okD (n:=40) (t:=bd6 K t) rfl (by decide +kernel) (by kernel_rfl) (fun vs H Q E h=>?_) (fun vs H Q E h=>?_)
 ·obtain⟨c,rfl,_⟩:=h;rfl
 ·obtain⟨c,rfl,k⟩:=h
  have ts:1<=textS.length/\textS.length<=1000:=by decide +kernel
  have big:(1000:Nat)<sizeLine:=by decide
  refine⟨by decide +kernel,(show 5<=sizeLine by decide),fun q hq=>⟨c,301,rfl,by decide,by decide,?_⟩⟩
  have S1:=Same.upd (o:=.lst [.int 0,.int 1,.int 2,.int 5,.int 60]) hq
  obtain⟨L,hL,eL⟩:=bf7 (Bi c 301 % 5) (by omega) (by omega)
  refine⟨_,_,.inl (SqL.of Aa),eL,?_⟩
  show Ae _ _ _ _ (upd H q (.lst [.int 0,.int 1,.int 2,.int 5,.int 60]))
  generalize upd H q (.lst [.int 0,.int 1,.int 2,.int 5,.int 60])=H1 at S1 ⊢
  refine⟨rfl,⟨by omega,by omega⟩,?_⟩
  show ∀ D,H1 D=none->El (Itr 0 ((L:Int)).toNat) _ _ _ D _ _ _ _
  rw [aU]
  refine Gk (f:=fun j=>.str ⟨#[sgC textS (Bi c (302+(j:Int)))]⟩) (rest:=[some (.int c),some (.str textS)]) (Br 0 L) (fun _ _=>aX) (by rw [Ax];omega) (fun j x H2 Q1 hj _ q=>?_) fun D H2 S2 hD eD=>?_
  ·obtain⟨hj,rfl⟩:=Cr hj
   exact⟨c,302+(j:Int),rfl,by omega,by omega,by omega,by omega,_,Zm _ ts.1,q _ (Same.refl _)⟩
  ·rw [Ax,M2] at eD
   refine⟨_,D,_,rfl,rfl,.inl (SqL.of eD),?_,?_⟩
   ·rw [Ey,ae,a7];omega
   rw [D0]
   exact k H2 _ (S1.trans S2) (by have:=Nc (fun j=>sgC textS (Bi c (302+(j:Int)))) L;unfold wB at this;rw [this];exact hL)
theorem Pb {H:Hp} {x:TK} {v:V} (hx:TkAt H x v):∀ {l:List TK} {vs:List V},As H l vs->As H (l++[x]) (vs++[v])
 | [],vs,h=>by unfold As at h;subst h;show As H [x] [v];unfold As;exact⟨v,[],rfl,hx,by unfold As;rfl⟩
 | y::l,vs,h=>by unfold As at h;obtain⟨u,r,rfl,h1,h2⟩:=h;show As H (y::(l++[x])) _;unfold As;exact⟨u,_,rfl,h1,Pb hx h2⟩
theorem Nb {H H':Hp} (hs:∀ b ys,H b=some (.tup ys)->H' b=some (.tup ys)):∀ {l:List TK} {vs:List V},As H l vs->As H' l vs
 | [],vs,h=>by unfold As at h ⊢;exact h
 | y::l,vs,h=>by unfold As at h ⊢;obtain⟨u,r,e,h1,h2⟩:=h;exact⟨u,r,e,h1.up hs,Nb hs h2⟩
theorem Oz {H:Hp}:∀ {vs:List V},(∀ v∈vs,∃ z,v=.str z) -> ∃ l:List TK,As H l vs /\ ∀ k∈l,Ap k<=0
 | [],_=>⟨[],by unfold As;rfl,fun k hk=>by cases hk⟩
 | v::vs,h=>by
  obtain⟨l,h1,h2⟩:=Oz (H:=H) fun u hu=>h u (ay _ hu)
  obtain⟨z,rfl⟩:=h v aQ
  refine⟨.at_ (.inr z)::l,by unfold As;exact⟨_,_,rfl,by unfold TkAt;rfl,h1⟩,fun k hk=>?_⟩
  rcases List.mem_cons.mp hk with rfl|hk
  ·exact Gh _ _
  ·exact h2 k hk
theorem a81 (Z:An K t):OkD K ao8 (A3 K t) bl (t.f 22) (t.d 22) (Zy K t):=by
 refine okD (n:=40) (t:=bk1 K t) rfl (by decide +kernel) (by kernel_rfl) (fun vs H Q E h=>?_) (fun vs H Q E h=>?_)
 ·obtain⟨kd,c,rfl,_⟩:=h;rfl
 ·obtain⟨kd,c,rfl,k⟩:=h
  have big:(1000:Nat)<sizeLine:=by decide
  refine Ji (fun _=>?_) (fun _=>?_)
  ·exact⟨c,rfl,fun H' z S hz=>k H' (.at_ (.inr z)) (.str z) S (by unfold TkAt;rfl) (Gh _ _)⟩
  ·refine⟨c,310,rfl,by decide,by decide,(show 0<=sizeLine by decide),fun R hR=>?_⟩
   have S0:=Same.upd (o:=.lst []) hR
   have e0:upd H R (.lst []) R=some (.lst []):=Aa
   show Ae _ _ _ _ (upd H R (.lst []))
   generalize upd H R (.lst [])=H0 at S0 e0 ⊢
   refine⟨c,311,rfl,by decide,by decide,⟨by omega,by omega⟩,?_⟩
   refine Bh (Br 0 (1+Bi c 311 % 3).toNat) (fun i σ H'=>(∃ v4,σ=[some (.str kd),some (.int c),some (.int (1+Bi c 310 % 3)),some (.ref R),v4])/\Same H H' /\ ∃ (ks:List TK) (vs:List V),H' R=some (.lst vs)/\As H' ks vs/\(∀ k∈ks,Ap k<=1)/\vs.length=i)
    ⟨⟨_,rfl⟩,S0,[],[],e0,(by unfold As;rfl),(fun k hk=>by cases hk),rfl⟩ (fun _ _ _ _ _=>aX) ?_ ?_
   ·rintro i x σ H1 hx ⟨⟨v4,rfl⟩,S1,ks,vs,eR,tk,dp,lv⟩
    obtain⟨hi,rfl⟩:=Cr hx
    refine⟨.inl ⟨rfl,_,SqL.of eR⟩,⟨by omega,by omega⟩,?_⟩
    refine Hr (P:=fun _ v _=>∃ z,v=.str z) (rest:=[some (.int c),some (.int (i:Int))]) (fun _ _ _ _ _ h=>h) (Br 0 (1+Bi c 310 % 3).toNat) (fun _ _=>aX) (by rw [Ax];omega) (fun j x H2 Q1 hj _ q=>?_) fun D H2 us S2 hD eD lu hu=>?_
    ·obtain⟨hj,rfl⟩:=Cr hj
     exact⟨.inl ⟨by decide,by decide⟩,.inl ⟨by decide,by decide⟩,_,rfl,fun H3 z S3 hz=>⟨by omega,q _ H3 S3 ⟨_,rfl⟩⟩⟩
    ·refine⟨_,.inl ⟨SqL.of eD,fun T hT=>?_⟩⟩
     have ST:=Same.upd (o:=.tup us) hT
     have eT:upd H2 T (.tup us) T=some (.tup us):=Aa
     generalize upd H2 T (.tup us)=H3 at ST eT ⊢
     have S13:=S2.trans ST
     obtain⟨l,tl,dl⟩:=Oz (H:=H3) fun v hv=>by
      obtain⟨j,hj⟩:=List.mem_iff_getElem?.mp hv
      exact hu j v hj
     have e3:=S13 _ _ eR
     have nl:=NL.upd (m:=vs++[.ref T]) e3
     refine⟨R,_,_,rfl,rfl,e3,by omega,⟨_,rfl⟩,(S1.trans S13).set hR,ks++[.tup l],_,Aa,?_,fun k hk=>?_,by rw [aZ,lv];rfl⟩
     ·refine Nb nl.tup (Pb ?_ (Nb (NL.same S13).tup tk))
      unfold TkAt
      exact⟨T,us,rfl,eT,tl⟩
     ·rcases List.mem_append.mp hk with hk|hk
      ·exact dp k hk
      ·obtain rfl:k=.tup l:=by simpa using hk
       unfold Ap
       exact dq (C0 dl)
   ·rintro σ H1 ⟨⟨v4,rfl⟩,S1,ks,vs,eR,tk,dp,lv⟩
    refine .inl ⟨_,.inl ⟨SqL.of eR,fun T hT=>?_⟩⟩
    have ST:=Same.upd (o:=.tup vs) hT
    refine k _ (.tup ks) (.ref T) (S1.trans ST) ?_ ?_
    ·unfold TkAt
     exact⟨T,vs,rfl,Aa,Nb (NL.same ST).tup tk⟩
    ·unfold Ap
     exact dq (C0 dp)
theorem aa0 {S:St->Prop} {C:St->Hp->Prop} {H:Hp} {G:Prop} (use:(∀ σ,S σ->C σ H)->G) (h:∀ σ,S σ->C σ H):G:=use h
theorem Pk {xs:List V} (x:Int) {n:Int} (hn:n=xs.length) (h:0<xs.length):∃ v∈xs,atI xs (x % n)=some v:=by
 obtain⟨j,hj,e⟩:=Fv x (show 1<=xs.length from h)
 subst hn
 rw [e]
 exact⟨xs[j],cK hj,Bw (af hj)⟩
theorem Ib (es:List ((Str×Rc)×Addr)):(es.map kT).map (·.1)=(es.map (·.1.1)).map (gv:Str->Key):=by simp [aE,fW]
theorem a59 {es:List ((Str×Rc)×Addr)} (h:(es.map (·.1.1)).Nodup):((es.map kT).map (·.1)).Nodup:=by rw [Ib];exact Gw h
theorem P9 {es:List ((Str×Rc)×Addr)} (h:(es.map (·.1.1)).Nodup) {i:Nat} {e:(Str×Rc)×Addr} (hi:es[i]? = some e):Bs (es.map kT) (.inr e.1.1)=some (.ref e.2):=Bg (a59 h) (by rw [ak,hi];rfl)
theorem as8 {es:List ((Str×Rc)×Addr)} {n:Str} (h:¬ n∈es.map (·.1.1)):Bs (es.map kT) (.inr n)=none:=by
 refine Bx fun q=>h ?_
 rw [Ib] at q
 obtain⟨y,hy,e⟩:=List.mem_map.mp q
 cases e
 exact hy
theorem Sj {es:List ((Str×Rc)×Addr)} {e:Str×Rc} {a:Addr} (h:¬ e.1∈es.map (·.1.1)):Cq (es.map kT) (.inr e.1) (.ref a)=(es++[(e,a)]).map kT:=by rw [Ds _ (as8 h),ax];rfl
theorem Iw {H:Hp} {d:Addr} {kvs:List (Key×V)} {o:HO} (h:H d=some (.dK kvs) \/ ∃ x,H d=some (.frz x (.dK kvs))):∀ b ys,H b=some (.tup ys)->upd H d o b=some (.tup ys):=fun b ys e=>by
 rw [Ad fun z=>?_];exact e
 rcases h with h|⟨x,h⟩ <;> (rw [z,h] at e;cases e)
noncomputable def kdsL:List Str:=["chapter", "para", "table", "chapter"]
theorem av4 (Z:An K t):OkD K Wo (A3 K t) bl (t.f 23) (t.d 23) (Re K t):=by
 refine okD (n:=40) (t:=bd7 K t) rfl (by decide +kernel) (by kernel_rfl) (fun vs H Q E h=>?_) (fun vs H Q E h=>?_)
 ·obtain⟨c,v,l,ws,rfl,_⟩:=h;rfl
 ·obtain⟨c,v,l,ws,rfl,hl,nd,few,k⟩:=h
  have big:(1000:Nat)<sizeLine:=by decide
  intro d hd0
  refine .inl (.inl ⟨⟨_,(Same.upd hd0).seqL (SqL.of hl)⟩,?_⟩)
  have Sd:=Same.upd (o:=.dK []) hd0
  have e0:upd H d (.dK []) d=some (.dK (([]:List ((Str×Rc)×Addr)).map kT)):=Aa
  show Gg (Ite K l) _ _ _ [some (.int c),some (.int (v:Int)),some (.ref l),some (.ref d),none,none,none,none,none,none] (upd H d (.dK []))
  generalize upd H d (.dK [])=H0 at Sd e0 ⊢
  refine Hu (Ef (ws.map V.str)) (fun i σ H'=>(∃ v4 v5 v6 v7 v8 v9,σ=[some (.int c),some (.int (v:Int)),some (.ref l),some (.ref d),v4,v5,v6,v7,v8,v9])/\Same H H' /\ ∃ es:List ((Str×Rc)×Addr),H' d=some (.dK (es.map kT))/\(∀ e∈es,RcAt H' e.2 e.1.2/\Ap e.1.2.c<=2)/\(es.map (·.1.1)).Sublist (ws.take i))
   ⟨⟨_,_,_,_,_,_,rfl⟩,Sd,[],e0,(fun e he=>by cases he),List.nil_sublist _⟩ (fun _ _ H' _ q=>q.2.1.seqL (SqL.of hl)) ?_ ?_
  ·rintro i x y T σ H1 hx hT ⟨⟨v4,v5,v6,v7,v8,v9,rfl⟩,S1,es,ed,he,sub⟩
   obtain⟨rfl,hy⟩:=Iy hx
   obtain⟨n,hn,rfl⟩:=Al hy
   have il:=Aj hn
   have ST:=Same.upd (o:=.tup [.int (i:Int),.str n]) hT
   refine⟨_,.inl (SqT.of Aa),rfl,?_⟩
   generalize upd H1 T (.tup [.int (i:Int),.str n])=H2 at ST ⊢
   have S2:=S1.trans ST
   have ed2:=ST _ _ ed
   have he2:∀ e∈es,RcAt H2 e.2 e.1.2/\Ap e.1.2.c<=2:=fun e h=>⟨(he e h).1.up (NL.same ST).tup,(he e h).2⟩
   clear he ed
   have sub1:(es.map (·.1.1)).Sublist (ws.take (i+1)):=sub.trans (dm (by omega))
   refine⟨c,100+(i:Int),rfl,by omega,?_⟩
   show Ae _ _ _ _ _
   refine' aa0 (S:=fun σ=>∃ N:Int,σ=[some (.int c),some (.int (v:Int)),some (.ref l),some (.ref d),some (.int (i:Int)),some (.str n),some (.int N),v7,v8,v9]) (H:=H2) (fun rest=>?u) ?v
   case u=>
    refine Ji (fun _=>?_) (fun _=>Xx (rest _ ⟨_,rfl⟩))
    exact⟨.inl ⟨by decide,by decide⟩,c,130+40 * (v:Int)+(i:Int),rfl,by omega,by decide,Ji (fun _=>⟨.inl ⟨by decide,by decide⟩,c,500+40 * (v:Int)+(i:Int),rfl,by omega,rest _ ⟨_,rfl⟩⟩) (fun _=>rest _ ⟨_,rfl⟩)⟩
   case v=>
    rintro σ ⟨N,rfl⟩
    refine⟨by decide,Ji (fun _=>?_) (fun _=>⟨⟨_,_,_,_,_,_,rfl⟩,S2,es,ed2,he2,sub1⟩)⟩
    refine⟨(show 4<=sizeLine by decide),fun q1 hq1=>⟨⟨by decide,by decide⟩,by decide,?_⟩⟩
    have S3:=Same.upd (o:=.lst (kdsL.map V.str)) hq1
    obtain⟨kv,hkv,ekv⟩:=Pk (xs:=kdsL.map V.str) (N / 6) (n:=4) rfl (by decide)
    obtain⟨kd,_,rfl⟩:=List.mem_map.mp hkv
    refine⟨_,_,.inl (SqL.of Aa),ekv,?_⟩
    show Ae _ _ _ _ (upd H2 q1 (.lst (kdsL.map V.str)))
    generalize upd H2 q1 (.lst (kdsL.map V.str))=H3 at S3 ⊢
    have ed3:=S3 _ _ ed2
    refine⟨(show 1<=sizeLine by decide),fun b1 hb1=>?_⟩
    have S4:=Same.upd (o:=.lst [.str ""]) hb1
    have e4:upd H3 b1 (.lst [.str ""]) b1=some (.lst [.str ""]):=Aa
    generalize upd H3 b1 (.lst [.str ""])=H4 at S4 e4 ⊢
    have ed4:=S4 _ _ ed3
    have he4:∀ e∈es,RcAt H4 e.2 e.1.2/\Ap e.1.2.c<=2:=fun e h=>⟨(he2 e h).1.up (NL.same (S3.trans S4)).tup,(he2 e h).2⟩
    have nde:(es.map (·.1.1)).Nodup:=nd.sublist (sub.trans (dJ _ _))
    refine .inr (.inr (.inl (.inl ⟨_,ed4,fun o L hL=>?_⟩)))
    have ef:upd H4 d (.frz o (.dK (es.map kT))) d=some (.frz o (.dK (es.map kT))):=Aa
    have tf:=Iw (o:=.frz o (.dK (es.map kT))) (.inl ed4)
    have e4f:upd H4 d (.frz o (.dK (es.map kT))) b1=some (.lst [.str ""]):=by rw [Ad fun z=>by rw [z,ed4] at e4;cases e4];exact e4
    have th:∀ H',Same (upd H4 d (.frz o (.dK (es.map kT)))) H'->Same H4 (upd H' d (.dK (es.map kT))):=fun H' S=>Same.thaw ed4 S
    generalize upd H4 d (.frz o (.dK (es.map kT)))=Hf at ef tf e4f th hL ⊢
    refine Dg (Fb (es.map kT)) (fun i σ' H'=>(∃ v,σ'=[v,some (.ref d)])/\Same Hf H' /\ ∃ ps:List Str,H' L=some (Be ps)/\ps.length<=i) ⟨⟨_,rfl⟩,Same.upd hL,[],Aa,aj _⟩ (fun _ _ H' _ q=>q.2.1 _ _ ef) ?_ ?_
    ·rintro j x σ' H5 hx ⟨⟨vv,rfl⟩,S5,ps,eL,lp⟩
     rw [aE] at hx
     obtain⟨e,hj,rfl⟩:=Al hx
     obtain⟨cv,er,_⟩:=(he4 e (am hj)).1
     have jl:=Aj hj
     have sl:=sub.length_le
     rw [ae,aH] at sl
     refine⟨.ref e.2,.inl ⟨_,.inr e.1.1,.inr ⟨o,S5 _ _ ef⟩,rfl,(P9 nde hj).symm⟩,_,_,.inr (SqT.of (S5 _ _ (tf _ _ er))),rfl,Ji (fun _=>?_) (fun _=>?_)⟩
     ·exact⟨_,eL,by rw [ae];omega,⟨_,rfl⟩,S5.set hL,ps++[e.1.1],by rw [Aa,Be,ax];rfl,by rw [aZ];exact dq lp⟩
     ·exact⟨⟨_,rfl⟩,S5,ps,eL,Nat.le_succ_of_le lp⟩
    ·rintro σ' H5 ⟨_,S5,ps,eL,lp⟩
     rw [ae,ae] at lp
     have sl:=sub.length_le
     rw [ae,aH] at sl
     refine .inl ⟨b1,L,_,_,rfl,rfl,S5 _ _ e4f,eL,by rw [ae,eC];omega,fun M hM=>?_⟩
     have S6:=S5.trans (Same.upd (o:=.lst ([.str ""]++ps.map V.str)) hM)
     have eM:upd H5 M (.lst ([.str ""]++ps.map V.str)) M=some (Be (("" : Str)::ps)):=Aa
     generalize upd H5 M (.lst ([.str ""]++ps.map V.str))=H6 at S6 eM ⊢
     refine .inr ⟨d,o,_,ed3,S6 _ _ ef,?_⟩
     have S7:=S4.trans (th _ S6)
     have eM7:upd H6 d (.dK (es.map kT)) M=some (Be (("" : Str)::ps)):=by rw [Ad fun z=>by rw [z,S6 _ _ ef] at eM;cases eM];exact eM
     generalize upd H6 d (.dK (es.map kT))=H7 at S7 eM7 ⊢
     refine⟨⟨by decide,by decide,by decide⟩,⟨by decide,by decide⟩,by decide,(show 4<=sizeLine by decide),fun b2 hb2=>⟨⟨by decide,by decide⟩,by decide,?_⟩⟩
     obtain⟨v2,hv2,ev2⟩:=Pk (xs:=[(0:Int),1,10 ^ l3 9,N / 96 % 1000].map V.int) (N / 24) (n:=4) rfl (by simp)
     obtain⟨rk,_,rfl⟩:=List.mem_map.mp hv2
     refine⟨_,_,.inl (SqL.of Aa),ev2,?_⟩
     have S8:=Same.upd (o:=.lst ([(0:Int),1,10 ^ l3 9,N / 96 % 1000].map V.int)) hb2
     show Ae _ _ _ _ (upd H7 b2 (.lst ([(0:Int),1,10 ^ l3 9,N / 96 % 1000].map V.int)))
     generalize upd H7 b2 (.lst ([(0:Int),1,10 ^ l3 9,N / 96 % 1000].map V.int))=H8 at S8 ⊢
     obtain⟨v3,hv3,ev3⟩:=Pk (xs:=(("" : Str)::ps).map V.str) (N / 384) rfl (by simp)
     obtain⟨pr,_,rfl⟩:=List.mem_map.mp hv3
     have eM8:=S8 _ _ eM7
     refine⟨⟨by decide,by decide⟩,.inl ⟨_,.inl (SqL.of eM8),by rw [ae,aK];omega,_,_,.inl (SqL.of eM8),ev3,?_⟩⟩
     refine⟨⟨by decide,by decide⟩,kd,N / 96,rfl,fun H9 x vv S9 tk dp=>⟨(show 4<=sizeLine by decide),fun T2 hT2=>?_⟩⟩
     have S10:=S9.trans (Same.upd (o:=.tup [.str kd,.str pr,.int rk,vv]) hT2)
     have eT:upd H9 T2 (.tup [.str kd,.str pr,.int rk,vv]) T2=some (.tup [.str kd,.str pr,.int rk,vv]):=Aa
     have tk2:=tk.up (NL.same (Same.upd (o:=.tup [.str kd,.str pr,.int rk,vv]) hT2)).tup
     generalize upd H9 T2 (.tup [.str kd,.str pr,.int rk,vv])=H10 at S10 eT tk2 ⊢
     have S310:=S7.trans (S8.trans S10)
     have ed10:=S310 _ _ ed3
     have nn:¬ n∈es.map (·.1.1):=fun z=>Dv nd hn (sub.subset z)
     refine⟨_,DPut.k (k:=.inr n) ed10 (by rw [ae];omega),?_⟩
     rw [Sj (e:=(n,⟨kd,pr,rk,x⟩)) nn]
     have tu:=Iw (o:=.dK ((es++[((n,(⟨kd,pr,rk,x⟩:Rc)),T2)]).map kT)) (.inl ed10)
     refine⟨⟨_,_,_,_,_,_,rfl⟩,(S2.trans (S3.trans S310)).set hd0,_,Aa,fun e h=>?_,?_⟩
     ·rcases List.mem_append.mp h with h|h
      ·exact⟨((he2 e h).1.up (NL.same (S3.trans S310)).tup).up tu,(he2 e h).2⟩
      ·obtain rfl:e=((n,(⟨kd,pr,rk,x⟩:Rc)),T2):=by simpa using h
       exact⟨RcAt.up (x:=⟨kd,pr,rk,x⟩) tu ⟨vv,eT,tk2⟩,dp⟩
     ·rw [ax,aV,hn]
      exact sub.append (dH _)
  ·rintro σ H1 ⟨⟨v4,v5,v6,v7,v8,v9,rfl⟩,S1,es,ed,he,sub⟩
   have sub2:=sub.trans (dJ _ ws)
   have e1:(es.map (·.1)).map (·.1)=es.map (·.1.1):=by rw [aE];rfl
   have sl:=sub2.length_le
   rw [ae] at sl
   refine .inl (k H1 d (es.map (·.1)) S1 ⟨es,rfl,⟨trivial,ed⟩,fun e h=>(he e h).1⟩ ⟨by rw [e1];exact nd.sublist sub2,by rw [ae];omega,fun x hx=>?_⟩)
   obtain⟨e,h,rfl⟩:=List.mem_map.mp hx
   exact (he e h).2
theorem TrAt.nl {H H':Hp} {d:Addr} {T:Tr} (h:TrAt any H d T) (S:NL H H'):TrAt any H' d T:=let ⟨es,e,⟨_,o⟩,q⟩:=h;⟨es,e,⟨trivial,S _ _ (fun _ z=>by cases z) o⟩,fun x hx=>(q x hx).up S.tup⟩
theorem Tj {α:Type} {P:α->Addr->Prop}:∀ {vs:List V},(∀ v∈vs,∃ d T,v=.ref d/\P T d) -> ∃ es:List (α×Addr),vs=es.map (fun e=>.ref e.2) /\ ∀ e∈es,P e.1 e.2
 | [],_=>⟨[],rfl,fun e h=>by cases h⟩
 | v::vs,h=>by
  obtain⟨es,rfl,q⟩:=Tj fun u hu=>h u (ay _ hu)
  obtain⟨d,T,rfl,p⟩:=h v aQ
  refine⟨(T,d)::es,rfl,fun e he=>?_⟩
  rcases List.mem_cons.mp he with rfl|he
  ·exact p
  ·exact q e he
theorem Hy (g:Nat->Addr) (ns:List Nat):(ns.map (kF g)).map (·.1)=ns.map fun n:Nat=>(.inl (n:Int):Key):=by rw [aE];rfl
theorem as7 {g:Nat->Addr} {ns:List Nat} {n:Nat} (h:¬ n∈ns):Bs (ns.map (kF g)) (.inl (n:Int))=none:=by
 refine Bx fun q=>h ?_
 rw [Hy] at q
 obtain⟨m,hm,e⟩:=List.mem_map.mp q
 injection e with e
 have:m=n:=by omega
 exact this▸hm
theorem Yo (b:Bool) (x y:V):atI [x,y] (if b=true then 1 else 0)=some (if b=true then y else x):=by cases b <;> rfl
theorem av2 (Z:An K t):OkD K Wm (A3 K t) bl (t.f 26) (t.d 26) (Rb K t):=by
 refine okD (n:=40) (t:=bd5 K t) rfl (by decide +kernel) (by kernel_rfl) (fun vs H Q E h=>?_) (fun vs H Q E h=>?_)
 ·obtain⟨a,ns,b,rfl,_⟩:=h;rfl
 ·obtain⟨a,ns,b,rfl,hS,k⟩:=h
  have big:(1000:Nat)<sizeLine:=by decide
  refine⟨a,ns,0,rfl,hS,⟨by decide,by decide⟩,(show 2<=sizeLine by decide),fun q hq=>⟨_,_,.inl (SqL.of Aa),Yo b _ _,?_⟩⟩
  have S1:=Same.upd (o:=.lst [.int 24,.int 256]) hq
  generalize upd H q (.lst [.int 24,.int 256])=H1 at S1 ⊢
  refine⟨B4 ns 0 / 8,if b=true then 256 else 24,by cases b <;> rfl,by cases b <;> decide,by cases b <;> decide,fun H2 W sw rules l kk f S2 hW=>?_⟩
  have S02:=S1.trans S2
  refine⟨a,ns,1,rfl,S02.seqL hS,a,ns,2,rfl,S02.seqL hS,(show 2<=sizeLine by decide),fun q2 hq2=>⟨_,_,.inl (SqL.of Aa),Yo b _ _,?_⟩⟩
  have S3:=Same.upd (o:=.lst [.int 8,.int 3]) hq2
  generalize upd H2 q2 (.lst [.int 8,.int 3])=H3 at S3 ⊢
  obtain⟨m2,lm2,em2⟩:∃ m:Nat,m<=8/\1+B4 ns 2 % (if b=true then 3 else 8)=(m:Int):=by
   cases b
   ·exact⟨(1+B4 ns 2 % 8).toNat,by omega,by show 1+B4 ns 2 % 8=_;omega⟩
   ·exact⟨(1+B4 ns 2 % 3).toNat,by omega,by show 1+B4 ns 2 % 3=_;omega⟩
  have ev:(if b=true then V.int 3 else V.int 8)=V.int (if b=true then 3 else 8):=by cases b <;> rfl
  rw [ev]
  refine⟨by cases b <;> decide,B4 ns 1,m2,by rw [<- em2];rfl,lm2,fun H4 nm ws S4 enm lws ndw=>?_⟩
  have S04:=S02.trans (S3.trans S4)
  refine⟨a,ns,2,rfl,S04.seqL hS,⟨by decide,by decide⟩,by decide,⟨by omega,by omega⟩,?_⟩
  obtain⟨m4,l4,em4⟩:∃ m:Nat,(1<=m/\m<=4)/\1+B4 ns 2 / 8 % 4=(m:Int):=⟨(1+B4 ns 2 / 8 % 4).toNat,by omega,by omega⟩
  have em5:(1+B4 ns 2 / 8 % 4).toNat=m4:=by omega
  refine Hr (P:=fun _ v H'=>∃ d T,v=.ref d/\TrAt any H' d T/\Gy T) (rest:=[some (.ref nm),some (.ref a)]) (fun _ _ _ _ S ⟨d,T,e,h,o⟩=>⟨d,T,e,h.nl S,o⟩) (Br 0 (1+B4 ns 2 / 8 % 4).toNat) (fun _ _=>aX) (by rw [Ax];omega) (fun j x H5 Q1 hj S5 q=>?_) fun D H5 vs S5 hD eD lv hv=>?_
  ·obtain⟨hj,rfl⟩:=Cr hj
   exact⟨a,ns,3,rfl,(S04.trans S5).seqL hS,B4 ns 3,j,nm,ws,rfl,S5 _ _ enm,ndw,by omega,fun H6 d T S6 hT okT=>q _ H6 S6 ⟨d,T,rfl,hT,okT⟩⟩
  rw [Ax,em5] at lv
  obtain⟨es,rfl,he⟩:=Tj (P:=fun T d=>TrAt any H5 d T/\Gy T) fun v hm=>by
   obtain⟨j,hj⟩:=List.mem_iff_getElem?.mp hm
   exact hv j v hj
  rw [ae] at lv
  have hW5:=hW
  have S25:=S3.trans (S4.trans S5)
  intro F hF
  refine .inl ⟨_,_,.inl (SqL.of ((S25.trans (Same.upd hF)) _ _ hW.at_)),rfl,.inl ⟨⟨_,SqL.of ((S25.trans (Same.upd hF)) _ _ hW.fr)⟩,?_⟩⟩
  have S6:=Same.upd (o:=.dK []) hF
  have e6:upd H5 F (.dK []) F=some (.dK (([]:List Nat).map (kF fun _=>0))):=Aa
  show Gg (Itl K f) _ _ _ [some (.ref a),some (.bl b),some (.ref W),some (.ref nm),some (.int (1+B4 ns 2 / 8 % 4)),some (.ref D),some (.ref F),none] (upd H5 F (.dK []))
  generalize upd H5 F (.dK [])=H6 at S6 e6 ⊢
  have d0:Tr×Addr:=es[0]'(by omega)
  have asc:=Jb sw rules
  have ndf:(Aq sw rules).Nodup:=asc.imp fun h=>aN h
  have le256:(Aq sw rules).length<=256:=by
   have:=cW (fun n=>!Fr sw rules n) (aw (Ak sw).length)
   rw [a7] at this
   exact aT this hW.ok.len
  refine Bh (Ba ((Aq sw rules).map fun n:Nat=>V.int (n:Int))) (fun i σ H'=>(∃ v7,σ=[some (.ref a),some (.bl b),some (.ref W),some (.ref nm),some (.int (1+B4 ns 2 / 8 % 4)),some (.ref D),some (.ref F),v7])/\Same H5 H' /\ ∃ u:Nat->Nat,(∀ n∈(Aq sw rules).take i,u n<es.length)/\H' F=some (.dK (((Aq sw rules).take i).map (kF fun n=>(es.getD (u n) d0).2))))
   ⟨⟨_,rfl⟩,S6,fun _=>0,(fun n hn=>by cases hn),e6⟩ (fun _ _ H' _ q=>(S25.trans q.2.1).seqL (SqL.of hW.fr)) ?_ ?_
  ·rintro i x σ H7 hx ⟨⟨v7,rfl⟩,S7,u,hu,eF⟩
   obtain⟨n,hn,rfl⟩:=Al hx
   have S27:=S25.trans S7
   have S07:=S04.trans (S5.trans S7)
   refine⟨a,ns,4,rfl,S07.seqL hS,_,_,.inl (SqL.of (S27 _ _ hW.at_)),rfl,B4 ns 4,l,sw,n,m4,by rw [<- em4];rfl,hW.sws.mono (Kp.same S27),hW.ok,l4.1,fun H8 v S8 hv2=>?_⟩
   have S78:=S7.trans S8
   have hv3:v<es.length:=by omega
   refine⟨_,_,.inl (SqL.of (S78 _ _ eD)),Bw (j:=v) (by rw [ak,af hv3];rfl),.inr ⟨_,DPut.k (k:=.inl (n:Int)) (S8 _ _ eF) ?_,?_⟩⟩
   ·rw [ae,aH];omega
   have nn:¬ n∈(Aq sw rules).take i:=Dv ndf hn
   rw [Ds _ (as7 nn)]
   refine⟨⟨_,rfl⟩,S78.set hF,fun m=>if m=n then v else u m,fun m hm=>?_,?_⟩
   ·show (if m=n then v else u m)<_
    rw [aV,hn] at hm
    rcases List.mem_append.mp hm with hm|hm
    ·rw [if_neg (fun z:m=n=>nn (z▸hm))];exact hu m hm
    ·obtain rfl:m=n:=by simpa using hm
     rw [if_pos rfl];exact hv3
   ·rw [Aa,B7 hn]
    congr 3
    ·refine bL fun m hm=>?_
     show (_,V.ref (es.getD (u m) d0).2)=(_,V.ref (es.getD (if m=n then v else u m) d0).2)
     rw [if_neg (fun z:m=n=>nn (z▸hm))]
    ·show [((.inl (n:Int):Key),V.ref es[v].2)]=[(_,V.ref (es.getD (if n=n then v else u n) d0).2)]
     rw [if_pos rfl,ao,af hv3];rfl
  ·rintro σ H7 ⟨⟨v7,rfl⟩,S7,u,hu,eF⟩
   rw [ae,aL] at hu eF
   refine .inl ⟨(show 3<=sizeLine by decide),fun L hL=>?_⟩
   have S8:=Same.upd (o:=.lst [.ref W,.ref nm,.ref F]) hL
   have S28:=S25.trans (S7.trans S8)
   refine k _ L W (.ref nm) F sw rules l kk f (fun n=>(es.getD (u n) d0).2) (fun n=>(es.getD (u n) d0).1) (S04.trans (S5.trans (S7.trans S8))) Aa ⟨S28 _ _ hW.at_,hW.sws.mono (Kp.same S28),hW.ok,hW.rl.mono (Kp.same S28),hW.rok,hW.few,S28 _ _ hW.fr,hW.ne⟩ ⟨S8 _ _ eF,fun n hn=>?_,es.map (·.1),by rw [ae];omega,fun n hn=>?_⟩
   ·have hg:es.getD (u n) d0=es[u n]'(hu n hn):=by rw [ao,af (hu n hn)];rfl
    have:=he _ (cK (hu n hn))
    rw [hg]
    exact⟨this.1.nl (NL.same (S7.trans S8)),this.2⟩
   ·have hg:es.getD (u n) d0=es[u n]'(hu n hn):=by rw [ao,af (hu n hn)];rfl
    show (es.getD (u n) d0).1∈_
    rw [hg]
    exact cj (cK (hu n hn))
theorem bg2 {D:Df} {es:List Ent} {bl:List Str} {f:Addr} {d:bo}:OkD K D es bl f d al2:=fun _ _ _ _ _ _ _=>⟨fun _ _ _ _ h=>h.elim,fun _ _ _ _ _ _ _ _ _ _ _ _ _ h=>h.elim⟩
theorem a83 (Z:An K t):OkD K ap0 (A3 K t) bl (t.m_zbi 1) (t.e_zbi 1) (am1 K t):=bg2
theorem a73 (Z:An K t):OkD K ao0 (A3 K t) bl (t.m_zbg 1) (t.e_zbg 1) (al7 K t):=by
 refine okD (n:=40) (t:=bj3 K t) rfl (by decide +kernel) (by kernel_rfl) (fun vs H Q E h=>?_) (fun vs H Q E h=>?_)
 ·obtain⟨p,sw,rules,rfl,_⟩:=h;rfl
 ·obtain⟨p,sw,rules,rfl,⟨dx,d,l,n,s,kk,b,hp⟩,k⟩:=h
  exact gy ⟨_,_,_,_,hp.ins.2,Z.pf.cl,(Z.pf.na _ (by simp)),rfl,k⟩
theorem a87 (Z:An K t):OkD K D_zw (A3 K t) bl t.f_zw t.d_zw (am5 K t):=by
 refine okD (n:=40) (t:=bk6 K t) rfl (by decide +kernel) (by kernel_rfl) (fun vs H Q E h=>?_) (fun vs H Q E h=>?_)
 ·obtain⟨a,dx,rfl,_⟩:=h;rfl
 ·obtain⟨a,dx,rfl,e,k⟩:=h
  intro d hd
  have ne:a≠d:=fun z=>by rw [z,hd] at e;cases e
  exact .inl (.inl ⟨t.c_zbh,dx,[],by rw [Ad ne];exact e,Z.pc,Z.pr,by decide,k d hd ne.symm⟩)
theorem at7 (Z:An K t):OkD K V8 (A3 K t) bl (t.m_zbh 1) (t.e_zbh 1) (Zr K t):=by
 refine okD (n:=40) (t:=bc1 K t) rfl (by decide +kernel) (by kernel_rfl) (fun vs H Q E h=>?_) (fun vs H Q E h=>?_)
 ·obtain⟨p,dx,d,kvs,n,kd,q,r,v,rfl,_⟩:=h;rfl
 ·obtain⟨p,dx,d,kvs,n,kd,q,r,v,rfl,e,ed,hl,k⟩:=h
  refine⟨(show 4<=sizeLine by decide),fun a ha=>?_⟩
  have n1:p≠a:=fun z=>by rw [z,ha] at e;cases e
  have n2:d≠a:=fun z=>by rw [z,ha] at ed;cases ed
  exact gy ⟨_,_,_,.ref d,(by rw [Ad n1];exact e),Z.pc,Z.pr,rfl,⟨_,DPut.k (k:=.inr n) (by rw [Ad n2];exact ed) (bh hl (by decide)),k a ha⟩⟩
theorem a79 (Z:An K t):OkD K ao6 (A3 K t) bl (t.m_zbh 2) (t.e_zbh 2) (am0 K t):=by
 refine okD (n:=40) (t:=bj9 K t) rfl (by decide +kernel) (by kernel_rfl) (fun vs H Q E h=>?_) (fun vs H Q E h=>?_)
 ·obtain⟨p,T,rfl,_⟩:=h;rfl
 ·obtain⟨p,T,rfl,⟨dx,d,⟨_,e⟩,es,et,⟨_,ed⟩,_⟩,o,k⟩:=h
  have ek:(es.map kT).map (·.1)=(T.map (·.1)).map (gv:Str->Key):=by rw [Ib,<- et,aE];simp [aE,fW]
  have l8:(T.map (·.1)).length<=8:=by rw [ae];exact o.2.1
  have nd:=o.1
  generalize T.map (·.1)=zs at ek k l8 nd
  exact gy ⟨_,_,_,.ref d,e,Z.pc,Z.pr,rfl,.inr ⟨rfl,.inl ⟨d,zs,rfl,.inr ⟨_,.inl ed,ek⟩,nd,by omega,k⟩⟩⟩
theorem TrAt.up {ok:Addr->Prop} {H H':Hp} {d:Addr} {T:Tr} (h:TrAt ok H d T) (S:Same H H'):TrAt ok H' d T:=let ⟨es,e,⟨q,o⟩,z⟩:=h;⟨es,e,⟨q,S _ _ o⟩,fun x hx=>(z x hx).up (NL.same S).tup⟩
theorem PlAt.up {C:Addr} {ok:Addr->Prop} {H H':Hp} {p:Addr} {T:Tr} (h:PlAt C ok H p T) (S:Same H H'):PlAt C ok H' p T:=let ⟨dx,d,⟨q,o⟩,z⟩:=h;⟨dx,d,⟨q,S _ _ o⟩,z.up S⟩
theorem Yb {H:Hp} {C a dx d0:Addr} (ha:H a=none) (hdx:H dx=none) (ne:dx≠a) (hd0:upd (upd H dx (.own a)) a (.ins C dx []) d0=none) :
  H d0=none/\Same H (upd (upd (upd (upd H dx (.own a)) a (.ins C dx [])) d0 (.dK [])) a (.ins C dx [("records", .ref d0)]))/\upd (upd (upd (upd H dx (.own a)) a (.ins C dx [])) d0 (.dK [])) a (.ins C dx [("records", .ref d0)]) d0=some (.dK []):=by
 have n1:d0≠a:=fun c=>by rw [c,Aa] at hd0;cases hd0
 have n2:d0≠dx:=fun c=>by rw [c,Ad ne,Aa] at hd0;cases hd0
 have hd1:H d0=none:=by rw [Ad n1,Ad n2] at hd0;exact hd0
 exact⟨hd1,(((Same.upd hdx).set ha).set hd1).set ha,by rw [Ad n1,Aa]⟩
theorem a76 (Z:An K t):OkD K ao3 (A3 K t) bl (t.m_zbh 0) (t.e_zbh 0) (al9 K t):=by
 refine okD (n:=40) (t:=bj6 K t) rfl (by decide +kernel) (by kernel_rfl) (fun vs H Q E h=>?_) (fun vs H Q E h=>?_)
 ·obtain⟨p,T,rfl,_⟩:=h;rfl
 ·obtain⟨p,T,rfl,hP,k⟩:=h
  intro a dx ha hdx ne
  refine⟨a,dx,rfl,Aa,fun d0 hd0 _=>⟨rfl,?_⟩⟩
  obtain⟨_,S1,_⟩:=Yb ha hdx ne hd0
  have ea:upd (upd (upd (upd H dx (.own a)) a (.ins t.c_zbh dx [])) d0 (.dK [])) a (.ins t.c_zbh dx [("records", .ref d0)]) a=some (.ins t.c_zbh dx [("records", .ref d0)]):=Aa
  generalize upd (upd (upd (upd H dx (.own a)) a (.ins t.c_zbh dx [])) d0 (.dK [])) a (.ins t.c_zbh dx [("records", .ref d0)])=H1 at S1 ea ⊢
  obtain⟨dx1,d,⟨_,e1⟩,es,_,⟨_,ed⟩,_⟩:=hP.up S1
  refine gy ⟨_,_,_,.ref d,e1,Z.pc,Z.pr,rfl,⟨d,_,rfl,.inl ed,fun q hq=>?_⟩⟩
  exact .inl ⟨_,_,_,(Same.upd hq) _ _ ea,Z.pc,Z.pr,(show 1<1000 by decide),k _ a ((S1.trans (Same.upd hq)).set ha)⟩
theorem Z6 {H:Hp} {F:Str->TK}:∀ {zs:List Str} {vs:List V},vs.length=zs.length->(∀ (i:Nat) v z,vs[i]? = some v->zs[i]? = some z->TkAt H (F z) v)->As H (zs.map F) vs
 | [],[],_,_=>by rw [gg];unfold As;rfl
 | [],_::_,h,_=>by cases h
 | _::_,[],h,_=>by cases h
 | z::zs,v::vs,h,g=>by rw [aY];unfold As;exact⟨v,vs,rfl,g 0 v z rfl rfl,Z6 (by simpa using h) fun i v z h1 h2=>g (i+1) v z h1 h2⟩
theorem a72 (Z:An K t):OkD K an9 (A3 K t) bl (t.m_zbh 3) (t.e_zbh 3) (al6 K t):=by
 refine okD (n:=40) (t:=bj2 K t) rfl (by decide +kernel) (by kernel_rfl) (fun vs H Q E h=>?_) (fun vs H Q E h=>?_)
 ·obtain⟨p,T,rfl,_⟩:=h;rfl
 ·obtain⟨p,T,rfl,hP,o,k⟩:=h
  have big:(1000:Nat)<sizeLine:=by decide
  obtain⟨dx,d,⟨_,e⟩,es,et,⟨_,ed⟩,he⟩:=id hP
  have nde:(es.map (·.1.1)).Nodup:=by have:=o.1;rw [<- et,aE] at this;exact this
  refine⟨p,dx,_,⟨t.c_zbh,as0 K t⟩,rfl,.head _,e,rfl,⟨aj _,aj _⟩,⟨p,T,rfl,hP,o,fun l hl=>?_⟩⟩
  have S1:=Same.upd (o:=Be (Cs ltS (T.map (·.1)))) hl
  have e1:upd H l (Be (Cs ltS (T.map (·.1)))) l=some (Be (Cs ltS (T.map (·.1)))):=Aa
  have pm:=Az ltS (T.map (·.1))
  have hm:∀ n∈Cs ltS (T.map (·.1)),n∈T.map (·.1):=fun n hn=>pm.mem_iff.mp hn
  have lm:=pm.length_eq
  have hvk:vkT T=.tup ((Cs ltS (T.map (·.1))).map fun n=>.tup [.at_ (.inr n),Qv T n]):=rfl
  rw [hvk] at k
  rw [ae] at lm
  have l8:=o.2.1
  generalize Cs ltS (T.map (·.1))=zs at S1 e1 hm lm k ⊢
  refine .inl ⟨⟨_,SqL.of e1⟩,?_⟩
  generalize upd H l (Be zs)=H1 at S1 e1 ⊢
  refine Hr (P:=fun i v H'=>∀ z,zs[i]? = some z->TkAt H' (.tup [.at_ (.inr z),Qv T z]) v) (rest:=[some (.ref p)]) (fun i v _ _ S q z hz=>(q z hz).up S.tup) (Ba (zs.map V.str)) (fun H2 S2=>S2.seqL (SqL.of e1)) (by rw [ae];omega) (fun i x H2 Q1 hx S2 q=>?_) fun D H2 vs S2 hD eD lv hv=>?_
  ·obtain⟨z,hz,rfl⟩:=Al hx
   have S02:=S1.trans S2
   obtain⟨⟨z',x⟩,hx1,hx2⟩:=List.mem_map.mp (hm z (am hz))
   obtain rfl:z'=z:=hx2
   rw [<- et] at hx1
   obtain⟨e',he',ee⟩:=List.mem_map.mp hx1
   obtain⟨j,hj⟩:=List.mem_iff_getElem?.mp he'
   have hv:=P9 nde hj
   have hr:=he e' he'
   rw [ee] at hv hr
   refine gy ⟨_,_,_,.ref d,S02 _ _ e,Z.pc,Z.pr,rfl,⟨.ref e'.2,.inl ⟨_,.inr z',.inl (S02 _ _ ed),rfl,hv.symm⟩,(show 2<=sizeLine by decide),fun B hB=>q _ _ (Same.upd hB) fun z2 hz2=>?_⟩⟩
   rw [hz] at hz2
   cases hz2
   have rt:Qv T z'=rcT x:=J1 (Gr o.1 (by rw [<- et];exact hx1))
   rw [rt]
   unfold TkAt
   refine⟨B,_,rfl,Aa,?_⟩
   unfold As;refine⟨_,_,rfl,by unfold TkAt;rfl,?_⟩
   unfold As;refine⟨_,_,rfl,hr.tk.up (NL.same (S02.trans (Same.upd hB))).tup,?_⟩
   unfold As;rfl
  ·rw [ae] at lv
   refine⟨_,.inl ⟨SqL.of eD,fun B hB=>k _ B (S1.trans (S2.trans (Same.upd hB))) ?_⟩⟩
   unfold TkAt
   exact⟨B,vs,rfl,Aa,Z6 lv fun i v z h1 h2=>(hv i v h1 z h2).up (NL.same (Same.upd hB)).tup⟩
theorem aq2 (m n:Nat):decide (cm ((m:Int) / 2 ^ ((n:Int)).toNat) 1=1)=m.testBit n:=by
 rw [aU,Dw,<- Int.natCast_ediv,show (1:Int)=((1:Nat):Int) from rfl,Dy,Nat.and_one_is_mod,fO]
 exact decide_eq_decide.mpr (by omega)
theorem av9 (Z:An K t):OkD K Wt (A3 K t) bl (t.f 27) (t.d 27) (Rg K t):=by
 refine okD (n:=40) (t:=be2 K t) rfl (by decide +kernel) (by kernel_rfl) (fun vs H Q E h=>?_) (fun vs H Q E h=>?_)
 ·obtain⟨c,n,rfl,_⟩:=h;rfl
 ·obtain⟨c,n,rfl,k⟩:=h
  rw [<- aq2] at k
  exact⟨by omega,k⟩
noncomputable def Lw (c:Nat):Nat:=gQ (c:Int)
theorem ab8 (c:Nat):c<2 ^ Lw c:=by
 have h:=(j8 (m:=Lw c) (x:=(c:Int))).mp (aj _)
 simpa using h
theorem ab7 {c m:Nat} (h:c<2 ^ m):Lw c<=m:=(j8 (m:=m) (x:=(c:Int))).mpr (by simpa using h)
theorem a78 (Z:An K t):OkD K ao5 (A3 K t) bl (t.f 28) (t.d 28) (Zw K t):=by
 refine okD (n:=40) (t:=bj8 K t) rfl (by decide +kernel) (by kernel_rfl) (fun vs H Q E h=>?_) (fun vs H Q E h=>?_)
 ·obtain⟨c,n,rfl,_⟩:=h;rfl
 ·obtain⟨c,n,rfl,hb,hn,hc,k⟩:=h
  have hbl:=ab7 hc
  have hnb:n<Lw c:=by
   rcases Nat.lt_or_ge n (Lw c) with h|h
   ·exact h
   ·rw [Nat.testBit_lt_two_pow (aD (ab8 c) (gx (by decide) h))] at hb
    cases hb
  refine⟨rfl,_,rfl,rfl,⟨by show -(2 ^ 62)<=((Lw c:Nat):Int);omega,by show ((Lw c:Nat):Int)<2 ^ 62;omega⟩,?_⟩
  show Gg (Itr 0 (Lw c)) _ _ _ [some (.int (c:Int)),none] _
  refine Bh (Br 0 (Lw c)) (fun m σ H'=>(∃ v,σ=[some (.int (c:Int)),v])/\H'=H/\m<=n) ⟨⟨_,rfl⟩,rfl,bj _⟩ (fun _ _ _ _ _=>aX) ?_ ?_
  ·rintro m x σ H1 hx ⟨⟨v,rfl⟩,rfl,no⟩
   obtain⟨hm,rfl⟩:=Cr hx
   refine⟨c,m,rfl,?_⟩
   rcases Nat.eq_or_lt_of_le no with rfl|h
   ·rw [hb];exact k
   ·rw [hn m h];exact⟨⟨_,rfl⟩,rfl,h⟩
  ·rintro σ H1 ⟨⟨v,rfl⟩,rfl,no⟩
   rw [Ax] at no
   omega
theorem au3 (Z:An K t):OkD K We (A3 K t) bl (t.f 32) (t.d 32) (Q5 K t):=by
 refine okD (n:=40) (t:=bc6 K t) rfl (by decide +kernel) (by kernel_rfl) (fun vs H Q E h=>?_) (fun vs H Q E h=>?_)
 ·obtain⟨d0,T,rfl,_⟩:=h;rfl
 ·obtain⟨d0,T,rfl,hT,oT,k⟩:=h
  intro p dx hp0 hdx nep
  refine⟨p,dx,rfl,Aa,fun d hd0 npd=>⟨rfl,?_⟩⟩
  obtain⟨hd,S1,e1d⟩:=Yb hp0 hdx nep hd0
  have e1p:upd (upd (upd (upd H dx (.own p)) p (.ins t.c_zbh dx [])) d (.dK [])) p (.ins t.c_zbh dx [("records", .ref d)]) p=some (.ins t.c_zbh dx [("records", .ref d)]):=Aa
  generalize upd (upd (upd (upd H dx (.own p)) p (.ins t.c_zbh dx [])) d (.dK [])) p (.ins t.c_zbh dx [("records", .ref d)])=H1 at S1 e1d e1p ⊢
  obtain⟨es,et,⟨_,ed⟩,he⟩:=hT.up S1
  have nde:(es.map (·.1.1)).Nodup:=by have:=oT.1;rw [<- et,aE] at this;exact this
  have l8:=oT.2.1
  have le:es.length=T.length:=by rw [<- et,ae]
  have ndd:d≠d0:=fun z=>by
   obtain⟨es2,_,⟨_,e2⟩,_⟩:=hT
   rw [<- z,hd] at e2;cases e2
  have npd0:p≠d0:=fun z=>by rw [z,ed] at e1p;cases e1p
  refine .inr (.inr (.inl (.inl ⟨_,ed,fun o=>?_⟩)))
  have ef:upd H1 d0 (.frz o (.dK (es.map kT))) d0=some (.frz o (.dK (es.map kT))):=Aa
  have tf:=Iw (o:=.frz o (.dK (es.map kT))) (.inl ed)
  have efd:upd H1 d0 (.frz o (.dK (es.map kT))) d=some (.dK []):=by rw [Ad ndd];exact e1d
  have efp:upd H1 d0 (.frz o (.dK (es.map kT))) p=some (.ins t.c_zbh dx [("records", .ref d)]):=by rw [Ad npd0];exact e1p
  have of:∀ b u,b≠d0->H1 b=some u->upd H1 d0 (.frz o (.dK (es.map kT))) b=some u:=fun b u nb e=>by rw [Ad nb];exact e
  show Gg (Itd d0 o (es.map kT)) _ _ _ [some (.ref d0),some (.ref p),none,none,none,none,none] _
  generalize upd H1 d0 (.frz o (.dK (es.map kT)))=Hf at ef tf efd efp of ⊢
  refine Bh (Fb (es.map kT)) (fun i σ H'=>(∃ v2 v3 v4 v5 v6,σ=[some (.ref d0),some (.ref p),v2,v3,v4,v5,v6])/\(∀ a u,a≠d->Hf a=some u->H' a=some u) /\ ∃ fs:List ((Str×Rc)×Addr),fs.map (·.1)=T.take i/\H' d=some (.dK (fs.map kT)) /\ ∀ e∈fs,RcAt H' e.2 e.1.2)
   ⟨⟨_,_,_,_,_,rfl⟩,(fun _ _ _ e=>e),[],rfl,efd,fun e h=>by cases h⟩ (fun _ _ H' _ q=>q.2.1 _ _ ndd.symm ef) ?_ ?_
  ·rintro i x σ H2 hx ⟨⟨v2,v3,v4,v5,v6,rfl⟩,B2,fs,ft,e2d,hf⟩
   rw [aE] at hx
   obtain⟨e,hi,rfl⟩:=Al hx
   have tt:∀ b ys,H1 b=some (.tup ys)->H2 b=some (.tup ys):=fun b ys q=>B2 _ _ (fun z=>by rw [z,e1d] at q;cases q) (tf _ _ q)
   obtain⟨v,er,tk⟩:=(he e (am hi)).up tt
   have hiT:T[i]? = some e.1:=by rw [<- et,ak,hi];rfl
   have nn:¬ e.1.1∈fs.map (·.1.1):=fun z=>by
    have:e.1.1∈(T.take i).map (·.1):=by rw [<- ft,aE];exact z
    rw [iV] at this
    exact Dv oT.1 (show (T.map (·.1))[i]? = some e.1.1 by rw [ak,hiT];rfl) this
   have lf:fs.length<=8:=by
    have:=congrArg cg ft
    rw [ae,aH] at this
    omega
   refine⟨.ref e.2,.inl ⟨_,.inr e.1.1,.inr ⟨o,B2 _ _ ndd.symm ef⟩,rfl,(P9 nde hi).symm⟩,_,.inl (SqT.of er),rfl,?_⟩
   refine⟨p,dx,_,⟨t.c_zbh,Xt K t⟩,rfl,.head _,B2 _ _ (cB npd) efp,rfl,⟨aj _,aj _⟩,⟨p,dx,d,_,e.1.1,e.1.2.k,e.1.2.p,e.1.2.r,v,rfl,B2 _ _ (cB npd) efp,e2d,by rw [ae];exact lf,fun a ha=>?_⟩⟩
   have nda:d≠a:=Ai e2d ha
   have Sa:=Same.upd (o:=.tup [.str e.1.2.k,.str e.1.2.p,.int e.1.2.r,v]) ha
   have ea:upd H2 a (.tup [.str e.1.2.k,.str e.1.2.p,.int e.1.2.r,v]) a=some (.tup [.str e.1.2.k,.str e.1.2.p,.int e.1.2.r,v]):=Aa
   generalize upd H2 a (.tup [.str e.1.2.k,.str e.1.2.p,.int e.1.2.r,v])=H3 at Sa ea ⊢
   have tu:=Iw (o:=.dK ((fs++[(e.1,a)]).map kT)) (.inl (Sa _ _ e2d))
   rw [Sj (e:=e.1) nn]
   refine⟨⟨_,_,_,_,_,rfl⟩,fun b u nb q=>by rw [Ad nb];exact Sa _ _ (B2 b u nb q),_,?_,Aa,fun f hf2=>?_⟩
   ·rw [ax,ft,aV,hiT];rfl
   ·rcases List.mem_append.mp hf2 with h|h
    ·exact ((hf f h).up (NL.same Sa).tup).up tu
    ·obtain rfl:f=(e.1,a):=by simpa using h
     exact RcAt.up (x:=e.1.2) tu ⟨v,ea,tk.up (NL.same Sa).tup⟩
  ·rintro σ H2 ⟨⟨v2,v3,v4,v5,v6,rfl⟩,B2,fs,ft,e2d,hf⟩
   rw [ae,ae,le,aL] at ft
   have e2f:=B2 _ _ ndd.symm ef
   refine .inr ⟨d0,o,_,ed,e2f,k _ p (fun b u q=>?_) ⟨dx,d,⟨trivial,by rw [Ad npd0];exact B2 _ _ (cB npd) efp⟩,fs,ft,⟨trivial,by rw [Ad ndd];exact e2d⟩,fun f h=>(hf f h).up (Iw (.inr ⟨o,e2f⟩))⟩⟩
   by_cases hb:b=d0
   ·subst hb
    rw [Aa,<- ed,S1 _ _ q]
   ·rw [Ad hb]
    exact B2 _ _ (fun z=>by rw [z,hd] at q;cases q) (of _ _ hb (S1 _ _ q))
theorem au9 (Z:An K t):OkD K D_zao (A3 K t) bl (t.f 29) (t.d 29) (Q9 K t):=by
 intro P w mg base dV F T
 obtain⟨oc,od,kV,doc,pm,an,cdv,ct,osl,ef,lk,hcd⟩:=id F.ex
 have hl:(match (t.d 29).code with
  | .ref c=>du K c 266
  | _=>false)=true:=by
  have:=Z.lam
  unfold Jl at this
  rw [lk] at this
  exact this
 obtain⟨c,hcode,hc⟩:∃ c,(t.d 29).code=.ref c/\du K c 266=true:=by
  cases e:(t.d 29).code with
  | ref c=>rw [e] at hl;exact⟨c,rfl,hl⟩
  | _=>rw [e] at hl;cases hl
 have T5:=T 5 (by decide)
 have T2:=T 2 (by decide)
 obtain⟨hb1,hb2⟩:=T5.1 "__builtins__" (.val (.ref 4) (t.u 0)) (List.mem_filterMap.mpr ⟨⟨0, "__builtins__", .val (.ref 4) (t.u 0)⟩,aR _ (c8 _ aQ),rfl⟩)
 have hbm:mg "__builtins__" = some (.ref 4):=by rw [hb1];exact congrArg some hb2
 refine ar3 (j:=2) (m:=40) (n:=40) (N:=D_zao.N) (N':=["pair"]) (dl:=bd2 K t) (da:=Ab 0) F (ScOk.fn (by decide +kernel)) (by decide +kernel) T5 T2 rfl (by decide +kernel) (T5.2 _ (by decide)) rfl hcode hc hbm (fun _=>rfl) (fun _=>rfl) (ScOk.fn (by decide +kernel)) (by decide +kernel) rfl (fun _ _ _ _ _=>rfl) (by kernel_rfl) (by kernel_rfl) (fun vs H Q E h=>?_) (fun vs H Q E h=>?_)
 ·obtain⟨b,es,rfl,_⟩:=h;rfl
 ·obtain⟨b,es,rfl,⟨hP,ob,u,hB,b1,b2,b3⟩,eb,l64,asc,one,k⟩:=h
  have e2:(es.map fun e=>(((e.1.2.1:Nat):Int),V.ref e.2.2)).map (·.2)=es.map fun e=>V.ref e.2.2:=by rw [aE];rfl
  refine⟨.ref b,rfl,b,ob,u,es.map fun e=>(((e.1.2.1:Nat):Int),V.ref e.2.2),rfl,by rw [e2];exact SqL.of eb,by rw [ae];exact l64,?_,hP,hB,⟨b1,b2,b3⟩,fun d hd H3 O3=>?_,fun H' D O _ e=>k H' D O (by rw [e,e2])⟩
  ·rw [aE]
   have:=eQ (S:=fun a b:Int=>a<b) (fun n:Nat=>(n:Int)) (fun a b h=>by omega) asc
   rw [aE] at this
   exact this
  ·obtain⟨e,he,rfl⟩:=List.mem_map.mp hd
   obtain⟨h1,h2,h3,h4⟩:=one e he
   have e3:=O3 _ _ (fun z=>by rw [z,hP] at h1;cases h1) h1
   exact⟨_,_,.inr (SqT.of e3),rfl,e.1.2.2,e.1.2.1,rfl,h2,h3,h4,rfl,Same.refl _⟩
theorem aq6 {p:Addr} {o:Obj} {kvs:List (TK×V)} {g:DG} {tc:DT} {te:DE} {L:Addr} {R:Hp->Prop} {σ:St} {H:Hp} {E:EK} (Pv:Nat->St->Hp->Prop) (h0:Pv 0 σ H) (hok:∀ i σ H,Pv i σ H->H p=some (.frz o (.dT kvs)))
  (hs:∀ i k v b σ H,kvs[i]? = some (k,v)->Ap k<=8/\TkAt H k (.ref b)->Pv i σ H->g (.ref b) σ H fun σ3 H3=>tc σ3 H3 (fun b H4=>if b=true then te σ3 H4 (fun v H5=>∃ ys,H5 L=some (.lst ys)/\ys.length<sizeLine/\Pv (i+1) σ3 (upd H5 L (.lst (ys++[v])))) E else Pv (i+1) σ3 H4) E)
  (hd:∀ σ H,Pv kvs.length σ H->R H):El (ab2 p o kvs) g tc te L R σ H E:=by
 refine⟨fun i m σ H=>m=kvs.length - i/\i<=kvs.length/\Pv i σ H,⟨kvs.length,by simp,bj _,h0⟩,?_⟩
 rintro i m σ H ⟨rfl,hi,q⟩
 by_cases hlt:i<kvs.length
 ·refine .inr ⟨⟨hok i σ H q,hlt⟩,Pv (i+1),fun σ' H' p'=>⟨kvs.length - (i+1),by omega,rfl,hlt,p'⟩,fun x H' y=>?_⟩
  obtain⟨rfl,k,v,h1,h2,h3,b,rfl⟩:=y
  exact hs i k v b σ _ h1 ⟨h2,h3⟩ q
 ·have e:i=kvs.length:=by omega
  subst e
  exact .inl ⟨⟨hok _ σ H q,aj _⟩,hd σ H q⟩
noncomputable abbrev gK (g:Gp):TK×V:=(g.1,.int (g.2.2:Int))
theorem Hv (gs:List Gp):(gs.map gK).map (·.1)=gs.map (·.1):=by rw [aE];rfl
theorem any_mem {κ:Type} [DecidableEq κ] {kvs:List (κ×V)} {k:κ}:(kvs.any fun kv=>decide (kv.1=k))=true ↔ k∈kvs.map (·.1):=by
 rw [fj,aA]
 exact⟨fun⟨x,h,e⟩=>⟨x,h,of_decide_eq_true e⟩,fun⟨x,h,e⟩=>⟨x,h,decide_eq_true e⟩⟩
theorem Vg {κ:Type} [DecidableEq κ] (kvs:List (κ×V)) (k:κ) (v:V):(Cq kvs k v).map (·.1)=if k∈kvs.map (·.1) then kvs.map (·.1) else kvs.map (·.1)++[k]:=by
 unfold Cq
 by_cases h:k∈kvs.map (·.1)
 ·rw [if_pos (any_mem.mpr h),if_pos h,aE]
  exact bL fun kv _=>by show (if _ then _ else _:κ×V).1=_;split <;> rfl
 ·rw [if_neg (fun z=>h (any_mem.mp z)),if_neg h,ax];rfl
theorem Vf (gs:List Gp) (k:TK) (n:Nat):(Fl gs k n).map (·.1)=if k∈gs.map (·.1) then gs.map (·.1) else gs.map (·.1)++[k]:=by
 unfold Fl
 by_cases h:k∈gs.map (·.1)
 ·rw [if_pos h,if_pos h,aE]
  exact bL fun g _=>by show (if _ then _ else _:Gp).1=_;split <;> rfl
 ·rw [if_neg h,if_neg h,ax];rfl
theorem Yw {κ:Type} [DecidableEq κ] {kvs:List (κ×V)} {k:κ} {v:V} {x:κ×V} (h:x∈Cq kvs k v):x∈kvs\/x.2=v:=by
 unfold Cq at h
 split at h
 ·obtain⟨y,hy,rfl⟩:=List.mem_map.mp h
  split
  ·exact .inr rfl
  ·exact .inl hy
 ·rcases List.mem_append.mp h with h|h
  ·exact .inl h
  ·obtain rfl:x=(k,v):=by simpa using h
   exact .inr rfl
theorem af8 {gs:List Gp} {n:Nat} (k:TK) (h:GInv n gs):∃ old:Nat,(Bs (gs.map gK) k).getD (.int 0)=.int (old:Int)/\Cq (gs.map gK) k (.int ((old ||| 2 ^ n:Nat):Int))=(Fl gs k n).map gK:=by
 have nd:((gs.map gK).map (·.1)).Nodup:=by rw [Hv];exact h.nd
 by_cases hk:k∈gs.map (·.1)
 ·obtain⟨g,hg,rfl⟩:=List.mem_map.mp hk
  obtain⟨j,hj⟩:=List.mem_iff_getElem?.mp hg
  refine⟨g.2.2,by rw [Bg nd (i:=j) (k:=g.1) (v:=.int (g.2.2:Int)) (by rw [ak,hj];rfl)];rfl,?_⟩
  unfold Cq Fl
  rw [if_pos (any_mem.mpr (by rw [Hv];exact hk)),if_pos hk,aE,aE]
  refine bL fun g' hg'=>?_
  show (if g'.1=g.1 then (g'.1,V.int ((g.2.2 ||| 2 ^ n:Nat):Int)) else gK g')=gK (if g'.1=g.1 then _ else g')
  split
  ·rename_i e
   have:g'=g:=by
    obtain⟨i,hi⟩:=List.mem_iff_getElem?.mp hg'
    have l1:=Aj hi
    have l2:=Aj hj
    rw [af l1] at hi
    rw [af l2] at hj
    have:=(cJ (i:=i) (j:=j) (h₀:=by rw [ae];exact l1) (h₁:=by rw [ae];exact l2) h.nd).mp (by rw [b9,b9,av hi,av hj,e])
    subst this
    exact (av hi).symm.trans (av hj)
   rw [this]
  ·rfl
 ·have hv:Bs (gs.map gK) k=none:=Bx (by rw [Hv];exact hk)
  refine⟨0,by rw [hv];rfl,?_⟩
  rw [Ds _ hv,Sx hk,ax,Nat.zero_or]
  rfl
theorem PlAt.keep {C:Addr} {H H':Hp} {p:Addr} {T:Tr} (h:PlAt C any H p T) (n:∀ a o,(∀ l,o≠.dT l)->H a=some o->H' a=some o):PlAt C any H' p T:=
 let ⟨dx,d,⟨_,o⟩,es,e,⟨_,q⟩,z⟩:=h
 ⟨dx,d,⟨trivial,n _ _ (fun _ z=>by cases z) o⟩,es,e,⟨trivial,n _ _ (fun _ z=>by cases z) q⟩,fun x hx=>(z x hx).up fun b ys=>n b _ fun _ z=>by cases z⟩
theorem Qk {H:Hp} {a:Addr} {l:List (TK×V)} {o:HO} (h:H a=some (.dT l)):∀ b u,(∀ l,u≠.dT l)->H b=some u->upd H a o b=some u:=fun b u n e=>by rw [Ad fun z=>by rw [z,h] at e;cases e;exact n _ rfl];exact e
theorem ab5 {A n:Nat} (h:A.testBit n=true):cm ((2 ^ n:Nat):Int) (A:Int)=((2 ^ n:Nat):Int):=by
 rw [Dy]
 congr 1
 refine gw fun j=>?_
 rw [eG,dQ]
 by_cases e:n=j
 ·subst e;rw [h,fF]
 ·rw [decide_eq_false e];rfl
theorem au0 (Z:An K t):OkD K Wb (A3 K t) bl (t.f 30) (t.d 30) (Q3 K t):=by
 refine okD (n:=40) (t:=bc3 K t) rfl (by decide +kernel) (by kernel_rfl) (fun vs H Q E h=>?_) (fun vs H Q E h=>?_)
 ·obtain⟨A,l,ns,tr,rs,rfl,_⟩:=h;rfl
 ·obtain⟨A,l,ns,tr,rs,rfl,hst,hR,hn,asc,few,k⟩:=h
  have big:(1000:Nat)<sizeLine:=by decide
  have f4:=Mg asc few
  intro sx hsx
  refine .inr ?_
  have S1:=Same.upd (o:=.dT []) hsx
  have e1:upd H sx (.dT []) sx=some (.dT []):=Aa
  generalize upd H sx (.dT [])=H1 at S1 e1 ⊢
  intro px hpx
  refine .inr ?_
  have S2:=S1.trans (Same.upd (o:=.dT []) hpx)
  have fpx:=S1.free hpx
  have nsp:sx≠px:=Ai e1 hpx
  have e2s:upd H1 px (.dT []) sx=some (.dT (([]:List Gp).map gK)):=by rw [Ad nsp];exact e1
  have e2p:upd H1 px (.dT []) px=some (.dT []):=Aa
  generalize upd H1 px (.dT [])=H2 at S2 e2s e2p ⊢
  refine .inl ⟨⟨_,SqL.of (S2 _ _ hR.at_)⟩,?_⟩
  refine Bh (Ba (rs.map fun r=>V.ref r.2.1)) (fun i σ H'=>(∃ v4 v5 v6,σ=[some (.int (A:Int)),some (.ref l),some (.ref sx),some (.ref px),v4,v5,v6])/\Same H H'/\H' sx=some (.dT ((Dh (fun n=>vkT (tr n)) (ns.take i)).map gK)) /\ ∃ kp:List (TK×V),H' px=some (.dT kp)/\kp.map (·.1)=(Dh (fun n=>vkT (tr n)) (ns.take i)).map (·.1) /\ ∀ x∈kp,∃ p T,x.2=.ref p/\PlAt t.c_zbh any H' p T)
   ⟨⟨_,_,_,rfl⟩,S2,e2s,[],e2p,rfl,fun x hx=>by cases hx⟩ (fun _ _ H' _ q=>q.2.1.seqL (SqL.of hR.at_)) ?_ ?_
  ·rintro i x σ H3 hx ⟨⟨v4,v5,v6,rfl⟩,S3,e3s,kp,e3p,ek,hk⟩
   obtain⟨⟨n,T,p⟩,hi,rfl⟩:=Al hx
   have hi2:ns[i]? = some n:=by rw [<- hR.nms,ak,hi];rfl
   obtain⟨eT,hP⟩:=hR.one _ (am hi)
   obtain⟨okT,bt,_⟩:=hn n (am hi2)
   have gi:=E6 (f:=fun n=>vkT (tr n)) asc i n (Na asc hi2)
   have st:=F1 (f:=fun n=>vkT (tr n)) hi2
   have f4i:=f4 i
   generalize hgs:Dh (fun n=>vkT (tr n)) (ns.take i)=gs at e3s ek gi st f4i
   have ab:=ab5 bt
   refine⟨_,.inl (SqT.of (S3 _ _ eT)),rfl,?_⟩
   have pos:=jK n
   refine N2 (by
    show (!decide (cm ((2 ^ n:Nat):Int) (A:Int)=0))=true
    rw [ab,decide_eq_false (by omega)];rfl) ?_
   have hP3:=PlAt.up hP S3
   obtain⟨dx,d,⟨_,ep⟩,_⟩:=id hP3
   refine⟨p,dx,_,⟨t.c_zbh,ar8 K t⟩,rfl,.head _,ep,rfl,⟨aj _,aj _⟩,⟨p,tr n,rfl,hP3,okT,fun H4 b S4 tk=>?_⟩⟩
   have dk:Ap (vkT (tr n))<=8/\TkAt H4 (vkT (tr n)) (.ref b):=⟨a37 okT,tk⟩
   obtain⟨old,ho,hp⟩:=af8 (vkT (tr n)) gi
   refine⟨.inr (.inr (.inl ⟨rfl,.inr ⟨_,S4 _ _ e3s⟩⟩)),_,DGet.t (S4 _ _ e3s) dk,?_⟩
   rw [ho]
   show ∃ H',DPut H4 sx (.ref b) (.int (cS (old:Int) (cm ((2 ^ n:Nat):Int) (A:Int)))) H'/\_
   rw [ab,E2]
   refine⟨_,DPut.t (S4 _ _ e3s) dk (by rw [ae];omega),?_⟩
   rw [hp,<- st]
   have nt5:=Qk (o:=.dT ((Dh (fun n=>vkT (tr n)) (ns.take (i+1))).map gK)) (S4 _ _ e3s)
   have e5s:upd H4 sx (.dT ((Dh (fun n=>vkT (tr n)) (ns.take (i+1))).map gK)) sx=some (.dT ((Dh (fun n=>vkT (tr n)) (ns.take (i+1))).map gK)):=Aa
   have e5p:upd H4 sx (.dT ((Dh (fun n=>vkT (tr n)) (ns.take (i+1))).map gK)) px=some (.dT kp):=by rw [Ad nsp.symm];exact S4 _ _ e3p
   have S5:=(S3.trans S4).set (o:=.dT ((Dh (fun n=>vkT (tr n)) (ns.take (i+1))).map gK)) hsx
   show Ae _ _ _ _ (upd H4 sx (.dT ((Dh (fun n=>vkT (tr n)) (ns.take (i+1))).map gK)))
   generalize upd H4 sx (.dT ((Dh (fun n=>vkT (tr n)) (ns.take (i+1))).map gK))=H5 at nt5 e5s e5p S5 ⊢
   have lk:kp.length<=4:=by
    have:=congrArg cg ek
    rw [ae,ae] at this
    omega
   refine⟨_,DPut.t e5p ⟨dk.1,dk.2.up fun b ys=>nt5 b _ fun _ z=>by cases z⟩ (by omega),?_⟩
   have nt6:=Qk (o:=.dT (Cq kp (vkT (tr n)) (.ref p))) e5p
   refine⟨⟨_,_,_,rfl⟩,S5.set fpx,by rw [Ad nsp];exact e5s,_,Aa,?_,fun x hx=>?_⟩
   ·rw [Vg,ek,st,Vf]
   ·rcases Yw hx with hx|hx
    ·obtain⟨p',T',e',h'⟩:=hk x hx
     exact⟨p',T',e',((h'.up S4).keep nt5).keep nt6⟩
    ·exact⟨p,tr n,hx,((hP3.up S4).keep nt5).keep nt6⟩
  ·rintro σ H3 ⟨⟨v4,v5,v6,rfl⟩,S3,e3s,kp,e3p,ek,hk⟩
   have len:rs.length=ns.length:=by rw [<- hR.nms,ae]
   have ln:(rs.map fun r=>V.ref r.2.1).length=ns.length:=by rw [ae,len]
   rw [ln] at e3s ek
   have gi:=E6 (f:=fun n=>vkT (tr n)) asc ns.length 256 (fun m hm=>(hn m (fb hm)).2.2)
   have f4n:=f4 ns.length
   have hms:D6 (fun n=>vkT (tr n)) ns=(Dh (fun n=>vkT (tr n)) (ns.take ns.length)).map (·.2.2):=by unfold D6;rw [aL]
   rw [hms] at k
   generalize Dh (fun n=>vkT (tr n)) (ns.take ns.length)=gs at e3s ek gi f4n k
   refine .inl ?_
   refine .inr (.inr (.inr ⟨_,e3s,fun o D hD=>?_⟩))
   have ef:upd H3 sx (.frz o (.dT (gs.map gK))) sx=some (.frz o (.dT (gs.map gK))):=Aa
   have ntf:=Qk (o:=.frz o (.dT (gs.map gK))) e3s
   have efp:upd H3 sx (.frz o (.dT (gs.map gK))) px=some (.dT kp):=by rw [Ad nsp.symm];exact e3p
   have Sf:Same H (upd H3 sx (.frz o (.dT (gs.map gK)))):=S3.set hsx
   generalize upd H3 sx (.frz o (.dT (gs.map gK)))=Hf at ef ntf efp Sf hD ⊢
   have hkf:∀ x∈kp,∃ p T,x.2=.ref p/\PlAt t.c_zbh any Hf p T:=fun x hx=>let ⟨p,T,e,h⟩:=hk x hx;⟨p,T,e,h.keep ntf⟩
   have nd1:((gs.map gK).map (·.1)).Nodup:=by rw [Hv];exact gi.nd
   have nd2:(kp.map (·.1)).Nodup:=by rw [ek];exact gi.nd
   refine aq6 (fun i σ H'=>(∃ v,σ=[v,some (.ref px),some (.ref sx)])/\Same Hf H' /\ ∃ es:List (Gp×V×Addr),es.map (·.1)=gs.take i/\H' D=some (.lst (es.map fun e=>.ref e.2.2)) /\ ∀ e∈es,H' e.2.2=some (.tup [.int (e.1.2.2:Int),e.2.1])) ⟨⟨_,rfl⟩,Same.upd hD,[],rfl,Aa,fun e h=>by cases h⟩ (fun _ _ _ q=>q.2.1 _ _ ef) ?_ ?_
   ·rintro i kk vv b σ H4 hi dk ⟨⟨v,rfl⟩,S4,es,ee,eD,he⟩
    obtain⟨g,hg,eg⟩:=Al hi
    obtain⟨rfl,rfl⟩:kk=g.1/\vv=.int (g.2.2:Int):=by injection eg with a b;exact⟨a,b⟩
    have hj:(kp.map (·.1))[i]? = some g.1:=by rw [ek,ak,hg];rfl
    obtain⟨⟨k2,v2⟩,hj2,e2⟩:=Al hj
    obtain rfl:g.1=k2:=e2
    obtain⟨p,T,ev,hP⟩:=hkf _ (am hj2)
    obtain rfl:v2=.ref p:=ev
    have hP4:=hP.up S4
    obtain⟨dx,d,⟨_,ep⟩,_⟩:=id hP4
    refine⟨.int (g.2.2:Int),.inr ⟨_,g.1,b,.inr ⟨o,S4 _ _ ef⟩,rfl,dk,(Bg nd1 hi).symm⟩,?_⟩
    refine⟨.ref p,.inr ⟨_,g.1,b,.inl (S4 _ _ efp),rfl,dk,(Bg nd2 hj2).symm⟩,?_⟩
    refine⟨p,dx,_,⟨t.c_zbh,ar9 K t⟩,rfl,.head _,ep,rfl,⟨aj _,aj _⟩,⟨p,T,rfl,hP4,fun H5 q S5=>⟨(show 2<=sizeLine by decide),fun B hB=>?_⟩⟩⟩
    have S6:=S5.trans (Same.upd (o:=.tup [.int (g.2.2:Int),.ref q]) hB)
    have e6:upd H5 B (.tup [.int (g.2.2:Int),.ref q]) B=some (.tup [.int (g.2.2:Int),.ref q]):=Aa
    generalize upd H5 B (.tup [.int (g.2.2:Int),.ref q])=H6 at S6 e6 ⊢
    have le:es.length<=4:=by
     have:=congrArg cg ee
     rw [ae,aH] at this
     omega
    have nl:=NL.upd (m:=(es.map fun e=>V.ref e.2.2)++[.ref B]) (S6 _ _ eD)
    refine⟨_,S6 _ _ eD,by rw [ae];omega,⟨_,rfl⟩,(S4.trans S6).set hD,es++[(g,.ref q,B)],?_,by rw [Aa,ax];rfl,fun e h=>?_⟩
    ·rw [ax,ee,aV,hg];rfl
    ·rcases List.mem_append.mp h with h|h
     ·exact nl.tup _ _ (S6 _ _ (he e h))
     ·obtain rfl:e=(g,.ref q,B):=by simpa using h
      exact nl.tup _ _ e6
   ·rintro σ H4 ⟨_,S4,es,ee,eD,he⟩
    rw [ae,aL] at ee
    obtain⟨hP,ob,u,hB,b1,b2,b3⟩:=hst
    have S04:=Sf.trans S4
    have le:es.length=gs.length:=by rw [<- ee,ae]
    refine⟨D,es,rfl,⟨S04 _ _ hP,ob,u,S04 _ _ hB,b1,b2,b3⟩,eD,by omega,?_,fun e h=>⟨he e h,?_⟩,fun H5 D5 O5 e5=>k H5 D5 (fun b u nb q=>O5 _ _ nb (S04 _ _ q)) ⟨es.map fun e=>(e.1.2.2,e.2.1,e.2.2),?_,?_,fun x hx=>?_⟩⟩
    ·have:=gi.asc
     rw [<- ee,aE] at this
     exact this
    ·have:=gi.one e.1 (by rw [<- ee];exact cj h)
     exact⟨this.2.2.1,this.2.2.2,aD this.2.1 (gx (by decide) (by decide))⟩
    ·rw [<- ee,aE,aE];rfl
    ·rw [e5,aE];rfl
    ·obtain⟨e,h,rfl⟩:=List.mem_map.mp hx
     exact O5 _ _ (fun z=>by have:=he e h;rw [z,S04 _ _ hP] at this;cases this) (he e h)
theorem at5 (Z:An K t):OkD K D_zaa (A3 K t) bl t.f_zaa t.d_zaa (Zp K t):=by
 refine okD (n:=40) (t:=bb9 K t) rfl (by decide +kernel) (by kernel_rfl) (fun vs H Q E h=>?_) (fun vs H Q E h=>?_)
 ·obtain⟨b,p,dx,sw,rules,rfl,_⟩:=h;rfl
 ·obtain⟨b,p,dx,sw,rules,rfl,eb,hp,k⟩:=h
  refine .inl ⟨_,_,_,eb,Z.bc,Z.bp,(show 0<1000 by decide),?_⟩
  have e1:upd H b (.ins t.c_zbi dx [("panel", .ref p)]) b=some (.ins t.c_zbi dx [("panel", .ref p)]):=Aa
  have O1:∀ a o,a≠b->H a=some o->upd H b (.ins t.c_zbi dx [("panel", .ref p)]) a=some o:=fun a o n e=>by rw [Ad n];exact e
  have hp1:=hp.mono (Kp.off (p:=b) (o:=.ins t.c_zbi dx [("panel", .ref p)]) fun z=>z rfl)
  show Ae _ _ _ _ (upd H b (.ins t.c_zbi dx [("panel", .ref p)]))
  generalize upd H b (.ins t.c_zbi dx [("panel", .ref p)])=H1 at e1 O1 hp1 ⊢
  obtain⟨dxp,d,l,n,s,kk,br,h1⟩:=id hp1
  refine⟨p,dxp,_,⟨t.c_zbg,ad2 K t⟩,rfl,.head _,h1.ins.2,rfl,⟨aj _,aj _⟩,⟨p,sw,rules,rfl,hp1.mono Kp.any,?_⟩⟩
  intro a dxa ha hdx ne
  refine⟨a,dxa,rfl,Aa,fun d0 hd0 _=>⟨rfl,?_⟩⟩
  obtain⟨_,S2,_⟩:=Yb ha hdx ne hd0
  generalize upd (upd (upd (upd H1 dxa (.own a)) a (.ins t.c_zbh dxa [])) d0 (.dK [])) a (.ins t.c_zbh dxa [("records", .ref d0)])=H2 at S2 ⊢
  refine⟨(show 2<=sizeLine by decide),fun T hT=>⟨(show 1<=sizeLine by decide),fun L hL=>?_⟩⟩
  rw [Gn] at hL ⊢
  have S3:=Same.upd (o:=.tup [.int ((B5 sw rules:Nat):Int),.ref a]) hT
  have e3:upd H2 T (.tup [.int ((B5 sw rules:Nat):Int),.ref a]) T=some (.tup [.int ((B5 sw rules:Nat):Int),.ref a]):=Aa
  generalize upd H2 T (.tup [.int ((B5 sw rules:Nat):Int),.ref a])=H3 at S3 e3 hL ⊢
  have S4:=Same.upd (o:=.lst [.ref T]) hL
  have e4:upd H3 L (.lst [.ref T]) L=some (.lst [.ref T]):=Aa
  generalize upd H3 L (.lst [.ref T])=H4 at S4 e4 ⊢
  have S14:=S2.trans (S3.trans S4)
  have eb4:=S14 _ _ e1
  refine .inl ⟨_,_,_,eb4,Z.bc,Z.bk,(show 1<1000 by decide),?_⟩
  have nb:∀ {x:Addr} {o:HO},H4 x=some o->(∀ C d f,o≠.ins C d f)->x≠b:=fun e n z=>by rw [z,eb4] at e;cases e;exact n _ _ _ rfl
  refine k _ L (fun x o nx e=>by rw [Ad nx];exact S14 _ _ (O1 _ _ nx e)) Aa ⟨[(B5 sw rules,.ref a,T)],rfl,by rw [Ad (nb e4 fun _ _ _ z=>by cases z)];exact e4,fun e he=>?_⟩
  obtain rfl:e=(B5 sw rules,.ref a,T):=by simpa using he
  have e3':=S4 _ _ e3
  rw [Ad (nb e3' fun _ _ _ z=>by cases z)];exact e3'
theorem KeptAt.up {H H':Hp} {D:Addr} {ms:List Nat} (h:KeptAt H D ms) (S:Same H H'):KeptAt H' D ms:=let ⟨es,a,b,c⟩:=h;⟨es,a,S _ _ b,fun e he=>S _ _ (c e he)⟩
theorem a75 (Z:An K t):OkD K ao2 (A3 K t) bl (t.m_zbi 0) (t.e_zbi 0) (al8 K t):=by
 refine okD (n:=40) (t:=bj5 K t) rfl (by decide +kernel) (by kernel_rfl) (fun vs H Q E h=>?_) (fun vs H Q E h=>?_)
 ·obtain⟨b,ms,rfl,_⟩:=h;rfl
 ·obtain⟨b,ms,rfl,⟨dx,p,l,eb,es,em,el,he⟩,few,k⟩:=h
  have le:es.length=ms.length:=by rw [<- em,ae]
  have big:(1000:Nat)<sizeLine:=by decide
  refine gy ⟨_,_,_,_,eb,Z.bc,Z.bk,rfl,(.inl ⟨⟨_,SqL.of el⟩,fun D hD=>?_⟩)⟩
  refine Dg (Ba (es.map fun e=>V.ref e.2.2)) (fun i σ H'=>(∃ v0 v1,σ=[v0,v1])/\Same H H'/\H' D=some (nO (ms.take i))) ⟨⟨_,_,rfl⟩,Same.upd hD,Aa⟩ (fun _ _ H' _ q=>q.2.1.seqL (SqL.of el)) ?_ ?_
  ·rintro i x σ H1 hx ⟨⟨v0,v1,rfl⟩,S1,eD⟩
   obtain⟨e,hi,rfl⟩:=Al hx
   have hm:ms[i]? = some e.1:=by rw [<- em,ak,hi];rfl
   have il:=Aj hm
   refine⟨_,.inl (SqT.of (S1 _ _ (he e (am hi)))),rfl,_,eD,by rw [ae,aH];omega,⟨_,_,rfl⟩,S1.set hD,?_⟩
   rw [Aa,nO,aV,hm,cA,ax];rfl
  ·rintro σ H1 ⟨_,S1,eD⟩
   rw [ae,le,aL] at eD
   exact k H1 D S1 hD eD
theorem au8 (Z:An K t):OkD K Wj (A3 K t) bl (t.f 31) (t.d 31) (Q8 K t):=by
 refine okD (n:=40) (t:=bd1 K t) rfl (by decide +kernel) (by kernel_rfl) (fun vs H Q E h=>?_) (fun vs H Q E h=>?_)
 ·obtain⟨p,l,sw,rules,ns,tr,rs,rfl,_⟩:=h;rfl
 ·obtain⟨p,l,sw,rules,ns,tr,rs,rfl,hst,hp,hR,hn,asc,few,k⟩:=h
  intro b dx hb hdx ne
  have S1:Same H (upd (upd H dx (.own b)) b (.ins t.c_zbi dx [])):=(Same.upd hdx).set hb
  have e1:upd (upd H dx (.own b)) b (.ins t.c_zbi dx []) b=some (.ins t.c_zbi dx []):=Aa
  have K1:Kp any H (· ≠ b) (upd (upd H dx (.own b)) b (.ins t.c_zbi dx [])):=fun a o q=>⟨fun z=>(by have q2:=q.2;rw [z,hb] at q2;cases q2),S1 _ _ q.2⟩
  generalize upd (upd H dx (.own b)) b (.ins t.c_zbi dx [])=H1 at S1 e1 K1 ⊢
  refine⟨b,p,dx,sw,rules,rfl,e1,hp.mono K1,fun H2 l0 O2 e2 _=>⟨rfl,?_⟩⟩
  have S2:Same H H2:=fun a o q=>O2 _ _ (fun z=>by rw [z,hb] at q;cases q) (S1 _ _ q)
  have hp2:=hp.mono (Kp.same S2)
  obtain⟨dxp,d,l1,n,s,kk,br,h1⟩:=id hp2
  obtain⟨hP,ob,u,hB,b1,b2,b3⟩:=hst
  refine⟨p,dxp,_,⟨t.c_zbg,ad2 K t⟩,rfl,.head _,h1.ins.2,rfl,⟨aj _,aj _⟩,⟨p,sw,rules,rfl,hp2,?_⟩⟩
  rw [Gn]
  refine⟨B5 sw rules,l,ns,tr,rs,rfl,⟨S2 _ _ hP,ob,u,S2 _ _ hB,b1,b2,b3⟩,⟨hR.nms,S2 _ _ hR.at_,fun r hr=>⟨S2 _ _ (hR.one r hr).1,(hR.one r hr).2.up S2⟩⟩,hn,asc,few,fun H3 D O3 hK=>?_⟩
  have nb:b≠266:=fun z=>by rw [<- z,hb] at hP;cases hP
  have e3:=O3 _ _ nb e2
  refine .inl ⟨_,_,_,e3,Z.bc,Z.bk,(show 2<1000 by decide),?_⟩
  have nbx:∀ {x:Addr} {o:HO},H3 x=some o->(∀ C d f,o≠.ins C d f)->x≠b:=fun e n z=>by rw [z,e3] at e;cases e;exact n _ _ _ rfl
  obtain⟨es,ee,eD,he⟩:=hK
  refine k _ b (fun a o na q=>?_) ⟨dx,p,D,Aa,es,ee,by rw [Ad (nbx eD fun _ _ _ z=>by cases z)];exact eD,fun e h=>by rw [Ad (nbx (he e h) fun _ _ _ z=>by cases z)];exact he e h⟩
  rw [Ad fun z=>by rw [z,hb] at q;cases q]
  exact O3 _ _ na (S2 _ _ q)
theorem Tu {H:Hp} {l:Addr} {sw:Sw} {E:EK} {R:Hp->Addr->Prop} (h:SwIn any H l sw) (l5:sw.length<=5) (k:∀ D H',Same H H'->SwIn any H' D sw->R H' D) :
  ∀ D,H D=none->El (Itl K l) (gdT K 2 [gdN 0,gdN 1]) B3 (Fg (Ac (Ab 0) (Ac (dFn (fun vs H Q _=>(Jy K true) vs H Q) (Ac (Ab 1) Af)) Af))) D (fun H'=>R H' D) [none,none] (upd H D (.lst [])) E:=by
 intro D hD
 obtain⟨ds,ed,⟨_,ol⟩,hd⟩:=h
 have len:ds.length=sw.length:=by rw [<- ed];simp
 have big:(1000:Nat)<sizeLine:=by decide
 refine Dg (Ba (ds.map fun x=>V.ref x.2)) (fun i σ H'=>(∃ v0 v1,σ=[v0,v1])/\Same H H' /\ ∃ fs:List (((Str×List Str)×Addr)×Addr),fs.map (·.1.1)=sw.take i/\SwL H' D fs) ⟨⟨_,_,rfl⟩,Same.upd hD,[],rfl,Aa,fun x hx=>(by cases hx),fun x hx=>(by cases hx)⟩ (fun _ _ H' _ q=>q.2.1.seqL (SqL.of ol)) ?_ ?_
 ·rintro i x σ H1 hx ⟨⟨v0,v1,rfl⟩,S1,fs,ef,L1⟩
  obtain⟨⟨⟨x',la⟩,ta⟩,hi,rfl⟩:=Al hx
  have hi2:sw[i]? = some x':=by rw [<- ed,ak,hi];rfl
  have il:=Aj hi2
  obtain⟨⟨_,h1⟩,_,h2⟩:=hd _ (am hi)
  have h2:H la=some (Be x'.2):=h2
  refine⟨_,.inl (SqT.of (S1 _ _ h1)),rfl,.inl ⟨_,.inl (SqL.of (S1 _ _ h2)),fun M hM=>⟨(show 2<=sizeLine by decide),fun T hT=>?_⟩⟩⟩
  have S2:=Same.upd (o:=Be x'.2) hM
  have e2:upd H1 M (Be x'.2) M=some (Be x'.2):=Aa
  have nM:M≠D:=(Ai L1.at_ hM).symm
  have L2:=L1.up S2
  show ∃ ys,upd (upd H1 M (Be x'.2)) T (.tup [.str x'.1,.ref M]) D=_/\_
  have hT:upd H1 M (Be x'.2) T=none:=hT
  generalize upd H1 M (Be x'.2)=H2 at S2 e2 L2 hT ⊢
  have S3:=Same.upd (o:=.tup [.str x'.1,.ref M]) hT
  have e3:upd H2 T (.tup [.str x'.1,.ref M]) T=some (.tup [.str x'.1,.ref M]):=Aa
  have L3:=L2.up S3
  generalize upd H2 T (.tup [.str x'.1,.ref M])=H3 at S3 e3 L3 ⊢
  have lf:fs.length<=5:=by
   have:=congrArg cg ef
   rw [ae,aH] at this
   omega
  refine⟨_,L3.at_,by rw [ae];omega,⟨_,_,rfl⟩,(S1.trans (S2.trans S3)).set hD,_,?_,L3.snoc (e:=x') e3 (S3 _ _ e2) nM⟩
  rw [ax,ef,aV,hi2];rfl
 ·rintro σ H1 ⟨_,S1,fs,ef,L1⟩
  rw [ae,len,aL] at ef
  exact k D H1 S1 ⟨fs,ef,⟨trivial,L1.at_⟩,fun x hx=>⟨⟨trivial,L1.tup x hx⟩,trivial,(L1.lst x hx).1⟩⟩
theorem Oh {H:Hp} {D k p dx:Addr} {sw:Sw} {rules:List Sw} {R:Hp->Prop} {E:XK} (hp:H p=none) (hdx:H dx=none) (hs:SwIn any H D sw) (hw:okSw sw) (hr:RulesAt any H k rules) (okr:∀ r∈rules,Eb sw r) (few:rules.length<=8) (ne:Aq sw rules≠[]) (q:∀ H',Same H H'->PanelAt t.c_zbg any H' p sw rules->R H') :
  (Xv K t).sp (.ref p::([.ref D,.ref k]++List.drop 1 (Xv K t).dfs)) (upd (upd H dx (.own p)) p (.ins t.c_zbg dx [])) (fun v H2=>v=.non/\R H2) E:=by
 have S1:Same H (upd (upd H dx (.own p)) p (.ins t.c_zbg dx [])):=(Same.upd hdx).set hp
 have K1:Kp any H (· ≠ p) (upd (upd H dx (.own p)) p (.ins t.c_zbg dx [])):=fun a o q=>⟨fun z=>(by have q2:=q.2;rw [z,hp] at q2;cases q2),S1 _ _ q.2⟩
 exact⟨p,D,dx,.ref k,sw,rules,rfl,Aa,hs.mono K1,hw,.inr ⟨k,rfl,hr.mono K1⟩,okr,few,ac9 ne,fun H2 O2 hP=>⟨rfl,q H2 (fun b u e=>O2 _ _ (fun z=>by rw [z,hp] at e;cases e) (S1 _ _ e)) (hP.mono Kp.any)⟩⟩
theorem Hx {H:Hp} {p:Addr} {n:Nat} {v:V} {Q:VK} (h:DGet H p (.int (n:Int)) (some v)) (q:Q v H):A5 K (.ref p) (.int (n:Int)) H Q:=
 ⟨kh (n+1) v,v,.dk fun u e=>by
  rw [Bw (j:=n) (v:=v) (by rw [dO,if_pos (cn n)])] at e
  cases e
  exact h,Bw (by rw [dO,if_pos (cn n)]),q⟩
theorem Xy {g:Nat->Addr} {ns:List Nat} {i n:Nat} (nd:ns.Nodup) (h:ns[i]? = some n):Bs (ns.map (kF g)) (.inl (n:Int))=some (.ref (g n)):=by
 refine Bg (i:=i) ?_ (by rw [ak,h];rfl)
 rw [Hy]
 exact eQ _ (fun a b ne e=>ne (by injection e with e;omega)) nd
theorem PlAt.nl {C:Addr} {H H':Hp} {p:Addr} {T:Tr} (h:PlAt C any H p T) (n:NL H H'):PlAt C any H' p T:=
 let ⟨dx,d,⟨_,o⟩,z⟩:=h
 ⟨dx,d,⟨trivial,n _ _ (fun _ z=>by cases z) o⟩,z.nl n⟩
theorem av0 (Z:An K t):OkD K Wk (A3 K t) bl (t.f 33) (t.d 33) (Ra K t):=by
 refine okD (n:=40) (t:=bd3 K t) rfl (by decide +kernel) (by kernel_rfl) (fun vs H Q E h=>?_) (fun vs H Q E h=>?_)
 ·obtain⟨W,F,l,k,f,sw,rules,g,tr,rfl,_⟩:=h;rfl
 ·obtain⟨W,F,l,kk,f,sw,rules,g,tr,rfl,hst,hW,hF,k⟩:=h
  have big:(1000:Nat)<sizeLine:=by decide
  refine⟨_,.inr (SqL.of hW.at_),rfl,?_⟩
  obtain⟨ds,_,⟨_,ol⟩,_⟩:=id hW.sws
  refine .inl ⟨⟨_,SqL.of ol⟩,Tu hW.sws hW.ok.2.1 fun D H1 S1 hD=>?_⟩
  intro p dx hp hdx nep
  refine Oh hp hdx hD hW.ok (hW.rl.mono (Kp.same S1)) hW.rok hW.few hW.ne fun H2 S2 hP=>?_
  have S02:=S1.trans S2
  refine⟨(show 0<=sizeLine by decide),fun R hR=>?_⟩
  have S3:=Same.upd (o:=.lst []) hR
  have e3:upd H2 R (.lst []) R=some (.lst []):=Aa
  show Ae _ _ _ _ (upd H2 R (.lst []))
  generalize upd H2 R (.lst [])=H3 at S3 e3 ⊢
  have S03:=S02.trans S3
  have fR:=S02.free hR
  have eF:=S03 _ _ hF.at_
  have asc:=Jb sw rules
  have ndf:(Aq sw rules).Nodup:=asc.imp fun h=>aN h
  refine .inr (.inr (.inl (.inl ⟨_,eF,fun o=>?_⟩)))
  have ef:upd H3 F (.frz o (.dK ((Aq sw rules).map (kF g)))) F=some (.frz o (.dK ((Aq sw rules).map (kF g)))):=Aa
  have of:∀ b u,b≠F->H3 b=some u->upd H3 F (.frz o (.dK ((Aq sw rules).map (kF g)))) b=some u:=fun b u nb e=>by rw [Ad nb];exact e
  show Gg (Itd F o ((Aq sw rules).map (kF g))) _ _ _ [some (.ref W),some (.ref F),some (.ref l),some (.ref kk),some (.ref f),some (.ref p),some (.ref R),none] _
  generalize upd H3 F (.frz o (.dK ((Aq sw rules).map (kF g))))=Hf at ef of ⊢
  have nRF:R≠F:=fun z=>by rw [z,eF] at e3;cases e3
  refine Bh (Fb ((Aq sw rules).map (kF g))) (fun i σ H'=>(∃ v7,σ=[some (.ref W),some (.ref F),some (.ref l),some (.ref kk),some (.ref f),some (.ref p),some (.ref R),v7])/\(∀ a u,a≠R->Hf a=some u->H' a=some u) /\ ∃ rs:List (Nat×Addr×Addr),rs.map (·.1)=(Aq sw rules).take i/\H' R=some (.lst (rs.map fun r=>.ref r.2.1)) /\ ∀ r∈rs,H' r.2.1=some (.tup [.int ((2 ^ r.1:Nat):Int),.ref r.2.2])/\PlAt t.c_zbh any H' r.2.2 (tr r.1))
   ⟨⟨_,rfl⟩,(fun _ _ _ e=>e),[],rfl,of _ _ nRF e3,fun r h=>by cases h⟩ (fun _ _ H' _ q=>q.2.1 _ _ nRF.symm ef) ?_ ?_
  ·rintro i x σ H4 hx ⟨⟨v7,rfl⟩,O4,rs,er,e4R,h4⟩
   rw [aE] at hx
   obtain⟨n,hn,rfl⟩:=Al hx
   have hm:=am hn
   obtain⟨nl,bt⟩:=Dn hm
   have l256:=hW.ok.len
   obtain⟨hT,okT⟩:=hF.one n hm
   have hT4:TrAt any H4 (g n) (tr n):=by
    obtain⟨es,ee,⟨_,e⟩,he⟩:=hT
    have ng:g n≠F:=fun z=>by
     have e':=hF.at_
     rw [<- z,e] at e'
     injection e' with e'
     injection e' with e'
     have:=congrArg (List.map lV) e'
     rw [Ib,Hy] at this
     have h0:(.inl (n:Int):Key)∈(Aq sw rules).map fun n:Nat=>(.inl (n:Int):Key):=List.mem_map.mpr ⟨n,hm,rfl⟩
     rw [<- this] at h0
     obtain⟨_,_,z⟩:=List.mem_map.mp h0
     cases z
    have kp:∀ a o,a≠F->a≠R->H a=some o->H4 a=some o:=fun a o n1 n2 e=>O4 _ _ n2 (of _ _ n1 (S03 _ _ e))
    refine⟨es,ee,⟨trivial,kp _ _ ng (fun z=>by rw [z,fR] at e;cases e) e⟩,fun x hx=>(he x hx).up fun b ys q=>kp _ _ (fun z=>by rw [z,hF.at_] at q;cases q) (fun z=>by rw [z,fR] at q;cases q) q⟩
   refine⟨.inl ⟨rfl,_,SqL.of e4R⟩,⟨by omega,by omega,by decide⟩,Hx (.inl ⟨_,.inl (n:Int),.inr ⟨o,O4 _ _ nRF.symm ef⟩,rfl,(Xy ndf hn).symm⟩) ⟨g n,tr n,rfl,hT4,okT,fun H5 pl S5 hPl=>⟨(show 2<=sizeLine by decide),fun T hT=>?_⟩⟩⟩
   have e1:(1 * 2 ^ ((n:Int)).toNat:Int)=((2 ^ n:Nat):Int):=by rw [iT,aU,Dw]
   rw [e1]
   have S6:=S5.trans (Same.upd (o:=.tup [.int ((2 ^ n:Nat):Int),.ref pl]) hT)
   have e6:upd H5 T (.tup [.int ((2 ^ n:Nat):Int),.ref pl]) T=some (.tup [.int ((2 ^ n:Nat):Int),.ref pl]):=Aa
   have hPl6:=hPl.up (Same.upd (o:=.tup [.int ((2 ^ n:Nat):Int),.ref pl]) hT)
   generalize upd H5 T (.tup [.int ((2 ^ n:Nat):Int),.ref pl])=H6 at S6 e6 hPl6 ⊢
   have lr:rs.length<=256:=by
    have:=congrArg cg er
    rw [ae,aH] at this
    have hf:=cW (fun n=>!Fr sw rules n) (aw (Ak sw).length)
    rw [a7] at hf
    have:rs.length<=(Aq sw rules).length:=by omega
    unfold Aq at this
    omega
   have nl6:=NL.upd (m:=(rs.map fun r=>V.ref r.2.1)++[.ref T]) (S6 _ _ e4R)
   refine⟨R,_,_,rfl,rfl,S6 _ _ e4R,by rw [ae];omega,⟨_,rfl⟩,fun a u na e=>by rw [Ad na];exact S6 _ _ (O4 _ _ na e),rs++[(n,T,pl)],?_,by rw [Aa,ax];rfl,fun r hr=>?_⟩
   ·rw [ax,er,aV,hn];rfl
   ·rcases List.mem_append.mp hr with hr|hr
    ·exact⟨nl6.tup _ _ (S6 _ _ (h4 r hr).1),((h4 r hr).2.up S6).nl nl6⟩
    ·obtain rfl:r=(n,T,pl):=by simpa using hr
     exact⟨nl6.tup _ _ e6,hPl6.nl nl6⟩
  ·rintro σ H4 ⟨⟨v7,rfl⟩,O4,rs,er,e4R,h4⟩
   rw [ae,ae,aL] at er
   have e4f:=O4 _ _ nRF.symm ef
   refine .inr ⟨F,o,_,eF,e4f,?_⟩
   have up:∀ a u,a≠R->H3 a=some u->upd H4 F (.dK ((Aq sw rules).map (kF g))) a=some u:=fun a u n2 e=>by
    by_cases ha:a=F
    ·subst ha;rw [Aa,<- eF,e]
    ·rw [Ad ha];exact O4 _ _ n2 (of _ _ ha e)
   have S04:Same H (upd H4 F (.dK ((Aq sw rules).map (kF g)))):=fun a u e=>up _ _ (fun z=>by rw [z,fR] at e;cases e) (S03 _ _ e)
   have nt:∀ a u,(∀ o k,u≠.frz o k)->H4 a=some u->upd H4 F (.dK ((Aq sw rules).map (kF g))) a=some u:=fun a u n e=>by rw [Ad fun z=>by rw [z,e4f] at e;cases e;exact n _ _ rfl];exact e
   have S2e:Same H2 (upd H4 F (.dK ((Aq sw rules).map (kF g)))):=fun a u e=>up _ _ (Ai e hR) (S3 _ _ e)
   generalize upd H4 F (.dK ((Aq sw rules).map (kF g)))=He at up S04 nt S2e ⊢
   obtain⟨hP266,ob,u,hB,b1,b2,b3⟩:=hst
   refine⟨p,R,sw,rules,Aq sw rules,tr,rs,rfl,⟨S04 _ _ hP266,ob,u,S04 _ _ hB,b1,b2,b3⟩,hP.mono (Kp.same S2e),⟨er,nt _ _ (fun _ _ z=>by cases z) e4R,fun r hr=>⟨nt _ _ (fun _ _ z=>by cases z) (h4 r hr).1,?_⟩⟩,fun n hn=>⟨(hF.one n hn).2,(Dn hn).2,aD (Dn hn).1 hW.ok.len⟩,asc,hF.few,fun H5 b O5 hB5=>k H5 b (fun a u na e=>O5 _ _ na (S04 _ _ e)) hB5⟩
   obtain⟨dx,d,⟨_,o1⟩,es,ee,⟨_,o2⟩,z⟩:=(h4 r hr).2
   exact⟨dx,d,⟨trivial,nt _ _ (fun _ _ z=>by cases z) o1⟩,es,ee,⟨trivial,nt _ _ (fun _ _ z=>by cases z) o2⟩,fun x hx=>(z x hx).up fun b ys q=>nt _ _ (fun _ _ z=>by cases z) q⟩
theorem ak4 {H:Hp} {p:Addr} {n:Nat} {v:V} (h:DGet H p (.int (n:Int)) (some v)):∃ xs,SqX K H p (n:Int) xs/\atI xs (n:Int)=some v:=
 have e:atI (kh (n+1) v) (n:Int)=some v:=Bw (by rw [dO,if_pos (cn n)])
 ⟨_,.dk fun u e2=>by rw [e] at e2;cases e2;exact h,e⟩
theorem Ky (l:List Nat):Ki (l.map fun n:Nat=>V.int (n:Int)) (l.map fun n:Nat=>V.int (n:Int))=true:=by
 unfold Ki
 rw [decide_eq_true rfl,gG,bb]
 intro j hj
 have hj:=List.mem_range.mp hj
 refine Ny ?_
 rw [ao,af hj,Option.getD_some,b9]
 rfl
theorem au1 (Z:An K t):OkD K Wc (A3 K t) bl (t.f 35) (t.d 35) (J3 K t):=by
 refine okD (n:=40) (t:=bc4 K t) rfl (by decide +kernel) (by kernel_rfl) (fun vs H Q E h=>?_) (fun vs H Q E h=>?_)
 ·obtain⟨a,b,ms,rfl,_⟩:=h;rfl
 ·obtain⟨a,b,ms,rfl,ea,eb,ne,few,k⟩:=h
  have big:(1000:Nat)<sizeLine:=by decide
  refine⟨_,true,.sqL rfl (SqL.of ea) rfl,rfl,?_⟩
  refine .inl ⟨a,b,_,_,rfl,rfl,SqL.of ea,SqL.of eb,Cy _,Cy _,?_⟩
  rw [Ky]
  refine .inl ⟨⟨_,SqL.of ea⟩,fun D hD=>?_⟩
  refine Dg (Ba (ms.map fun n:Nat=>V.int (n:Int))) (fun i σ H'=>(∃ v,σ=[v])/\Same H H'/\H' D=some (nO (ms.take i))) ⟨⟨_,rfl⟩,Same.upd hD,Aa⟩ (fun _ _ H' _ q=>q.2.1.seqL (SqL.of ea)) ?_ ?_
  ·rintro i x σ H1 hx ⟨⟨v,rfl⟩,S1,eD⟩
   obtain⟨n,hn,rfl⟩:=Al hx
   have il:=Aj hn
   refine⟨rfl,rfl,_,eD,by rw [ae,aH];omega,⟨_,rfl⟩,S1.set hD,?_⟩
   rw [Aa,nO,aV,hn,cA,ax];rfl
  ·rintro σ H1 ⟨_,S1,eD⟩
   rw [ae,aL] at eD
   refine .inl ⟨D,a,_,_,rfl,rfl,SqL.of eD,SqL.of (S1 _ _ ea),Cy _,Cy _,?_⟩
   rw [Ky]
   exact .inl ⟨.inl ⟨rfl,_,SqL.of (S1 _ _ ea)⟩,a,_,rfl,rfl,S1 _ _ ea,k _ fun c o nc e=>by rw [Ad nc];exact S1 _ _ e⟩
theorem av7 (Z:An K t):OkD K Wr (A3 K t) bl (t.f 34) (t.d 34) (Rf K t):=by
 refine okD (n:=40) (t:=be0 K t) rfl (by decide +kernel) (by kernel_rfl) (fun vs H Q E h=>?_) (fun vs H Q E h=>?_)
 ·obtain⟨F,ns,g,tr,rfl,_⟩:=h;rfl
 ·obtain⟨F,ns,g,tr,rfl,hF,asc,b256,k⟩:=h
  have big:(1000:Nat)<sizeLine:=by decide
  have nd:ns.Nodup:=asc.imp fun h=>aN h
  have f4:=Mg asc hF.few
  have l256:ns.length<=256:=by
   have:=Oy (x:=aw 256) nd fun z hz=>List.mem_range.mpr (b256 z hz)
   rwa [a7] at this
  refine⟨(show 0<=sizeLine by decide),fun TT hTT=>?_⟩
  have S1:=Same.upd (o:=.lst []) hTT
  have e1:upd H TT (.lst []) TT=some (.lst []):=Aa
  show Ae _ _ _ _ (upd H TT (.lst []))
  generalize upd H TT (.lst [])=H1 at S1 e1 ⊢
  refine⟨(show 0<=sizeLine by decide),fun MM hMM=>?_⟩
  have S2:=S1.trans (Same.upd (o:=.lst []) hMM)
  have nTM:TT≠MM:=Ai e1 hMM
  have fMM:=S1.free hMM
  have e2t:upd H1 MM (.lst []) TT=some (.lst []):=by rw [Ad nTM];exact e1
  have e2m:upd H1 MM (.lst []) MM=some (nO []):=Aa
  show Ae _ _ _ _ (upd H1 MM (.lst []))
  generalize upd H1 MM (.lst [])=H2 at S2 e2t e2m ⊢
  have ek:(ns.map (kF g)).map (·.1)=(ns.map fun n:Nat=>(n:Int)).map i4:=by rw [Hy,aE];rfl
  refine .inr ⟨rfl,.inr ⟨F,ns.map fun n:Nat=>(n:Int),_,rfl,.inl (S2 _ _ hF.at_),ek,eQ _ (fun a b h=>by omega) asc,by rw [ae];omega,fun L hL=>?_⟩⟩
  have el0:(ns.map fun n:Nat=>(n:Int)).map V.int=ns.map fun n:Nat=>V.int (n:Int):=by rw [aE];rfl
  rw [el0]
  have S3:=S2.trans (Same.upd (o:=nO ns) hL)
  have e3l:upd H2 L (nO ns) L=some (nO ns):=Aa
  have nTL:TT≠L:=Ai e2t hL
  have nML:MM≠L:=Ai e2m hL
  have e3t:upd H2 L (nO ns) TT=some (.lst (([]:List Nat).map fun n=>.ref (g n))):=by rw [Ad nTL];exact e2t
  have e3m:upd H2 L (nO ns) MM=some (nO []):=by rw [Ad nML];exact e2m
  refine .inl ⟨⟨_,SqL.of e3l⟩,?_⟩
  show Gg (Itl K L) _ _ _ [some (.ref F),some (.ref TT),some (.ref MM),none,none] (upd H2 L (nO ns))
  generalize upd H2 L (nO ns)=H3 at S3 e3l e3t e3m ⊢
  refine Bh (Ba (ns.map fun n:Nat=>V.int (n:Int))) (fun i σ H'=>(∃ v3 v4,σ=[some (.ref F),some (.ref TT),some (.ref MM),v3,v4])/\Same H H'/\H' L=some (nO ns) /\ ∃ ts:List Nat,(∀ n∈ts,n∈ns)/\H' TT=some (.lst (ts.map fun n=>.ref (g n)))/\ts.map (fun n=>vkT (tr n))=(Dh (fun n=>vkT (tr n)) (ns.take i)).map (·.1)/\H' MM=some (nO ((Dh (fun n=>vkT (tr n)) (ns.take i)).map (·.2.2))))
   ⟨⟨_,_,rfl⟩,S3,e3l,[],(fun n h=>by cases h),e3t,rfl,e3m⟩ (fun _ _ H' _ q=>SqL.of q.2.2.1) ?_ ?_
  ·rintro i x σ H4 hx ⟨⟨v3,v4,rfl⟩,S4,e4l,ts,hts,e4t,ekk,e4m⟩
   obtain⟨n,hn,rfl⟩:=Al hx
   have hm:=am hn
   have gi:=E6 (f:=fun n=>vkT (tr n)) asc i n (Na asc hn)
   have st:=F1 (f:=fun n=>vkT (tr n)) hn
   have f4i:=f4 i
   rw [st]
   generalize Dh (fun n=>vkT (tr n)) (ns.take i)=gs at ekk e4m gi f4i
   have lts:ts.length=gs.length:=by have:=congrArg cg ekk;rwa [ae,ae] at this
   have n256:=b256 n hm
   have dg:∀ {H':Hp},Same H H'->DGet H' F (.int (n:Int)) (some (.ref (g n))):=fun S=>.inl ⟨_,.inl (n:Int),.inl (S _ _ hF.at_),rfl,(Xy nd hn).symm⟩
   refine .inl ⟨⟨_,SqL.of e4t⟩,fun D hD=>?_⟩
   refine Hq (Ef (ts.map fun n=>V.ref (g n))) (fun m σ H'=>(∃ v0 v1,σ=[v0,v1,some (.ref F),some (.int (n:Int))])/\Same H4 H'/\H' D=some (nO ((aw m).filter fun j=>decide ((gs.map (·.1))[j]? = some (vkT (tr n)))))) ⟨⟨_,_,rfl⟩,Same.upd hD,Aa⟩ (fun _ _ H' _ q=>q.2.1.seqL (SqL.of e4t)) ?_ ?_
   ·rintro j x y T σ H5 hx5 hT ⟨⟨v0,v1,rfl⟩,S5,eD⟩
    obtain⟨rfl,hy⟩:=Iy hx5
    obtain⟨m,hm2,rfl⟩:=Al hy
    have jl:=Aj hm2
    have ST:=Same.upd (o:=.tup [.int (j:Int),.ref (g m)]) hT
    refine⟨_,.inl (SqT.of Aa),rfl,?_⟩
    generalize upd H5 T (.tup [.int (j:Int),.ref (g m)])=H6 at ST ⊢
    have S06:=S4.trans (S5.trans ST)
    obtain⟨hm1,om1⟩:=hF.one m (hts m (am hm2))
    obtain⟨hn1,on1⟩:=hF.one n hm
    obtain⟨xs,q1,q2⟩:=ak4 (K:=K) (dg S06)
    refine⟨xs,_,q1,q2,?_⟩
    refine Or.inr (.inr (.inr (.inr ⟨_,_,_,_,_,_,rfl,rfl,(hm1.up S06).dic om1,(hn1.up S06).dic on1,?_⟩)))
    rw [be9 om1 on1]
    have ej:(gs.map (·.1))[j]? = some (vkT (tr m)):=by rw [<- ekk,ak,hm2];rfl
    have fs:(aw (j+1)).filter (fun j=>decide ((gs.map (·.1))[j]? = some (vkT (tr n))))=(aw j).filter (fun j=>decide ((gs.map (·.1))[j]? = some (vkT (tr n))))++(if decide ((gs.map (·.1))[j]? = some (vkT (tr n)))=true then [j] else []):=by
     rw [fK,fI,ja,jG]
    rw [ej] at fs
    have de:decide (some (vkT (tr m))=some (vkT (tr n)))=decide (vkT (tr m)=vkT (tr n)):=decide_eq_decide.mpr ⟨fun e=>av e,fun e=>by rw [e]⟩
    rw [de] at fs
    by_cases c:vkT (tr m)=vkT (tr n)
    ·rw [decide_eq_true c,if_pos rfl] at fs
     refine N2 (decide_eq_true c) ⟨_,ST _ _ eD,?_,⟨_,_,rfl⟩,(S5.trans ST).set hD,by rw [Aa,fs,nO,ax];rfl⟩
     rw [ae]
     have:=cW (fun j=>decide ((gs.map (·.1))[j]? = some (vkT (tr n)))) (aw j)
     rw [a7] at this
     omega
    ·rw [decide_eq_false c,if_neg (by decide),dI] at fs
     exact Hb (decide_eq_false c) ⟨⟨_,_,rfl⟩,S5.trans ST,by rw [fs];exact ST _ _ eD⟩
   ·rintro σ H5 ⟨_,S5,eD⟩
    rw [Bf,ae,lts] at eD
    refine⟨(show 0<=sizeLine by decide),fun q hq=>.inl ⟨D,q,_,_,rfl,rfl,SqL.of ((Same.upd hq) _ _ eD),SqL.of Aa,Cy _,rfl,?_⟩⟩
    have S6:=S5.trans (Same.upd (o:=.lst []) hq)
    have e6D:=(Same.upd (o:=.lst []) hq) _ _ eD
    generalize upd H5 q (.lst [])=H6 at S6 e6D ⊢
    have S06:=S4.trans S6
    have e6t:=S6 _ _ e4t
    have e6m:=S6 _ _ e4m
    have e6l:=S6 _ _ e4l
    have e1v:(1 * 2 ^ ((n:Int)).toNat:Int)=((2 ^ n:Nat):Int):=by rw [iT,aU,Dw]
    have nLT:L≠TT:=nTL.symm
    by_cases hk:vkT (tr n)∈gs.map (·.1)
    ·obtain⟨j1,hj1⟩:=List.mem_iff_getElem?.mp hk
     have jl1:=Aj hj1
     rw [ae] at jl1
     have hjm:j1∈(aw gs.length).filter fun j=>decide ((gs.map (·.1))[j]? = some (vkT (tr n))):=List.mem_filter.mpr ⟨List.mem_range.mpr jl1,decide_eq_true hj1⟩
     have hall:∀ j∈(aw gs.length).filter (fun j=>decide ((gs.map (·.1))[j]? = some (vkT (tr n)))),(gs.map (·.1))[j]? = some (vkT (tr n)):=fun j hj=>of_decide_eq_true (List.mem_filter.mp hj).2
     generalize (aw gs.length).filter (fun j=>decide ((gs.map (·.1))[j]? = some (vkT (tr n))))=js at e6D hjm hall ⊢
     cases js with
     | nil=>cases hjm
     | cons j js=>
      obtain⟨g1,hg1,eg1⟩:=Al (hall j aQ)
      refine Xx ?_
      obtain⟨pm,pk⟩:=az2 gi hg1 eg1.symm
      refine⟨_,_,.inl (SqL.of e6D),Bw (j:=0) rfl,MM,_,(g1.2.2:Int),j,rfl,rfl,e6m,by rw [ak,ak,hg1];rfl,⟨by omega,by omega,by decide⟩,_,rfl,e6m,?_⟩
      refine⟨⟨_,_,rfl⟩,S06.set fMM,by rw [Ad nML.symm];exact e6l,ts,hts,by rw [Ad nTM];exact e6t,by rw [pk];exact ekk,?_⟩
      rw [Aa,pm,e1v,nO,List.map_set,Int.natCast_add]
    ·have hj0:(aw gs.length).filter (fun j=>decide ((gs.map (·.1))[j]? = some (vkT (tr n))))=[]:=List.filter_eq_nil_iff.mpr fun j _ z=>hk (am (of_decide_eq_true z))
     rw [hj0]
     refine P7 ?_
     rw [Sx hk]
     obtain⟨xs,q1,q2⟩:=ak4 (K:=K) (dg S06)
     refine⟨.inl ⟨rfl,_,SqL.of e6t⟩,xs,_,q1,q2,?_⟩
     refine⟨TT,_,_,rfl,rfl,e6t,by rw [ae];omega,?_⟩
     have e7t:upd H6 TT (.lst ((ts.map fun n=>V.ref (g n))++[.ref (g n)])) TT=some (.lst ((ts.map fun n=>V.ref (g n))++[.ref (g n)])):=Aa
     have e7m:upd H6 TT (.lst ((ts.map fun n=>V.ref (g n))++[.ref (g n)])) MM=some (nO (gs.map (·.2.2))):=by rw [Ad nTM.symm];exact e6m
     have e7l:upd H6 TT (.lst ((ts.map fun n=>V.ref (g n))++[.ref (g n)])) L=some (nO ns):=by rw [Ad nLT];exact e6l
     have S7:=S06.set (o:=.lst ((ts.map fun n=>V.ref (g n))++[.ref (g n)])) hTT
     show Ae _ _ _ _ (upd H6 TT (.lst ((ts.map fun n=>V.ref (g n))++[.ref (g n)])))
     generalize upd H6 TT (.lst ((ts.map fun n=>V.ref (g n))++[.ref (g n)]))=H7 at e7t e7m e7l S7 ⊢
     refine⟨.inl ⟨rfl,_,SqL.of e7m⟩,⟨by omega,by omega,by decide⟩,MM,_,_,rfl,rfl,e7m,by rw [ae,ae];omega,?_⟩
     refine⟨⟨_,_,rfl⟩,S7.set fMM,by rw [Ad nML.symm];exact e7l,ts++[n],fun m hm2=>?_,by rw [Ad nTM,ax];exact e7t,by rw [ax,ax,ekk];rfl,?_⟩
     ·rcases List.mem_append.mp hm2 with h|h
      ·exact hts m h
      ·obtain rfl:m=n:=by simpa using h
       exact hm
     ·rw [Aa,e1v,nO,ax,ax];rfl
  ·rintro σ H4 ⟨⟨v3,v4,rfl⟩,S4,e4l,ts,hts,e4t,ekk,e4m⟩
   rw [ae,aL] at e4m
   exact .inl (k H4 MM S4 e4m)
noncomputable def NB (H H':Hp):Prop:=∀ a o,(∀ x,o≠.tbl x)->H a=some o->H' a=some o
theorem NB.of {P:Addr} {H H':Hp} {x:Array ah} (O:Ng P H H') (h:H P=some (.tbl x)):NB H H':=fun a o n e=>O _ _ (fun z=>by rw [z,h] at e;cases e;exact n _ rfl) e
theorem NB.l {H H':Hp} (n:NB H H') {a:Addr} {xs:List V} (e:H a=some (.lst xs)):H' a=some (.lst xs):=n _ _ (fun _ z=>by cases z) e
theorem NB.tu {H H':Hp} (n:NB H H') {a:Addr} {xs:List V} (e:H a=some (.tup xs)):H' a=some (.tup xs):=n _ _ (fun _ z=>by cases z) e
theorem NB.d {H H':Hp} (n:NB H H') {a:Addr} {kvs:List (Key×V)} (e:H a=some (.dK kvs)):H' a=some (.dK kvs):=n _ _ (fun _ z=>by cases z) e
theorem WorldAt.nb {H H':Hp} {W l k f:Addr} {sw:Sw} {rules:List Sw} (h:WorldAt H W sw rules l k f) (n:NB H H'):WorldAt H' W sw rules l k f:=by
 obtain⟨ds,e1,⟨_,o1⟩,h1⟩:=h.sws
 obtain⟨gs,e2,⟨_,o2⟩,h2⟩:=h.rl
 exact⟨n.l h.at_,⟨ds,e1,⟨trivial,n.l o1⟩,fun x hx=>⟨⟨trivial,n.tu (h1 x hx).1.2⟩,trivial,n.l (h1 x hx).2.2⟩⟩,h.ok,⟨gs,e2,⟨trivial,n.l o2⟩,fun x hx=>let ⟨es,a,⟨_,b⟩,c⟩:=h2 x hx;⟨es,a,⟨trivial,n.d b⟩,fun y hy=>⟨trivial,n.l (c y hy).2⟩⟩⟩,h.rok,h.few,n.l h.fr,h.ne⟩
theorem FoundAt.nb {H H':Hp} {F:Addr} {ns:List Nat} {g:Nat->Addr} {tr:Nat->Tr} (h:FoundAt H F ns g tr) (n:NB H H'):FoundAt H' F ns g tr:=
 ⟨n.d h.at_,fun m hm=>let ⟨⟨es,a,⟨_,b⟩,c⟩,o⟩:=h.one m hm;⟨⟨es,a,⟨trivial,n.d b⟩,fun x hx=>(c x hx).up fun _ _=>n.tu⟩,o⟩,h.few⟩
theorem BookAt.up {C b:Addr} {H H':Hp} {ms:List Nat} (h:BookAt C H b ms) (S:Same H H'):BookAt C H' b ms:=let ⟨dx,p,l,e,q⟩:=h;⟨dx,p,l,S _ _ e,q.up S⟩
theorem U1 {tr:Nat->Tr} {ns:List Nat} (asc:ns.Pairwise (· < ·)) (h:∃ Ts:List Tr,Ts.length<=4 /\ ∀ n∈ns,tr n∈Ts):(D6 (fun n=>vkT (tr n)) ns).length<=100:=by
 have:=Mg asc h ns.length
 rw [aL] at this
 unfold D6
 rw [ae]
 omega
theorem aw1 (Z:An K t):OkD K D_zba (A3 K t) bl (t.f 36) (t.d 36) (M9 K t):=by
 refine okD (n:=40) (t:=be4 K t) rfl (by decide +kernel) (by kernel_rfl) (fun vs H Q E h=>?_) (fun vs H Q E h=>?_)
 ·obtain⟨a,ns,rfl,_⟩:=h;rfl
 ·obtain⟨a,ns,rfl,hS,_,hst,k⟩:=h
  have big:(1000:Nat)<sizeLine:=by decide
  refine⟨a,ns,0,rfl,hS,by decide,a,ns,_,rfl,hS,fun H1 LL W nm F sw rules l kk f g tr S1 eL hW hF=>?_⟩
  refine⟨_,.inr (SqL.of eL),rfl,?_⟩
  obtain⟨hP,ob,u,hB,b1,b2,b3⟩:=hst
  refine⟨W,F,l,kk,f,sw,rules,g,tr,rfl,⟨S1 _ _ hP,ob,u,S1 _ _ hB,b1,b2,b3⟩,hW,hF,fun H2 b O2 hB2=>?_⟩
  have nb2:=NB.of O2 (S1 _ _ hP)
  have hW2:=hW.nb nb2
  have hF2:=hF.nb nb2
  have asc:=Jb sw rules
  have few:=U1 asc hF.few
  refine⟨F,_,g,tr,rfl,hF2,asc,fun n hn=>aD (Dn hn).1 hW.ok.len,fun H3 dl S3 ed=>?_⟩
  have hB3:=hB2.up S3
  generalize D6 (fun n=>vkT (tr n)) (Aq sw rules)=ms at hB3 ed few
  obtain⟨dxb,pb,lb,eb3,_⟩:=id hB3
  refine⟨b,dxb,_,⟨t.c_zbi,Xu K t⟩,rfl,.head _,eb3,rfl,⟨aj _,aj _⟩,⟨b,ms,rfl,hB3,few,fun H4 c1 S4 fc1 ec1=>?_⟩⟩
  refine⟨c1,dl,ms,rfl,ec1,S4 _ _ ed,(Ai ed fc1).symm,few,fun H5 O5=>?_⟩
  have S35:Same H3 H5:=fun x o e=>O5 _ _ (Ai e fc1) (S4 _ _ e)
  have hB5:=hB3.up S35
  have ed5:=S35 _ _ ed
  refine⟨b,dxb,_,⟨t.c_zbi,Xu K t⟩,rfl,.head _,S35 _ _ eb3,rfl,⟨aj _,aj _⟩,⟨b,ms,rfl,hB5,few,fun H6 c2 S6 fc2 ec2=>?_⟩⟩
  refine⟨c2,dl,ms,rfl,ec2,S6 _ _ ed5,(Ai ed5 fc2).symm,few,fun H7 O7=>?_⟩
  have S37:Same H3 H7:=S35.trans fun x o e=>O7 _ _ (Ai e fc2) (S6 _ _ e)
  have S27:=S3.trans S37
  refine⟨_,_,.inl (SqL.of (S27 _ _ hW2.at_)),rfl,.inl ⟨⟨_,SqL.of (S27 _ _ hW2.fr)⟩,?_⟩⟩
  have l256:(Aq sw rules).length<=256:=by
   have:=cW (fun n=>!Fr sw rules n) (aw (Ak sw).length)
   rw [a7] at this
   exact aT this hW.ok.len
  refine Gk (f:=fun i=>.int (1 * 2 ^ (((Aq sw rules).getD i 0:Nat):Int).toNat)) (rest:=[]) (Ba _) (fun H' S=>(S27.trans S).seqL (SqL.of hW2.fr)) (by rw [ae];omega) (fun i x H8 Q1 hx S8 q=>?_) fun D H8 S8 hD eD=>?_
  ·obtain⟨n,hn,rfl⟩:=Al hx
   have nl:=aD (Dn (am hn)).1 hW.ok.len
   have:=q _ (Same.refl _)
   rw [E5 hn] at this
   exact⟨⟨by omega,by omega,by decide⟩,this⟩
  have es:(aw ((Aq sw rules).map fun n:Nat=>V.int (n:Int)).length).map (fun i=>V.int (1 * 2 ^ (((Aq sw rules).getD i 0:Nat):Int).toNat))=((Aq sw rules).map fun n:Nat=>(1 * 2 ^ ((n:Int)).toNat:Int)).map V.int:=by
   refine fX fun i=>?_
   rw [ae,ak,ak,ak]
   by_cases hi:i<(Aq sw rules).length
   ·rw [dj hi,af hi,jL,E5 (af hi)]
    rfl
   ·rw [cD (by rw [a7];omega),cD (by omega)]
    rfl
  rw [es] at eD
  refine⟨D,_,rfl,SqL.of eD,?_⟩
  rw [Pa,Xn]
  have S28:=S27.trans S8
  have hW8:=hW2.nb fun _ _ _ e=>S28 _ _ e
  obtain⟨ds,_,⟨_,ol⟩,_⟩:=id hW8.sws
  refine⟨_,_,.inl (SqL.of hW8.at_),rfl,.inl ⟨⟨_,SqL.of ol⟩,Tu hW8.sws hW.ok.2.1 fun D2 H9 S9 hD2=>?_⟩⟩
  refine⟨_,_,.inl (SqL.of (S9 _ _ hW8.at_)),rfl,?_⟩
  intro p dx hp hdx nep
  refine Oh hp hdx hD2 hW.ok (hW8.rl.mono (Kp.same S9)) hW.rok hW.few hW.ne fun H10 S10 hPn=>?_
  intro bk dxk hbk hdxk nek
  have T1:Same H10 (upd (upd H10 dxk (.own bk)) bk (.ins t.c_zbi dxk [])):=(Same.upd hdxk).set hbk
  have e11:upd (upd H10 dxk (.own bk)) bk (.ins t.c_zbi dxk []) bk=some (.ins t.c_zbi dxk []):=Aa
  have K1:Kp any H10 (· ≠ bk) (upd (upd H10 dxk (.own bk)) bk (.ins t.c_zbi dxk [])):=fun a o q=>⟨fun z=>(by have q2:=q.2;rw [z,hbk] at q2;cases q2),T1 _ _ q.2⟩
  generalize upd (upd H10 dxk (.own bk)) bk (.ins t.c_zbi dxk [])=H11 at T1 e11 K1 ⊢
  refine⟨bk,p,dxk,sw,rules,rfl,e11,hPn.mono K1,fun H12 lk _ e12 hK=>⟨rfl,?_⟩⟩
  refine⟨bk,dxk,_,⟨t.c_zbi,Xu K t⟩,rfl,.head _,e12,rfl,⟨aj _,aj _⟩,⟨bk,_,rfl,⟨dxk,p,lk,e12,hK⟩,(show 1<=100 by decide),fun H13 c3 S13 fc3 ec3=>?_⟩⟩
  refine⟨(show 1<=sizeLine by decide),fun q hq=>?_⟩
  exact⟨c3,q,[B5 sw rules],rfl,(Same.upd hq) _ _ ec3,Aa,Ai ec3 hq,(show 1<=100 by decide),fun H14 _=>k H14⟩
end
end K33
set_option maxHeartbeats 4000000
namespace K33
open PySem L2
noncomputable def a33:List Df:=[Wp,ap3,V9,Wq,an6,ao7,Wa,ao1,an3,an2,Wu,an7,Wl,Ws,Wg,ao4,Wh,Wf,ap5,ap4,Wi,Wn,ao8,Wo,Wd,ao9,Wm,Wt,ao5,D_zao,Wb,Wj,We,Wk,Wr,Wc,D_zba]
noncomputable def Qg:List Df:=[ao3,V8,ao6,an9]
noncomputable def Qh:List Df:=[ao2,ap0]
noncomputable def Qf:List Df:=[an4,ao0,V7,ap1,an8,an5,ap2]
structure aj4 (K:ac) (mg:Str->Option ah) (t:Adr):Prop where
 g:AllG K mg t.f t.d 0 a33
 m_zbh:AllM K t.c_zbh t.m_zbh t.e_zbh 0 Qg
 at_zbh:mg "Plain" = some (.ref t.c_zbh)
 kp_zbh:ba K (.ref t.c_zbh)=true
 mk_zbh:bX K t.c_zbh=true
 in_zbh:aO K (.ref t.c_zbh) "__init__" = some (some (.ref t.f_zw))
 cl_zbh:Cls K t.c_zbh
 m_zbi:AllM K t.c_zbi t.m_zbi t.e_zbi 0 Qh
 at_zbi:mg "Book" = some (.ref t.c_zbi)
 kp_zbi:ba K (.ref t.c_zbi)=true
 mk_zbi:bX K t.c_zbi=true
 in_zbi:aO K (.ref t.c_zbi) "__init__" = some (some (.ref t.f_zaa))
 cl_zbi:Cls K t.c_zbi
 m_zbg:AllM K t.c_zbg t.m_zbg t.e_zbg 0 Qf
 at_zbg:mg "Panel" = some (.ref t.c_zbg)
 kp_zbg:ba K (.ref t.c_zbg)=true
 mk_zbg:bX K t.c_zbg=true
 in_zbg:aO K (.ref t.c_zbg) "__init__" = some (some (.ref t.f_zt))
 cl_zbg:Cls K t.c_zbg
 F_zw:FunD K "__init__" "Plain.__init__" D_zw.st t.f_zw t.d_zw .none
 b_zw:∀ j,j<=0->Binds K t.d_zw D_zw.ps (([]:List ah).drop j)
 w_zw:Vals [] ([]:List ah)
 if_zw:cE K (.ref t.f_zw)=true
 F_zaa:FunD K "__init__" "Book.__init__" D_zaa.st t.f_zaa t.d_zaa .none
 b_zaa:∀ j,j<=0->Binds K t.d_zaa D_zaa.ps (([]:List ah).drop j)
 w_zaa:Vals [] ([]:List ah)
 if_zaa:cE K (.ref t.f_zaa)=true
 F_zt:FunD K "__init__" "Panel.__init__" D_zt.st t.f_zt t.d_zt t.dv_zt
 b_zt:∀ j,j<=1->Binds K t.d_zt D_zt.ps (t.du_zt.drop j)
 w_zt:Vals [.non] t.du_zt
 if_zt:cE K (.ref t.f_zt)=true
 c:AllC mg t.u 0 cons
 z:∀ x∈bl,mg x=none
 Z:An K t
theorem at3 {P:aS} {w:bB} {K:ac} {mg:Str->Option ah} {base:Heap} {t:Adr} (A:aj4 K mg t):FnOk P w K mg base CX0 11 (t.f 36) (t.d 36) D_zba.ps (M9 K t):=by
  have Z:=A.Z
  have G:∀ (j:Nat) {D:Df},a33[j]? = some D->DOk K mg D.q D.st (t.f (0+j)) (t.d (0+j)) D.ps:=fun j _ e=>(A.g.get j e).1
  have M_zbh:∀ (j:Nat) {D:Df},Qg[j]? = some D->MOk K D.x D.q D.st (t.m_zbh (0+j)) (t.e_zbh (0+j)) D.ps/\Il K t.c_zbh D.x (t.m_zbh (0+j)):=fun j _ e=>A.m_zbh.get j e
  have M_zbi:∀ (j:Nat) {D:Df},Qh[j]? = some D->MOk K D.x D.q D.st (t.m_zbi (0+j)) (t.e_zbi (0+j)) D.ps/\Il K t.c_zbi D.x (t.m_zbi (0+j)):=fun j _ e=>A.m_zbi.get j e
  have M_zbg:∀ (j:Nat) {D:Df},Qf[j]? = some D->MOk K D.x D.q D.st (t.m_zbg (0+j)) (t.e_zbg (0+j)) D.ps/\Il K t.c_zbg D.x (t.m_zbg (0+j)):=fun j _ e=>A.m_zbg.get j e
  have O:V4 P w K mg base (A3 K t) bl t.f t.d 0 (fns K t):=⟨(av5 Z).g (G 0 rfl),(a88 Z).g (G 1 rfl),(at8 Z).g (G 2 rfl),(av6 Z).g (G 3 rfl),(a69 Z).g (G 4 rfl),(a80 Z).g (G 5 rfl),(at9 Z).g (G 6 rfl),(a74 Z).g (G 7 rfl),(a66 Z).g (G 8 rfl),(a65 Z).g (G 9 rfl),(aw0 Z).g (G 10 rfl),(a70 Z).g (G 11 rfl),(av1 Z).g (G 12 rfl),(av8 Z).g (G 13 rfl),(au5 Z).g (G 14 rfl),(a77 Z).g (G 15 rfl),(au6 Z).g (G 16 rfl),(au4 Z).g (G 17 rfl),(a90 Z).g (G 18 rfl),(a89 Z).g (G 19 rfl),(au7 Z).g (G 20 rfl),(av3 Z).g (G 21 rfl),(a81 Z).g (G 22 rfl),(av4 Z).g (G 23 rfl),(au2 Z).g (G 24 rfl),(a82 Z).g (G 25 rfl),(av2 Z).g (G 26 rfl),(av9 Z).g (G 27 rfl),(a78 Z).g (G 28 rfl),(au9 Z).g (G 29 rfl),(au0 Z).g (G 30 rfl),(au8 Z).g (G 31 rfl),(au3 Z).g (G 32 rfl),(av0 Z).g (G 33 rfl),(av7 Z).g (G 34 rfl),(au1 Z).g (G 35 rfl),aX⟩
  have E:AllE P w K mg base (A3 K t) bl (A3 K t):=AllE.app ⟨(fun T=>⟨A.at_zbh,A.kp_zbh,A.mk_zbh,A.in_zbh,A.if_zw,⟨A.F_zw.kp,⟨CX0,fun X' _ _=>Eu X',a87 Z _ _ _ _ _ A.F_zw fun m h=>T m (df h)⟩,cQ 1,A.b_zw,A.w_zw⟩,aj 2⟩),(fun _=>⟨A.at_zbh,rfl⟩),(fun T=>⟨A.at_zbi,A.kp_zbi,A.mk_zbi,A.in_zbi,A.if_zaa,⟨A.F_zaa.kp,⟨CX0,fun X' _ _=>Eu X',at5 Z _ _ _ _ _ A.F_zaa fun m h=>T m (df h)⟩,cQ 3,A.b_zaa,A.w_zaa⟩,aj 4⟩),(fun _=>⟨A.at_zbi,rfl⟩),(fun T=>⟨A.at_zbg,A.kp_zbg,A.mk_zbg,A.in_zbg,A.if_zt,⟨A.F_zt.kp,⟨CX0,fun X' _ _=>Eu X',a84 Z _ _ _ _ _ A.F_zt fun m h=>T m (df h)⟩,cQ 8,A.b_zt,A.w_zt⟩,aj 9⟩),(fun _=>⟨A.at_zbg,rfl⟩),(fun T=>one ⟨A.cl_zbg,(M_zbg 0 rfl).2,(M_zbg 0 rfl).1.fi (ad1 K t) (a67 Z _ _ _ _ _ (M_zbg 0 rfl).1.F T)⟩),(fun T=>one ⟨A.cl_zbg,(M_zbg 1 rfl).2,(M_zbg 1 rfl).1.fi (ad2 K t) (a73 Z _ _ _ _ _ (M_zbg 1 rfl).1.F T)⟩),(fun T=>one ⟨A.cl_zbg,(M_zbg 2 rfl).2,(M_zbg 2 rfl).1.fi (Sh K t) (at6 Z _ _ _ _ _ (M_zbg 2 rfl).1.F T)⟩),(fun T=>one ⟨A.cl_zbi,(M_zbi 0 rfl).2,(M_zbi 0 rfl).1.fi (Xu K t) (a75 Z _ _ _ _ _ (M_zbi 0 rfl).1.F T)⟩),(fun T=>one ⟨A.cl_zbh,(M_zbh 0 rfl).2,(M_zbh 0 rfl).1.fi (ar9 K t) (a76 Z _ _ _ _ _ (M_zbh 0 rfl).1.F T)⟩),(fun T=>one ⟨A.cl_zbh,(M_zbh 1 rfl).2,(M_zbh 1 rfl).1.fi (Xt K t) (at7 Z _ _ _ _ _ (M_zbh 1 rfl).1.F T)⟩),(fun T=>one ⟨A.cl_zbg,(M_zbg 3 rfl).2,(M_zbg 3 rfl).1.fi (as1 K t) (a85 Z _ _ _ _ _ (M_zbg 3 rfl).1.F T)⟩),(fun T mi hm=>by
    simp only [Jq,aI,c7,or_false] at hm
    rcases hm with rfl|rfl
    . exact⟨A.cl_zbh,(M_zbh 2 rfl).2,(M_zbh 2 rfl).1.fi (as0 K t) (a79 Z _ _ _ _ _ (M_zbh 2 rfl).1.F (fun m h=>T m (aD h (show 1<=2 by decide))))⟩
    . exact⟨A.cl_zbi,(M_zbi 1 rfl).2,(M_zbi 1 rfl).1.fi (a57 K t) (a83 Z _ _ _ _ _ (M_zbi 1 rfl).1.F T)⟩
   ),(fun T=>one ⟨A.cl_zbg,(M_zbg 4 rfl).2,(M_zbg 4 rfl).1.fi (ar7 K t) (a71 Z _ _ _ _ _ (M_zbg 4 rfl).1.F T)⟩),(fun T=>one ⟨A.cl_zbg,(M_zbg 5 rfl).2,(M_zbg 5 rfl).1.fi (ar6 K t) (a68 Z _ _ _ _ _ (M_zbg 5 rfl).1.F T)⟩),(fun T=>one ⟨A.cl_zbg,(M_zbg 6 rfl).2,(M_zbg 6 rfl).1.fi (as2 K t) (a86 Z _ _ _ _ _ (M_zbg 6 rfl).1.F T)⟩),(fun T=>one ⟨A.cl_zbh,(M_zbh 3 rfl).2,(M_zbh 3 rfl).1.fi (ar8 K t) (a72 Z _ _ _ _ _ (M_zbh 3 rfl).1.F T)⟩),aX⟩ (AllE.app (Ni A.c) (Rv (AllG.pre (b:=[D_zba]) A.g) O))
  exact aw1 Z _ _ _ _ _ (G 36 rfl).F fun m _=>ai9 A.z E m
@[elab_as_elim] theorem ad6 {P:List ah->Prop} (h:∀ a b c d e f,P [a,b,c,d,e,f]):∀ us:List ah,us.length=6->P us
 | [a,b,c,d,e,f],_=>h a b c d e f
theorem all_mk {l:jP} {w:bB} {K:ac} {h:Heap} {mg:Str->Option ah} {fa f_io c_zbh c_zbi c_zbg f_zw f_zaa f_zt Td_zt:Addr} (X:K.In h) (G:h.Ns mainGlobals mg) (hfa:mg "law" = some (.ref fa))
  {od_zw an_zw od_zaa an_zaa od_zt an_zt td_zt:Option Addr} {sl_zw sl_zaa sl_zt ts_zt:Array (Option ah)} {oc_zw kV_zw dc_zw pm_zw cd_zw ct_zw oc_zaa kV_zaa dc_zaa pm_zaa cd_zaa ct_zaa oc_zt kV_zt dc_zt pm_zt cd_zt ct_zt tc_zt:ah}
  {tn_zt:Nat}
  (a_zbh:cM K mainGlobals "Plain" = some (some (.ref c_zbh)))
  (a_zbi:cM K mainGlobals "Book" = some (some (.ref c_zbi)))
  (a_zbg:cM K mainGlobals "Panel" = some (some (.ref c_zbg)))
  (in_zbh:aO K (.ref c_zbh) "__init__" = some (some (.ref f_zw)))
  (kp_zbh:ba K (.ref c_zbh)=true)
  (mk_zbh:bX K c_zbh=true)
  (pg_zbh:dv K c_zbh dX=true)
  (hd_zbh:dL K c_zbh=true)
  (po_zbh:eY K c_zbh=true)
  (sa_zbh:aO K (.ref c_zbh) "__setattr__" = some (some (.builtin "object.__setattr__")))
  (in_zbi:aO K (.ref c_zbi) "__init__" = some (some (.ref f_zaa)))
  (kp_zbi:ba K (.ref c_zbi)=true)
  (mk_zbi:bX K c_zbi=true)
  (pg_zbi:dv K c_zbi dX=true)
  (hd_zbi:dL K c_zbi=true)
  (po_zbi:eY K c_zbi=true)
  (sa_zbi:aO K (.ref c_zbi) "__setattr__" = some (some (.builtin "object.__setattr__")))
  (in_zbg:aO K (.ref c_zbg) "__init__" = some (some (.ref f_zt)))
  (kp_zbg:ba K (.ref c_zbg)=true)
  (mk_zbg:bX K c_zbg=true)
  (pg_zbg:dv K c_zbg dX=true)
  (hd_zbg:dL K c_zbg=true)
  (po_zbg:eY K c_zbg=true)
  (sa_zbg:aO K (.ref c_zbg) "__setattr__" = some (some (.builtin "object.__setattr__")))
  (l_zw:K.lookup f_zw=some ⟨oc_zw,od_zw,.func (cf "__init__" "Plain.__init__" (Bq D_zw.st) (A8 D_zw.st) (Am D_zw.st) .none kV_zw dc_zw pm_zw an_zw cd_zw ct_zw),sl_zw⟩)
  (k0_Plain_init:cU K cd_zw "Plain.__init__" = true)
  (k1_Plain_init:ba K (.ref f_zw)=true)
  (if_zw:cE K (.ref f_zw)=true)
  (l_zaa:K.lookup f_zaa=some ⟨oc_zaa,od_zaa,.func (cf "__init__" "Book.__init__" (Bq D_zaa.st) (A8 D_zaa.st) (Am D_zaa.st) .none kV_zaa dc_zaa pm_zaa an_zaa cd_zaa ct_zaa),sl_zaa⟩)
  (k0_Book_init:cU K cd_zaa "Book.__init__" = true)
  (k1_Book_init:ba K (.ref f_zaa)=true)
  (if_zaa:cE K (.ref f_zaa)=true)
  (l_zt:K.lookup f_zt=some ⟨oc_zt,od_zt,.func (cf "__init__" "Panel.__init__" (Bq D_zt.st) (A8 D_zt.st) (Am D_zt.st) (.ref Td_zt) kV_zt dc_zt pm_zt an_zt cd_zt ct_zt),sl_zt⟩)
  (k0_Panel_init:cU K cd_zt "Panel.__init__" = true)
  (k1_Panel_init:ba K (.ref f_zt)=true)
  (if_zt:cE K (.ref f_zt)=true)
  (ld_zt:K.lookup Td_zt=some ⟨tc_zt,td_zt,.seq #[.none] tn_zt,ts_zt⟩)
  (na_settings:aO K (.ref c_zbg) "settings" = some none)
  (na_tuples:aO K (.ref c_zbg) "tuples" = some none)
  (na_numbers:aO K (.ref c_zbg) "numbers" = some none)
  (na_sets:aO K (.ref c_zbg) "sets" = some none)
  (na_kept_rules:aO K (.ref c_zbg) "kept_rules" = some none)
  (na_bars:aO K (.ref c_zbg) "bars" = some none)
  (na_free:aO K (.ref c_zbg) "free" = some none)
  (nr:aO K (.ref c_zbh) "records" = some none)
  (np:aO K (.ref c_zbi) "panel" = some none)
  (nk:aO K (.ref c_zbi) "kept" = some none)
  (a_io:cM K mainGlobals "in_order" = some (some (.ref f_io)))
  (lm_io:Jl K f_io=true)
  (qT:am9 K a33)
  (qM_zbh:Nd K c_zbh Qg)
  (qM_zbi:Nd K c_zbi Qh)
  (qM_zbg:Nd K c_zbg Qf)
  (qC:V5 K cons)
  (qZ:an0 K bl)
  : ∃ (t:Adr) (fd:bo),(∀ (s:al) (v:ah),lq s fd ⟨[v],[]⟩ [("_law_script", v)]) /\ ∀ base:Heap,K.In base->base.Ns mainGlobals mg->FnOk l.prog w K mg base CX0 11 fa fd ["_law_script"] (M9 K t):=by
 obtain⟨_,_,d₀,_⟩:=qT.1
 obtain⟨f,d,g⟩:=Rw d₀ X G 0 qT (by (repeat' first|exact aX|refine⟨⟨rfl,fun _ _ _ _ _ _ us hl=>?_⟩,?_⟩|fail) <;> first|exact aX|exact X0 (fun _=>rfl) us hl|exact Uu (fun _ _=>rfl) us hl|exact X1 (fun _ _ _=>rfl) us hl|exact ad5 (fun _ _ _ _=>rfl) us hl|exact len5 (fun _ _ _ _ _=>rfl) us hl|exact ad6 (fun _ _ _ _ _ _=>rfl) us hl)
 obtain⟨m_zbh,e_zbh,g_zbh⟩:=Ho d₀ 0 qM_zbh (by (repeat' first|exact aX|refine⟨fun _ _ _ _ _ _ us hl=>?_,?_⟩|fail) <;> first|exact aX|exact X0 (fun _=>rfl) us hl|exact Uu (fun _ _=>rfl) us hl|exact X1 (fun _ _ _=>rfl) us hl|exact ad5 (fun _ _ _ _=>rfl) us hl|exact len5 (fun _ _ _ _ _=>rfl) us hl|exact ad6 (fun _ _ _ _ _ _=>rfl) us hl)
 obtain⟨m_zbi,e_zbi,g_zbi⟩:=Ho d₀ 0 qM_zbi (by (repeat' first|exact aX|refine⟨fun _ _ _ _ _ _ us hl=>?_,?_⟩|fail) <;> first|exact aX|exact X0 (fun _=>rfl) us hl|exact Uu (fun _ _=>rfl) us hl|exact X1 (fun _ _ _=>rfl) us hl|exact ad5 (fun _ _ _ _=>rfl) us hl|exact len5 (fun _ _ _ _ _=>rfl) us hl|exact ad6 (fun _ _ _ _ _ _=>rfl) us hl)
 obtain⟨m_zbg,e_zbg,g_zbg⟩:=Ho d₀ 0 qM_zbg (by (repeat' first|exact aX|refine⟨fun _ _ _ _ _ _ us hl=>?_,?_⟩|fail) <;> first|exact aX|exact X0 (fun _=>rfl) us hl|exact Uu (fun _ _=>rfl) us hl|exact X1 (fun _ _ _=>rfl) us hl|exact ad5 (fun _ _ _ _=>rfl) us hl|exact len5 (fun _ _ _ _ _=>rfl) us hl|exact ad6 (fun _ _ _ _ _ _=>rfl) us hl)
 obtain⟨u,gc⟩:=Ru X G 0 qC
 have F_zw:=Mf (st:=D_zw.st) l_zw k0_Plain_init k1_Plain_init
 have b_zw:=F_zw.binds (ps:=D_zw.ps) fun _ _ _ _ _ _ us hl=>X0 (fun _=>rfl) us hl
 have F_zaa:=Mf (st:=D_zaa.st) l_zaa k0_Book_init k1_Book_init
 have b_zaa:=F_zaa.binds (ps:=D_zaa.ps) fun _ _ _ _ _ _ us hl=>Uu (fun _ _=>rfl) us hl
 have F_zt:=ad0 (st:=D_zt.st) l_zt k0_Panel_init k1_Panel_init
 have b_zt:∀ j,j<=1->Binds K (cf "__init__" "Panel.__init__" (Bq D_zt.st) (A8 D_zt.st) (Am D_zt.st) (.ref Td_zt) kV_zt dc_zt pm_zt an_zt cd_zt ct_zt) D_zt.ps ([bw].drop j):=fun j hj=>by
  match j,hj with
  | 0,_=>exact G7 2 rfl ld_zt rfl rfl (fun us hl=>Uu (fun _ _=>⟨_,rfl,rfl⟩) us hl)
  | 1,_=>exact G7 3 rfl ld_zt rfl rfl (fun us hl=>X1 (fun _ _ _=>⟨_,rfl,rfl⟩) us hl)
 have AO:aj4 K mg ⟨f,d,u,f_zw,_,f_zaa,_,f_zt,_,.ref Td_zt,[bw],c_zbh,m_zbh,e_zbh,c_zbi,m_zbi,e_zbi,c_zbg,m_zbg,e_zbg⟩:=⟨g,g_zbh,eX X G a_zbh,kp_zbh,mk_zbh,in_zbh,⟨pg_zbh,hd_zbh,po_zbh,sa_zbh⟩,g_zbi,eX X G a_zbi,kp_zbi,mk_zbi,in_zbi,⟨pg_zbi,hd_zbi,po_zbi,sa_zbi⟩,g_zbg,eX X G a_zbg,kp_zbg,mk_zbg,in_zbg,⟨pg_zbg,hd_zbg,po_zbg,sa_zbg⟩,F_zw.toD,(fun j _=>by rw [kN];exact b_zw),.nil,if_zw,F_zaa.toD,(fun j _=>by rw [kN];exact b_zaa),.nil,if_zaa,F_zt,b_zt,(.cons rfl .nil),if_zt,gc,Rx X G qZ,⟨⟨⟨pg_zbg,hd_zbg,po_zbg,sa_zbg⟩,(fun f hf=>by
  simp only [aI,c7,or_false] at hf
  rcases hf with rfl|rfl|rfl|rfl|rfl|rfl|rfl <;> assumption)⟩,⟨pg_zbh,hd_zbh,po_zbh,sa_zbh⟩,nr,⟨pg_zbi,hd_zbi,po_zbi,sa_zbi⟩,np,nk,(by
  have m:=(g.get 29 (D:=D_zao) rfl).1.m
  have m2:=eX X G a_io
  have m3:some (bG (f (0+29)))=some (.ref f_io):=m.symm.trans m2
  injection m3 with m3
  injection m3 with m3
  show Jl K (f (0+29))=true
  rw [m3]
  exact lm_io)⟩⟩
 have gl:=g.get 36 (D:=D_zba) rfl
 have e:fa=f (0+36):=by
  have m:=gl.1.m
  rw [hfa] at m
  injection m with m
  injection m
 subst e
 exact⟨_,_,fun s v=>gl.2 s [v] rfl,fun base _ _=>at3 AO⟩
theorem a61 {K:ac} {f:Addr} (h:Jl K f=true):∃ c,du K c 266=true:=by
 unfold Jl at h
 split at h
 ·split at h
  ·exact⟨_,h⟩
  ·cases h
 ·cases h
noncomputable def sp0 (K:ac):Sp:=fun vs H Q _=>∃ (a:Addr) (ns:List Int),vs=[.ref a]/\SqL K H a (ns.map V.int)/\ns.length<=63/\St0 H /\ ∀ H',Q (.bl true) H'
theorem walk {l:jP} {q:aS} {loose:List Str} {XP:(Str->Option ah)->Heap->Prop} {YP:bB->Heap->Prop} {d:DefRec} {K:Params->ac} {fo:Addr} (hn:l.most=some 63) (hdf:d.params.defaults=[])
  (hY:∀ (w:bB) (h:Heap),YP w h->(K w.params).In h/\h.get? 266=some (fh #[]))
  (h1:∀ w:bB,cM (K w.params) mainGlobals "in_order" = some (some (.ref fo))) (h2:∀ w:bB,cM (K w.params) mainGlobals "__builtins__" = some (some (.ref 4)))
  (h3:∀ w:bB,Jl (K w.params) fo=true) (h4:∀ w:bB,(K w.params).lookup 266=none) (h5:∀ w:bB,(K w.params).lookup 4=none) (h6:∀ w:bB,((K w.params).all fun p=>!(p.2.cls==fC "list"))=true)
  (F:∀ (w:bB) (mg:Str->Option ah) (fa:Addr) (h:Heap),(K w.params).In h->h.Ns mainGlobals mg->mg d.name=some (.ref fa) ->
   ∃ (t:Adr) (fd:bo),(∀ (s:al) (u:ah),lq s fd ⟨[u],[]⟩ [("_law_script", u)]) /\ ∀ base:Heap,(K w.params).In base->base.Ns mainGlobals mg->FnOk l.prog w (K w.params) mg base CX0 11 fa fd ["_law_script"] (M9 (K w.params) t)) :
  PySem.W.WalkO q loose XP YP l.row.toRowW d [] (fun f vs=>PySem.call f vs):=
 L2.walk_ofT (n:=63) (k:=11) (x := "_law_script") (Pt:=266) (bm:=4) (sp:=fun w=>sp0 (K w.params)) (fun _ _=>aX) hn (by decide) hdf ⟨rfl,by decide,by decide⟩ hY (fun w=>⟨a61 (h3 w),h4 w,h5 w,h2 w,h6 w⟩) (fun w mg fa h a b c=>let ⟨t,fd,h1,h2⟩:=F w mg fa h a b c;⟨fd,h1,fun base x y=>(h2 base x y).imp fun vs H Q E z=>z⟩) fun w H a ns hl hs hS=>⟨a,ns,rfl,hS,hl,hs,fun _=>rfl⟩
end K33
open PySem PySem.W PyProof.Rows
end
set_option maxRecDepth 100000 in
set_option maxHeartbeats 0 in
theorem PySem.Challenge.cw_manyleaf_k33_different_books_holds : PySem.Challenge.rw_manyleaf_k33_different_books.Holds := by
 refine head_k33 ?_
 k_fill
 refine' K33.walk (l:=PySem.Challenge.rw_manyleaf_k33_different_books) rfl rfl (fun w h Y=>⟨PySem.W.km_in_of Y,PySem.W.km_tabs_of Y 266 (by decide)⟩) ?h1 ?h2 ?h3 ?h4 ?h5 ?h6 ?F
 case h1=>intro w;k_is
 case h2=>intro w;k_is
 case h3=>intro w;kernel_rfl
 case h4=>intro w;kernel_rfl
 case h5=>intro w;kernel_rfl
 case h6=>intro w;kernel_rfl
 case F=>
  intro w mg fa h KX G hmg
  refine' K33.all_mk KX G hmg ?a_zbh ?a_zbi ?a_zbg ?in_zbh ?kp_zbh ?mk_zbh ?pg_zbh ?hd_zbh ?po_zbh ?sa_zbh ?in_zbi ?kp_zbi ?mk_zbi ?pg_zbi ?hd_zbi ?po_zbi ?sa_zbi ?in_zbg ?kp_zbg ?mk_zbg ?pg_zbg ?hd_zbg ?po_zbg ?sa_zbg ?l_zw ?k0_Plain_init ?k1_Plain_init ?if_zw ?l_zaa ?k0_Book_init ?k1_Book_init ?if_zaa ?l_zt ?k0_Panel_init ?k1_Panel_init ?if_zt ?ld_zt ?na_settings ?na_tuples ?na_numbers ?na_sets ?na_kept_rules ?na_bars ?na_free ?nr ?np ?nk ?a_io ?lm_io ?qT ?qM_zbh ?qM_zbi ?qM_zbg ?qC ?qZ
  all_goals try k_is
  (case lm_io=>kernel_rfl)
  (case qT=>(repeat' first|exact True.intro|refine' ⟨⟨_,L2.top_mk ?_ ?_ ?_ ?_⟩,?_⟩|fail) <;> try k_is)
  (case qM_zbh=>(repeat' first|exact True.intro|refine' ⟨⟨_,?_,L2.met_mk ?_ ?_ ?_ ?_⟩,?_⟩|fail) <;> try k_is)
  (case qM_zbi=>(repeat' first|exact True.intro|refine' ⟨⟨_,?_,L2.met_mk ?_ ?_ ?_ ?_⟩,?_⟩|fail) <;> try k_is)
  (case qM_zbg=>(repeat' first|exact True.intro|refine' ⟨⟨_,?_,L2.met_mk ?_ ?_ ?_ ?_⟩,?_⟩|fail) <;> try k_is)
  (case qC=>(repeat' first|exact True.intro|refine' ⟨L2.con_mk ?_ ?_,?_⟩|fail) <;> first|k_is|exact⟨_,rfl⟩|exact rfl|skip)
  (case qZ=>(repeat' first|exact True.intro|refine' ⟨?_,?_⟩|fail) <;> try k_is)
#print axioms PySem.Challenge.cw_manyleaf_k33_different_books_holds
