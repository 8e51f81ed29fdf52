import PyProof.Rows.All
import Wide.All
import OpenK.AllK
import Wide.FinOn
import PyProof.ToksMono
import Lean
import PyProof.EqAt
import PyProof.EqKinds
import PyProof.TupleCall
import PyProof.NeKinds
import PyProof.ZipIter
import PyProof.StrWalks
import PyProof.ConsumeWalk
import PyProof.ExcArgs
import PyProof.ExcBaseAll.ValueError
import KE.KIsAll
import PyProof.EnumFor
import PyProof.EnumMake
import PyProof.EnumStmt
import PyProof.Rows.EnumRows
import PyProof.DictWalks
import PyProof.Rows.SetFrom
import PyProof.DictItems
import KE.KDictList
import PyProof.TupleIter
import PyProof.RulesRaise
import PyProof.RulesTry
import PyProof.MeetsIn
import KE.KEqDict
import PyProof.StrOps2
import PyProof.StrCalls6
import PyProof.ListMulRoad
import PyProof.FactsAll.tuple
import KE.KDictOf
import KE.KSortTup
import KE.KSortKey
import PyProof.Rows.Range3
import PyProof.Rows.ChunkLeaf
import KE.KRevIter
import PyProof.StationsW
import PyProof.PassesOwn
import PyProof.NsDelKeeps
import PySem.Challenge.RW_manyleaf_k23_plain_books
set_option Elab.async false
set_option linter.all false
set_option maxRecDepth 100000
section
open PySem PySem.W PyProof.Rows
set_option maxRecDepth 100000
set_option maxHeartbeats 0
noncomputable def PySem.W.Fast.tw10169075281087314239:Unit:=()
noncomputable def PySem.W.Fast.tw11016564882788081204:Unit:=()
noncomputable def PySem.W.Fast.tw11396922735558193281:Unit:=()
noncomputable def PySem.W.Fast.tw12873377817330930246:Unit:=()
noncomputable def PySem.W.Fast.tw13071836554489283872:Unit:=()
noncomputable def PySem.W.Fast.tw13170234288705994800:Unit:=()
noncomputable def PySem.W.Fast.tw13296045644301237894:Unit:=()
noncomputable def PySem.W.Fast.tw13557027457012302606:Unit:=()
noncomputable def PySem.W.Fast.tw1406666764573517679:Unit:=()
noncomputable def PySem.W.Fast.tw14592860682801004943:Unit:=()
noncomputable def PySem.W.Fast.tw15168532519710445440:Unit:=()
noncomputable def PySem.W.Fast.tw15257438254905082113:Unit:=()
noncomputable def PySem.W.Fast.tw16045223441702802146:Unit:=()
noncomputable def PySem.W.Fast.tw16147959822371989001:Unit:=()
noncomputable def PySem.W.Fast.tw16385288027566199295:Unit:=()
noncomputable def PySem.W.Fast.tw16765690050474613419:Unit:=()
noncomputable def PySem.W.Fast.tw16810047327598187986:Unit:=()
noncomputable def PySem.W.Fast.tw16947195817528858249:Unit:=()
noncomputable def PySem.W.Fast.tw17294941857254659539:Unit:=()
noncomputable def PySem.W.Fast.tw17613559267716287433:Unit:=()
noncomputable def PySem.W.Fast.tw17966064976562443264:Unit:=()
noncomputable def PySem.W.Fast.tw266711939179701934:Unit:=()
noncomputable def PySem.W.Fast.tw285431346002849543:Unit:=()
noncomputable def PySem.W.Fast.tw2874373592313890249:Unit:=()
noncomputable def PySem.W.Fast.tw29268262998072092:Unit:=()
noncomputable def PySem.W.Fast.tw3088417198443378237:Unit:=()
noncomputable def PySem.W.Fast.tw3470633742407639281:Unit:=()
noncomputable def PySem.W.Fast.tw3648050161895673716:Unit:=()
noncomputable def PySem.W.Fast.tw3662930973059584069:Unit:=()
noncomputable def PySem.W.Fast.tw4552993897704342873:Unit:=()
noncomputable def PySem.W.Fast.tw4608412271475063377:Unit:=()
noncomputable def PySem.W.Fast.tw4669933664399933149:Unit:=()
noncomputable def PySem.W.Fast.tw4742902519710975647:Unit:=()
noncomputable def PySem.W.Fast.tw4887188298274689715:Unit:=()
noncomputable def PySem.W.Fast.tw4992629466320899720:Unit:=()
noncomputable def PySem.W.Fast.tw5382205747343521224:Unit:=()
noncomputable def PySem.W.Fast.tw5826854872701983604:Unit:=()
noncomputable def PySem.W.Fast.tw5831282956671219864:Unit:=()
noncomputable def PySem.W.Fast.tw5961399348850940305:Unit:=()
noncomputable def PySem.W.Fast.tw6812397579712639161:Unit:=()
noncomputable def PySem.W.Fast.tw6826117590985300920:Unit:=()
noncomputable def PySem.W.Fast.tw6931496191450069277:Unit:=()
noncomputable def PySem.W.Fast.tw7490303619313321196:Unit:=()
noncomputable def PySem.W.Fast.tw7750693623351133949:Unit:=()
noncomputable def PySem.W.Fast.tw8152640256073588386:Unit:=()
noncomputable def PySem.W.Fast.tw858281474331559316:Unit:=()
noncomputable def PySem.W.Fast.tw8744765399676850300:Unit:=()
noncomputable def PySem.W.Fast.tw9001117418399651064:Unit:=()
noncomputable def PySem.W.Fast.tw9243165162048663862:Unit:=()
noncomputable def PySem.W.Fast.tw9284062578232551700:Unit:=()
noncomputable def PySem.W.Fast.tw9391882964787257814:Unit:=()
noncomputable def PySem.W.Fast.tw9392692493694412867:Unit:=()
noncomputable def PySem.W.Fast.tw9555221092839144935:Unit:=()
noncomputable def PySem.W.Fast.tw9736705618602332145:Unit:=()
noncomputable def PySem.W.Fast.tw1125197622953828343:Unit:=()
noncomputable def PySem.W.Fast.tw4291473985164321601:Unit:=()
noncomputable def PySem.W.Fast.tw18003163251490651395:Unit:=()
noncomputable def PySem.W.Fast.tw4073920561456557478:Unit:=()
noncomputable def PySem.W.Fast.tw11743461242112387699:Unit:=()
noncomputable def PySem.W.Fast.tw7491441852435381134:Unit:=()
noncomputable def PySem.W.Fast.tw11430387489217704059:Unit:=()
noncomputable def PySem.W.Fast.tw2682654806533584717:Unit:=()
noncomputable def PySem.W.Fast.tw9357896236757206899:Unit:=()
noncomputable def PySem.W.Fast.tw11544026265201356673:Unit:=()
noncomputable def PySem.W.Fast.tw9514078758292687063:Unit:=()
noncomputable def PySem.W.Fast.tw4826168632515719667:Unit:=()
noncomputable def PySem.W.Fast.tw9034206530735946897:Unit:=()
noncomputable def PySem.W.Fast.tw11659786916520760106:Unit:=()
noncomputable def PySem.W.Fast.tw3327244327756472520:Unit:=()
noncomputable def PySem.W.Fast.tw4936081606510428443:Unit:=()
noncomputable def PySem.W.Fast.tw9438715206109106797:Unit:=()
noncomputable def PySem.W.Fast.tw12943790297112853630:Unit:=()
noncomputable def PySem.W.Fast.tw13784338572639025636:Unit:=()
noncomputable def PySem.W.Fast.tw3776251611440004205:Unit:=()
noncomputable def PySem.W.Fast.tw14821706746830111700:Unit:=()
noncomputable def PySem.W.Fast.tw1615446847134572563:Unit:=()
noncomputable def PySem.W.Fast.tw13020767033698663678:Unit:=()
noncomputable def PySem.W.Fast.tw6169158567212159784:Unit:=()
noncomputable def PySem.W.Fast.tw10462975713858653158:Unit:=()
noncomputable def PySem.W.Fast.tw16979792271001710606:Unit:=()
noncomputable def PySem.W.Fast.tw11018807679761477236:Unit:=()
noncomputable def PySem.W.Fast.tw11630625626821959658:Unit:=()
noncomputable def PySem.W.Fast.tw11150627499095422274:Unit:=()
noncomputable def PySem.W.Fast.tw9773252928648384193:Unit:=()
noncomputable def PySem.W.Fast.tw5866449153281873726:Unit:=()
noncomputable def PySem.W.Fast.tw6459400102914913313:Unit:=()
noncomputable def PySem.W.Fast.tw5416775603006766398:Unit:=()
noncomputable def PySem.W.Fast.tw15788019807282264123:Unit:=()
noncomputable def PySem.W.Fast.tw883068935824673666:Unit:=()
noncomputable def PySem.W.Fast.tw17016547830072468021:Unit:=()
noncomputable def PySem.W.Fast.tw11560964230710677161:Unit:=()
noncomputable def PySem.W.Fast.tw335397344558525816:Unit:=()
noncomputable def PySem.W.Fast.tw15891641381054421585:Unit:=()
noncomputable def PySem.W.Fast.tw14618687118856213118:Unit:=()
noncomputable def PySem.W.Fast.tw16650992190373289410:Unit:=()
noncomputable def PySem.W.Fast.tw5428695284844493151:Unit:=()
noncomputable def PySem.W.Fast.tw12533037404753108243:Unit:=()
noncomputable def PySem.W.Fast.tw7253600249897422303:Unit:=()
noncomputable def PySem.W.Fast.tw9487117214966900148:Unit:=()
noncomputable def PySem.W.Fast.tw12360910148632287527:Unit:=()
noncomputable def PySem.W.Fast.tw8431740098304760483:Unit:=()
noncomputable def PySem.W.Fast.tw2251201832168845279:Unit:=()
noncomputable def PySem.W.Fast.tw9194771800840957326:Unit:=()
noncomputable def PySem.W.Fast.tw10355370673312116920:Unit:=()
open_top head_k23 for PySem.Challenge.rw_manyleaf_k23_plain_books
end
section
open Array renaming length_toList→aZ,getElem?_eq_getElem→bw,getElem?_toList→bJ,getElem?_setIfInBounds_ne→cW,getD_eq_getD_getElem?→dF,getElem?_eq_some_iff→dI,size_setIfInBounds→d8,getElem?_setIfInBounds_self_of_lt→fJ,getElem?_eq_none→gP,perm_iff_toList_perm→iV,map→jk
open Bool renaming false_ne_true→ak,and_eq_true→aw,false_eq_true→cf,eq_false_iff→cJ,beq_eq_decide_eq→dO,or_eq_true→d9,and_false→fw,or_true→fK,eq_iff_iff→iG,not_eq_true'→jl,and_eq_false_iff→j_,false_and→kU,or_false→lL
open Classical renaming byContradiction→i8
open False renaming elim→cA
open ForInStep renaming yield→fO
open Int renaming toNat_natCast→bW,emod_lt_of_pos→b5,emod_nonneg→ck,eq_ofNat_of_zero_le→gI,toNat→mM
open LawfulBEq renaming eq_of_beq→cv
open List renaming length_map→ag,getElem?_eq_getElem→aj,size_toArray→am,getD_eq_getElem?_getD→av,getElem?_map→aA,mem_cons→aF,length_append→aI,mem_cons_of_mem→aJ,map_cons→aP,getElem?_eq_some_iff→aQ,length_cons→aR,mem_of_getElem?→aY,length_take→a_,map_append→ba,mem_singleton→bb,mem_append_right→bn,mem_cons_self→bx,nodup_cons→bA,mem_map_of_mem→bC,getElem?_cons_succ→bD,all_cons→bF,contains_cons→bM,not_mem_nil→bN,take_add_one→bP,mem_append→bQ,take_length→bV,length_reverse→b8,length_filter_le→cm,length_singleton→cq,all_eq_true→cy,filter_cons_of_neg→cB,filter_cons_of_pos→cC,mem_map→cK,range→cL,append_nil→cO,getElem_mem→cR,map_map→cS,getElem?_append_right→cU,append_assoc→cX,filter_sublist→cY,find?_cons→c5,filter_append→c_,getElem?_cons_zero→dw,map_congr_left→dH,cons_append→dM,getElem?_append_left→dW,mem_range→dX,mem_append_left→d7,mem_filter→eI,toArray→eR,flatMap_append→eV,lookup→eW,eq_nil_of_length_eq_zero→ft,length_drop→fu,pairwise_cons→fG,getElem?_eq_none→fP,length_range→fV,nodup_append→fW,nodup_nil→f_,length→gr,any_cons→gJ,drop_of_length_le→gQ,getElem?_set_self→gR,eraseIdxIfInBounds_toArray→gW,Perm→g_,getElem?_toArray→hV,map_nil→hW,any_eq_true→ig,map_reverse→ii,getElem?_set_ne→ir,mem_of_mem_take→iu,map→iA,map_take→iB,filterMap_cons→iJ,filter_nil→iK,length_pos_iff→iL,length_eraseIdx_of_lt→iZ,mem_filterMap→i4,flatMap_cons→jm,length_erase_of_mem→jn,take_sublist→jo,mem_flatMap→jM,flatMap_singleton→jX,take_of_length_le→jY,getElem?_reverse→kg,length_set→kh,of_mem_zip→kj,range_succ→km,singleton_append→ko,take_append_drop→kq,mem_erase_of_ne→kN,reverse_reverse→kO,replicate→kW,reverse_append→la,Pairwise→lN
open List.Perm renaming refl→i9
open Nat renaming le_refl→ae,ne_of_lt→aE,lt_of_lt_of_le→aO,le_trans→aS,le_add_right→bi,zero_le→bo,lt_of_le_of_lt→b6,le_succ→ce,lt_succ_of_lt→cM,lt_succ_self→cT,ne_of_gt→dz,lt_irrefl→eY,le_of_lt→fQ,succ_le_succ→ge,max_le→gC,zero_add→hX,lt_trans→i5,exists_eq_add_of_le→jC,succ_ne_self→jN,le_of_ble_eq_true→kr,le_of_eq→ku
open Ne renaming symm→bO
open Option renaming map_eq_some_iff→aX,some→be,bind_some→cH,isSome_iff_exists→dj,map_some→gK,isSome_map→jq
open Option.some renaming inj→aU,injEq→jr
open Or renaming inl→kX
open PyProof renaming noPylong_small→jZ
open PyProof.Rows renaming seqObj→bj,callWith_type1→bX,slot_tuple_getitem→bY,get?_update_seq→eM,listUpdate_at→fm,boot_list→gT,callWith_builtin1→h_,seqEpoch_at→iQ,tail_of_ItemOn→jf,size_push'→jw,AllBare→jz,boot_tuple→jD,subscriptTail_builtinR→j6,boot_int→kx,listItems_at→kG,entry_proto_collect'→kT,subscriptTail→lZ,collect_list→mC,envOfC→mE,keyKind'→mI,bubble→ni,IntsAre→np,general'→nz,tail_any→nC,IsTup→nF
open PyProof.Rows.F renaming plain_set_update_loop→gH,entry_set_update_loop→jB
open PyProof.Rows.SortSt renaming mk'→mh
open PySem renaming wpAny_bind→ac,wpAny_pure→ah,Shared→ai,wpAny→aG,FuncData→aH,Program→aK,Builtin→aT,Around→bg,wpAny_holding→bp,Spec→bq,mainGlobals→br,World→bt,wpAny_loadPart_at→bu,sizeLine_eq→bv,wpAny_with_toks→bE,wpAny_Call_Name_kw→bI,wpAny_mono→bL,SetTable→bU,wpAny_newObj_type→b0,mem_of_lookup→b9,wpAny_field→b_,compareOp→cg,wpAny_isSubtype_exc→cw,wpAny_callSpecial?_slot→cE,NameKind→cF,wpAny_setField→cG,wpAny_call_entry→cI,bootBuiltins→cN,starEach→cV,sysModules→c4,codeAny_builtin→c7,wpAny_ite_split→c8,tupleKind_room_in1→dm,codeAny_call_builtin→dv,assignEach→dE,wpAny_call→dN,behindInMarks→dR,wpAny_standAt→dS,rawInt→dZ,codeAny→eK,wpAny_passesOwn→eO,wpAny_setState_of→eP,wpAny_truthy_bool→eQ,Within→eT,codeAny_mono→eU,excClassObj→fj,wpAny_attempt→fq,wpAny_askSetting→fv,typeLookup→fC,wpAny_setField_rec→fI,builtinLookup_eq_fast→fS,call_meetsIn→fT,foldedSetIterable→fX,wpAny_newList→fY,wpAny_pyIter_dict→fZ,pickOrder→gd,binaryOp→gn,checkBuiltinCall→gp,wpAny_rule→gG,plainId_quiet→gN,wpAny_updateSeq→gO,atKey_none_of_get→gY,isInstance→gZ,sliceBounds→g6,wpAny_pyIter_enum→g8,wpAny_newTuple→g9,PassesOwn→hZ,wpAny_typeOf→ic,valueAt→il,wpAny_isInstance→im,wpAny_typeNameOfWhole_keyiter→ip,Paired→iw,wpAny_pyIter_revIter→iy,codeAny_of_tree→iN,letOwnedTupleGo→iP,tupleKind→iR,typeLookup_type→iS,wpAny_execs_nil→iT,wpAny_setEntries_of→iU,wpAny_letOwnedTupleGo_enum→i0,GenState→i3,pyNext→i7,codeAny_call_builtin_code→jb,firstArgMember→jc,isSubtype_type→jd,relabel→je,wpAny_check_type_call_sub→jg,wpAny_fieldsOf→jh,wpAny_loadPart→ji,wpAny_runValue→jj,backTo→jv,swapsWith→jx,wpAny_typeNameOf_keyiter→jy,attributeBase→jI,bindSpecial→jJ,codeAny_call_builtin_at→jK,setField→jL,noFill_tuple_add→jQ,pastItsLine_dict→jR,wpAny_lookBehind→jS,wpAny_madeBy_exc→jT,codeAny_handlers_suite→j5,wpAny_pyIter_rangeiter→j7,wpAny_pyNext_dict_item→j8,wpAny_pyNext_range_end→j9,IsEnum→ke,codeAny_handlers_test→kE,setFlight→kI,wpAny_isTrue_Compare1→kJ,wpAny_specialOf→kK,call_meets→kL,relayAll→kM,codeAny_extend_loopS→kR,Result→kY,dictSetDefault→kZ,wpAny_notIn_of→k4,IsRangeIter→k_,collect→lx,getAttr→lE,getItem→lF,keywordEach→lG,standAt→lH,wpAny_handleBy_cons→lI,wpAny_of_eq→lJ,wpAny_throw→lK,IsPart→lM,bindArgs→lU,call_reversed_list→lV,noteFrame→lX,seq_tuple_add→lY,swapsWithSole→l_,updateSeq→ma,wpAny_handled→md,wpAny_pyIter_range→mf,callerA→mj,notedBy→mk,setsByText→mn,wpAny_load→mo,assign→mx,concat_meets→mD,seqIndex_neg→mF,wpAny_nsSet1→mG,atKey→mH,raiseNew→mJ,BindsTo→mK,CmpOp→mL,Keyword→mN,Fin→mO,onTheHeap→mS,pyIter→mT,raiseStmt→mU,seqIndex_of→mV,seqItems?→mW,setAttr→mX,storedH_new→mY,wpAny_in_of→mZ,wpAny_letGo→m_,Walks→ng,revObj→nj,Operator→nq,backToKw→nr,compEnvC→nt,entryFor→nv,frameOf→nw,holding→nA,unaryOp→nE,Model→nG
open PySem.Around renaming under_plainId→d6,under→mq
open PySem.Builtin.List renaming listExtendWith→cj,listLengthHint→dG,listSameRef→d_,listTooLong→gB,listItems→jU
open PySem.Builtin.Range renaming rangeSize→cz,small→k9
open PySem.Builtin.Slice renaming slicePlaces→dU,sliceAdjust→f6,sliceApplied→iW
open PySem.Builtin.SmallTypes renaming nextOf→bK,ownedTupleHandOut→f9,ownedTupleIsFree→gq
open PySem.Builtin.Tuple renaming tupleExact→eE,tupleItemsOf→iX
open PySem.Calls renaming spliced_cons→fF,spliced_nil→fU,Name_function_global→iY,callWith_builtin→jV
open PySem.Code renaming quiet_builtin→c9,isFrame→mr
open PySem.EntryCells renaming newEntry→iH
open PySem.F renaming excBase_ValueError→dJ,slot_dict_get→dP,plain_extend_loop→dY,plainAttrs_dict→eZ,plainAttrs_list→e_,entry_dict_get→fE,slot_dict_setdefault→fH,called_set→fM,slot_enumerate_next→fN,args_tuple_add_2→gE,entry_tuple_add→gL,slot_tuple_add→gU,args_dict_setdefault_3→ia,entry_dict_setdefault→ij,slot_dict_keyiterator_next→iz,slot_dict_getitem→i_,args_enumerate_next_1→jA,args_dict_get_2→jE,args_dict_get_3→jF,plain_list_iadd→jG,slot_dict_clear→jH,entry_enumerate_next→jW,slot_dict_pop→ky
open PySem.Heap renaming get?_push_of_some→af,get?_push_size→aq,lt_size→au,get?_update_other→aN,get?_update_self→aW,SameBut→a9,size_push→cx,size_update→ie,get?_none_of_le→iq,get?_update_ne→iI
open PySem.Heap.IsRevIter renaming typeIs→kc
open PySem.Heap.SameBut renaming update→bB
open PySem.NameKind renaming free→eX
open PySem.Obj renaming mapSeq→a0,mapFields→bc,isFreed_of_fields→bR,data_mapFields→b7,cls_mapFields→jp,data_mapDictKeys→kP
open PySem.Paired renaming length→iC
open PySem.Sem renaming wp_bind'→mw
open PySem.SeqAt renaming EqAt→bz,RcNeAt→gF,RcAt→ju
open PySem.SeqAt.EqAt renaming int_none→lj,none_int→lm,none_str→lq,str_none→lv,int_str→lQ,str_int→lT
open PySem.SetTable renaming below→dB,grown→fB
open PySem.Str renaming ofString→cr,empty→cQ
open PySem.Txt renaming slice→mP
open PySem.Value renaming ref→aM,none→bh,type→cZ,builtin→dy,isStrOf_shape→gA,str→ib,isStrOf→iE,bool→iF,int→kD,isInt→mQ
open PySem.W renaming Frag→aa,findIn→ar,keepIn→aV,emptyDict→bG,instObj→bS,nsIn→bT,kia_one→bZ,fnOf→cb,methodObj→cD,makesIn→cP,isFn→c6,looks_findIn→du,codeIn→dA,specialIn→dD,callWith_K→dQ,mg_of→ff,plainGet_of→fh,kitOne→fz,takesIn→fR,InstAt→gc,handedIn→gh,plainGet→gj,callWith_K0→gu,mroIn→gM,hasDictIn→gX,Looks→iD,copiedNames→iM,kas_place→iO,lookIn→ja,kitx_list→js,plainOver→jt,kdl_dict→jO,makes_of→jP,cellsFrom_some→j0,KatTups→kz,OpenLaw→kA,kas_ask→kB,takerIn→kC,kas_rev→kF,handedOut_of→kQ,findObj_own→lc,looks_mroIn→lg,kitx_tuple→lO,looks_find→lP,kas_desc→lW,clsIn→mR,kas_asc→nB
open PySem.pickOrder renaming go→kH
open Sum renaming inr→eJ,inl→lw
open Sum.inr renaming inj→gw
open True renaming intro→bH
namespace L2
open PySem PySem.Spec PyProof.Rows
noncomputable abbrev Key:=Sum Int Str
noncomputable def Gs:Key->Value->Bool
 | .inl k,v=>mQ k v
 | .inr x,v=>iE x v
noncomputable def bl6 (w:bt):Key->Int
 | .inl k=>hashInt k
 | .inr x=>hashStr w x
theorem Az:∀ {k:Key} {v:Value},Gs k v=true->(∃ i t,k=lw i/\v=kD i t)\/(∃ x t,k=eJ x/\v=ib x t)
 | .inl i,v,h=>by
  obtain⟨t,e⟩:=Value.isInt_shape (k:=i) (v:=v) h
  exact .inl ⟨i,t,rfl,e⟩
 | .inr x,v,h=>by
  obtain⟨t,e⟩:=gA (x:=x) (v:=v) h
  exact .inr ⟨x,t,rfl,e⟩
theorem Wd (i:Int) (t:Tok):Gs (.inl i) (.int i t)=true:=by simp [Gs,mQ]
theorem We (x:Str) (t:Tok):Gs (.inr x) (.str x t)=true:=by simp [Gs,iE]
theorem a36 (a b:Int):decide ((lw a:Key)=lw b)=(a==b):=by
 by_cases e:a=b
 ·subst e;simp
 ·have h:¬ (lw a:Key)=lw b:=fun q=>e (Sum.inl.inj q)
  rw [decide_eq_false h]
  exact (beq_eq_false_iff_ne.mpr e).symm
theorem a39 (a b:Str):decide ((eJ a:Key)=eJ b)=decide (a=b):=by
 by_cases e:a=b
 ·subst e;simp
 ·have h:¬ (eJ a:Key)=eJ b:=fun q=>e (gw q)
  rw [decide_eq_false h,decide_eq_false e]
theorem a37 (a:Int) (b:Str):decide ((lw a:Key)=eJ b)=false:=decide_eq_false (fun q=>nomatch q)
theorem a38 (a:Str) (b:Int):decide ((eJ a:Key)=lw b)=false:=decide_eq_false (fun q=>nomatch q)
noncomputable def Ap (prog:aK) (w:bt):PySem.KeyKind prog w Key where
 is:=Gs
 hash:=bl6 w
 inj:=fun v a b ha hb=>by
  rcases Az ha with ⟨i,t,rfl,rfl⟩|⟨x,t,rfl,rfl⟩
  ·rcases Az hb with ⟨j,u,rfl,e⟩|⟨y,u,rfl,e⟩
   ·injection e with e1 _;rw [e1]
   ·exact nomatch e
  ·rcases Az hb with ⟨j,u,rfl,e⟩|⟨y,u,rfl,e⟩
   ·exact nomatch e
   ·injection e with e1 _;rw [e1]
 byValue:=fun k v h=>by
  rcases Az h with ⟨i,t,rfl,rfl⟩|⟨x,t,rfl,rfl⟩ <;> rfl
 pyHash:=fun hv h=>by
  rcases Az hv with ⟨i,t,rfl,rfl⟩|⟨x,t,rfl,rfl⟩
  ·exact wpAny_pyHash_int h
  ·exact wpAny_pyHash_str h
 eqBool:=fun hu hv h=>by
  rcases Az hu with ⟨i,t,rfl,rfl⟩|⟨x,t,rfl,rfl⟩
  ·rcases Az hv with ⟨j,u,rfl,rfl⟩|⟨y,u,rfl,rfl⟩
   ·rw [a36] at h;exact wpAny_eqBool_int h
   ·rw [a37] at h;exact lQ i t y u _ _ _ _ h
  ·rcases Az hv with ⟨j,u,rfl,rfl⟩|⟨y,u,rfl,rfl⟩
   ·rw [a38] at h;exact lT x t j u _ _ _ _ h
   ·rw [a39] at h;exact wpAny_eqBool_str h
 «strs»:=fun k x t v h=>by
  rcases Az h with ⟨i,u,rfl,e⟩|⟨y,u,rfl,e⟩
  ·exact nomatch e
  ·injection e with e1 _
   subst e1
   cases v <;> rfl
theorem Os (prog:aK) (w:bt) (i:Int) (t:Tok):(Ap prog w).is (.inl i) (.int i t)=true:=Wd i t
theorem Ot (prog:aK) (w:bt) (x:Str) (t:Tok):(Ap prog w).is (.inr x) (.str x t)=true:=We x t
inductive V where
 | non|bl (b:Bool)|int (i:Int)|str (x:Str)|byt (b:Array UInt8)|stk (x:Str) (n:Nat) (ex:Bool)|ref (a:Addr)|ty (n:String)
 deriving DecidableEq
noncomputable def RelV:V->Value->Prop
 | .non,u=>u=bh
 | .bl b,u=>u=iF b
 | .int i,u=>∃ t,u=kD i t
 | .str x,u=>∃ t,u=ib x t
 | .byt b,u=>∃ t,u=Value.bytes b t
 | .stk x n ex,u=>∃ t,u=ib x t/\(if ex=true then t=n else n<=t)
 | .ref a,u=>u=aM a
 | .ty n,u=>u=cZ n
noncomputable def V.pl:V->Bool
 | .stk _ _ _=>false
 | _=>true
noncomputable abbrev Vals:List V->List Value->Prop:=iw RelV
theorem Vals.length {xs:List V} {us:List Value} (r:Vals xs us):xs.length=us.length:=iC r
theorem Vals.get:∀ {xs:List V} {us:List Value} {i:Nat} {x:V},Vals xs us->xs[i]? = some x -> ∃ u,us[i]? = some u/\RelV x u
 | _,_,_,_,.nil,e=>by simp at e
 | _,_,0,_,.cons r _,e=>by simp at e;subst e;exact⟨_,rfl,r⟩
 | _,_,i+1,x,.cons _ t,e=>by
  obtain⟨u,h1,h2⟩:=Vals.get (i:=i) (x:=x) t (by simpa using e)
  exact⟨u,by simpa using h1,h2⟩
theorem Vals.set {x:V} {u:Value} (r:RelV x u):∀ {xs:List V} {us:List Value} (i:Nat),Vals xs us->Vals (xs.set i x) (us.set i u)
 | _,_,_,.nil=>.nil
 | _,_,0,.cons _ t=>.cons r t
 | _,_,i+1,.cons q t=>.cons q (Vals.set r i t)
theorem Vals.append:∀ {xs ys:List V} {us ws:List Value},Vals xs us->Vals ys ws->Vals (xs++ys) (us++ws)
 | _,_,_,_,.nil,s=>s
 | _,_,_,_,.cons r t,s=>.cons r (Vals.append t s)
theorem Vals.take:∀ {xs:List V} {us:List Value} (n:Nat),Vals xs us->Vals (xs.take n) (us.take n)
 | _,_,0,_=>.nil
 | _,_,_+1,.nil=>.nil
 | _,_,n+1,.cons r t=>.cons r (Vals.take n t)
theorem Vals.drop:∀ {xs:List V} {us:List Value} (n:Nat),Vals xs us->Vals (xs.drop n) (us.drop n)
 | _,_,0,r=>r
 | _,_,_+1,.nil=>.nil
 | _,_,n+1,.cons _ t=>Vals.drop n t
noncomputable def RelO:Option V->Option Value->Prop
 | some v,some u=>RelV v u
 | none,none=>True
 | _,_=>False
noncomputable def KV {κ:Type}:List (κ×V)->List (κ×Value)->Prop:=iw fun (p:κ×V) (q:κ×Value)=>p.1=q.1/\RelV p.2 q.2
noncomputable def kV:Key->V
 | .inl i=>.int i
 | .inr x=>.str x
inductive HO where
 | lst (xs:List V)
 | tup (xs:List V)
 | dK (kvs:List (Key×V))|dT (kvs:List (List Key×V))
 | set (S:Int->Bool) (n:Nat)
 | ins (C dx:Addr) (fs:List (Str×V))
 | own (x:Addr)
 | xd (fs:List (Str×V))
 | met (f x:Addr)
 | rng (lo hi:Int)
 | frz (o:Obj) (u:HO)
 | tbl (ps:Array Value)
 | ext (φ:Heap->Prop)
noncomputable abbrev Hp:=Addr->Option HO
noncomputable def upd (H:Hp) (a:Addr) (o:HO):Hp:=fun b=>if b=a then some o else H b
theorem Ad {H:Hp} {a:Addr} {o:HO}:upd H a o a=some o:=by unfold upd;rw [if_pos rfl]
theorem Ah {H:Hp} {a b:Addr} {o:HO} (h:b≠a):upd H a o b=H b:=by unfold upd;rw [if_neg h]
theorem aq7 {H:Hp} {a:Addr} {o u:HO}:upd (upd H a o) a u=upd H a u:=by
 funext b;unfold upd;split <;> rfl
theorem at9 {H:Hp} {a b:Addr} {o u:HO} (h:H a=some o) (h':H b=some u) (d:o≠u):a≠b:=by
 intro e;subst e;rw [h] at h';exact d (aU h')
theorem A3 {H:Hp} {a b:Addr} {o:HO} (h:H a=some o) (h':H b=none):a≠b:=by
 intro e;subst e;rw [h] at h';cases h'
section
variable (P:aK) (w:bt)
noncomputable def ObjOk (H:Hp) (h:Heap) (a:Addr):HO->Prop
 | .lst xs=>xs.length<=sizeLine /\ ∃ (its:List Value) (n:Nat),Vals xs its/\h.get? a=some { cls:=.type "list", data:=.seq its.toArray n }
 | .tup xs=>xs.length<=sizeLine /\ ∃ its:List Value,Vals xs its/\nF h a its.toArray
 | .dK kvs=>kvs.length<=sizeLine/\(a==c4)=false /\ ∃ vs,KV kvs vs/\h.DictOf (Ap P w) a vs
 | .dT kvs=>kvs.length<=sizeLine/\(a==c4)=false /\ ∃ xs:List (List Key×Addr×Value),
   iw (fun (p:List Key×V) (q:List Key×Addr×Value)=>p.1=q.1/\H q.2.1=some (.tup (p.1.map kV))/\RelV p.2 q.2.2) kvs xs /\
   ∃ o es ep,h.get? a=some o/\o.ExactDict/\o.data=.dict es ep/\es.toList=xs.map (entryOfKey (iR (Ap P w)))/\(xs.map (·.1)).Nodup
 | .set S n=>h.SetOf (intKind P w) a S n
 | .ins C dx fs=>H dx=some (.own a)/\fs.length<=1000/\dx≠a/\h.get? a=some (bS C dx) /\
   ∃ mA,h.Ns1 dx mA/\(∀ f,RelO (fs.lookup f) (mA f))/\eT mA (fs.map (·.1))
 | .own _=>∃ o,h.get? a=some o
 | .xd fs=>∃ mA,h.Ns1 a mA /\ ∀ f,RelO (fs.lookup f) (mA f)
 | .rng lo hi=>∃ t u v,h.get? a=some { cls:=.type "range", data:=.fields #[.int lo t,.int hi u,.int 1 v] }
 | .frz o u=>h.get? a=some o/\ObjOk H h a u
 | .tbl ps=>h.get? a=some { cls:=.none,data:=.fields ps }
 | .met f x=>h.get? a=some (cD (.ref f) (.ref x))
 | .ext φ=>φ h/\(∃ o,h.get? a=some o) /\ ∀ h1 h2:Heap,φ h1->(∀ o,h1.get? a=some o->h2.get? a=some o)->φ h2
noncomputable def HOk (H:Hp) (h:Heap):Prop:=∀ a o,H a=some o->ObjOk P w H h a o
end
section
variable {P:aK} {w:bt} {H H':Hp} {h h':Heap} {a:Addr} {o:HO}
theorem ObjOk.lt (x:ObjOk P w H h a o):a<h.objs.size:=by
 cases o with
 | lst xs=>obtain⟨_,_,_,_,e⟩:=x;exact au e
 | tup xs=>obtain⟨_,_,_,p⟩:=x;exact p.lt
 | dK kvs=>obtain⟨_,_,_,_,o,_,_,e,_⟩:=x;exact au e
 | dT kvs=>obtain⟨_,_,_,_,o,_,_,e,_⟩:=x;exact au e
 | set S n=>obtain⟨o,_,_,_,e,_⟩:=x;exact au e
 | ins C dx fs=>obtain⟨_,_,_,e,_⟩:=x;exact au e
 | own y=>obtain⟨_,e⟩:=x;exact au e
 | xd fs=>obtain⟨_,⟨_,_,_,e,_⟩,_⟩:=x;exact au e
 | rng lo hi=>obtain⟨_,_,_,e⟩:=x;exact au e
 | frz ob u=>obtain⟨e,_⟩:=x;exact au e
 | tbl ps=>exact au (show h.get? a=some _ from x)
 | met f y=>exact au (show h.get? a=some _ from x)
 | ext φ=>obtain⟨_,⟨_,e⟩,_⟩:=x;exact au e
theorem Paired.mapP {α β:Type} {F G:α->β->Prop}:∀ {l₁:List α} {l₂:List β},iw F l₁ l₂->(∀ a b,F a b->G a b)->iw G l₁ l₂
 | _,_,.nil,_=>.nil
 | _,_,.cons r t,f=>.cons (f _ _ r) (Paired.mapP t f)
theorem ObjOk.stay (x:ObjOk P w H h a o) (k:∀ b u,(b=a\/H b=some (.own a))->h.get? b=some u->h'.get? b=some u)
  (ho:∀ b,H b=some (.own a)->H' b=some (.own a)) (ht:∀ b xs,H b=some (.tup xs)->H' b=some (.tup xs)):ObjOk P w H' h' a o:=by
 induction o with
 | lst xs=>obtain⟨z,its,n,r,e⟩:=x;exact⟨z,its,n,r,k _ _ (.inl rfl) e⟩
 | tup xs=>obtain⟨z,its,r,ob,e,c⟩:=x;exact⟨z,its,r,ob,k _ _ (.inl rfl) e,c⟩
 | dK kvs=>obtain⟨z,y,vs,r,ob,es,ep,e,c⟩:=x;exact⟨z,y,vs,r,ob,es,ep,k _ _ (.inl rfl) e,c⟩
 | dT kvs=>
  obtain⟨z,y,xs,r,ob,es,ep,e,c⟩:=x
  exact⟨z,y,xs,Paired.mapP r fun p q z=>⟨z.1,ht _ _ z.2.1,z.2.2⟩,ob,es,ep,k _ _ (.inl rfl) e,c⟩
 | set S n=>obtain⟨ob,es,ep,t,e,c⟩:=x;exact⟨ob,es,ep,t,k _ _ (.inl rfl) e,c⟩
 | ins C dx fs=>
  obtain⟨d,z,ne,e,mA,⟨od,es,ep,e2,c⟩,r⟩:=x
  exact⟨ho _ d,z,ne,k _ _ (.inl rfl) e,mA,⟨od,es,ep,k _ _ (.inr d) e2,c⟩,r⟩
 | own y=>obtain⟨ob,e⟩:=x;exact⟨ob,k _ _ (.inl rfl) e⟩
 | xd fs=>obtain⟨mA,⟨od,es,ep,e,c⟩,r⟩:=x;exact⟨mA,⟨od,es,ep,k _ _ (.inl rfl) e,c⟩,r⟩
 | rng lo hi=>obtain⟨t,u,v,e⟩:=x;exact⟨t,u,v,k _ _ (.inl rfl) e⟩
 | frz ob u ih=>obtain⟨e,q⟩:=x;exact⟨k _ _ (.inl rfl) e,ih q⟩
 | tbl ps=>
  have e:h.get? a=some { cls:=.none,data:=.fields ps }:=x
  show h'.get? a=some { cls:=.none,data:=.fields ps }
  exact k a _ (.inl rfl) e
 | met f y=>
  have e:h.get? a=some (cD (.ref f) (.ref y)):=x
  show h'.get? a=some (cD (.ref f) (.ref y))
  exact k a _ (.inl rfl) e
 | ext φ=>obtain⟨p,⟨o,e⟩,st⟩:=x;exact⟨st _ _ p fun o q=>k _ _ (.inl rfl) q,⟨o,k _ _ (.inl rfl) e⟩,st⟩
theorem HOk.lt (x:HOk P w H h) (e:H a=some o):a<h.objs.size:=(x a o e).lt
theorem HOk.fresh (x:HOk P w H h) (e:h.objs.size<=a):H a=none:=by
 cases q:H a with
 | none=>rfl
 | some u=>exact absurd (aO (x.lt q) e) (eY _)
theorem HOk.kept (x:HOk P w H h) (k:∀ b u,h.get? b=some u->h'.get? b=some u):HOk P w H h':=fun a o e=>
 (x a o e).stay (fun b u _ q=>k b u q) (fun _ q=>q) fun _ _ q=>q
theorem HOk.laid (x:HOk P w H h) (k:∀ b u,h.get? b=some u->h'.get? b=some u) (hp:h.objs.size<=a) (new:ObjOk P w (upd H a o) h' a o):HOk P w (upd H a o) h':=fun b u e=>by
 have hn:=x.fresh hp
 by_cases hb:b=a
 ·subst hb;rw [Ad] at e;cases e;exact new
 ·rw [Ah hb] at e
  exact (x b u e).stay (fun c v _ q=>k c v q) (fun c q=>by rw [Ah (A3 q hn)];exact q) fun c xs q=>by rw [Ah (A3 q hn)];exact q
end
noncomputable def Rd (H:Hp) (a:Addr) (u:HO):Prop:=H a=some u \/ ∃ o,H a=some (.frz o u)
theorem Rd.ok {P:aK} {w:bt} {H:Hp} {h:Heap} {a:Addr} {u:HO} (r:Rd H a u) (x:HOk P w H h):ObjOk P w H h a u:=by
 rcases r with r|⟨o,r⟩
 ·exact x a u r
 ·obtain⟨_,q⟩:=x a _ r
  exact q
noncomputable def Mut:Option HO->Prop
 | some (.lst _)=>True
 | some (.dK _)=>True
 | some (.dT _)=>True
 | some (.set _ _)=>True
 | some (.ins _ _ _)=>True
 | some (.ext _)=>True
 | _=>False
section
variable {P:aK} {w:bt} {H:Hp} {h h':Heap} {x e:Addr} {o':HO}
theorem HOk.write (ok:HOk P w H h) (mu:Mut (H x)) (he:e=x\/H e=some (.own x)) (k:∀ b u,b≠e->h.get? b=some u->h'.get? b=some u) (heo:∃ u,h'.get? e=some u)
  (new:ObjOk P w (upd H x o') h' x o'):HOk P w (upd H x o') h':=fun b u q=>by
 have nown:∀ c y,H c=some (.own y)->c≠x:=fun c y r z=>by subst z;rw [r] at mu;exact mu
 have ntup:∀ c xs,H c=some (.tup xs)->c≠x:=fun c xs r z=>by subst z;rw [r] at mu;exact mu
 by_cases hb:b=x
 ·subst hb;rw [Ad] at q;cases q;exact new
 ·rw [Ah hb] at q
  by_cases hbe:b=e
  ·have q':H b=some (.own x):=by
    rcases he with z|z
    ·exact absurd (hbe.trans z) hb
    ·rw [hbe];exact z
   rw [q] at q';cases q'
   obtain⟨v,hv⟩:=heo
   exact⟨v,by rw [hbe];exact hv⟩
  ·refine (ok b u q).stay (fun c v hc r=>k c v ?_ r) (fun c r=>by rw [Ah (nown c b r)];exact r) fun c xs r=>by rw [Ah (ntup c xs r)];exact r
   rcases hc with rfl|hc
   ·exact hbe
   ·rintro rfl
    rcases he with z|z
    ·exact nown c b hc z
    ·rw [hc] at z;cases z;exact hb rfl
end
structure Un (fs ex:List Addr) (H H':Hp) (h h':Heap):Prop where
 keep:∀ b o,h.get? b=some o->H b=none->b∉fs->b∉ex->h'.get? b=some o
 slot:∀ b o,h.get? b=some o->H b=none->b∈fs->b∉ex -> ∃ sl,h'.get? b=some { o with slots:=sl }
 free:∀ b o,h.get? b=some o->H b=none->b∉ex->H' b=none
 there:∀ b o,h.get? b=some o->b∉ex -> ∃ o',h'.get? b=some o'
 tups:∀ b xs,H b=some (.tup xs)->H' b=some (.tup xs)
 frzs:∀ b o u,H b=some (.frz o u)->H' b=some (.frz o u)
 tbls:∀ b ps,H b=some (.tbl ps) -> ∃ more,H' b=some (.tbl (ps++more))
section
variable {fs fs' ex ex':List Addr} {H H1 H2:Hp} {h h1 h2 h':Heap} {a x e:Addr} {o:HO}
theorem Un.any (u:Un fs ex H H1 h h1) {b:Addr} {ob:Obj} (q:h.get? b=some ob) (n:H b=none) (hx:b∉ex):∃ sl,h1.get? b=some { ob with slots:=sl }:=by
 by_cases hb:b∈fs
 ·exact u.slot b ob q n hb hx
 ·exact⟨ob.slots,u.keep b ob q n hb hx⟩
theorem Un.kept (k:∀ b u,h.get? b=some u->h'.get? b=some u):Un fs ex H H h h':=
 ⟨fun b ob q _ _ _=>k b ob q,fun b ob q _ _ _=>⟨ob.slots,k b ob q⟩,fun _ _ _ n _=>n,fun b ob q _=>⟨ob,k b ob q⟩,fun _ _ q=>q,fun _ _ _ q=>q,fun _ ps q=>⟨#[],by rw [q];simp⟩⟩
theorem Un.refl:Un fs ex H H h h:=Un.kept fun _ _ q=>q
theorem Un.laid (k:∀ b u,h.get? b=some u->h'.get? b=some u) (hp:h.objs.size<=a) (hn:H a=none):Un fs ex H (upd H a o) h h' where
 keep:=fun b u q _ _ _=>k b u q
 slot:=fun b u q _ _ _=>⟨u.slots,k b u q⟩
 free:=fun b u q n _=>by rw [Ah (aE (aO (au q) hp))];exact n
 there:=fun b u q _=>⟨u,k b u q⟩
 tups:=fun b xs q=>by rw [Ah (A3 q hn)];exact q
 frzs:=fun b u xs q=>by rw [Ah (A3 q hn)];exact q
 tbls:=fun b ps q=>⟨#[],by rw [Ah (A3 q hn),q];simp⟩
theorem Un.write (mu:Mut (H x)) (he:e=x\/H e=some (.own x)) (k:∀ b u,b≠e->h.get? b=some u->h'.get? b=some u) (heo:∃ u,h'.get? e=some u):Un fs ex H (upd H x o) h h':=by
 have hx:∀ b,H b=none->b≠x:=fun b n z=>by subst z;rw [n] at mu;exact mu
 have hb:∀ b,H b=none->b≠e:=fun b n z=>by
  subst z
  rcases he with r|r
  ·exact hx b n r
  ·rw [n] at r;cases r
 have hm:∀ b u,H b=some u -> ¬ Mut (some u)->b≠x:=fun b u q nm z=>by subst z;rw [q] at mu;exact nm mu
 refine⟨fun b u q n _ _=>k b u (hb b n) q,fun b u q n _ _=>⟨u.slots,k b u (hb b n) q⟩,fun b u q n _=>by rw [Ah (hx b n)];exact n,fun b u q _=>?_,
  fun b xs q=>by rw [Ah (hm b _ q fun z=>z)];exact q,fun b u xs q=>by rw [Ah (hm b _ q fun z=>z)];exact q,fun b ps q=>⟨#[],by rw [Ah (hm b _ q fun z=>z),q];simp⟩⟩
 by_cases hbe:b=e
 ·subst hbe;exact heo
 ·exact⟨u,k b u hbe q⟩
end
noncomputable def trk (h:Heap) (H:Hp):List Addr:=(cL h.objs.size).filter fun a=>(H a).isSome
noncomputable def M5 (h:Heap) (H:Hp):Heap:=PySem.W.hideAll h (trk h H)
theorem V4 (h:Heap) (H:Hp):(M5 h H).objs.size=h.objs.size:=PySem.W.hideAll_size _ _
theorem Zg {h:Heap} {H:Hp} {b:Addr} {o:Obj} (e:h.get? b=some o) (n:H b=none):(M5 h H).get? b=some o:=
 PySem.W.hideAll_get _ e fun hm=>by
  have q:(H b).isSome=true:=(List.mem_filter.mp hm).2
  rw [n] at q;simp at q
theorem ak8 {h:Heap} {H:Hp} {b:Addr} {o:Obj} (e:(M5 h H).get? b=some o):h.get? b=some o/\H b=none:=by
 have e':h.get? b=some o:=PySem.W.of_hideAll (trk h H) e
 refine⟨e',?_⟩
 cases q:H b with
 | none=>rfl
 | some x=>
  have hm:b∈trk h H:=List.mem_filter.mpr ⟨List.mem_range.mpr (au e'),by simp [q]⟩
  have z:(M5 h H).get? b=none:=PySem.W.hideAll_none (trk h H) hm
  rw [z] at e;cases e
structure Mod (K:aa) (mg:Str->Option Value) (base:Heap):Prop where
 kin:K.In base
 glob:base.Ns br mg
 blt:∃ mb,base.Ns builtinsNs mb /\ ∀ x:Str,x ≠ "__name__" -> mb x=cN x
 nolimit:base.NoLimit
structure Cx where
 prog:aK
 w:bt
 K:aa
 mg:Str->Option Value
 base:Heap
 A:bg
 N:List Str
 s₀:ai
 H₀:Hp
 env:Env
 outer:List Env
 stack:List Env
 ex:List Addr
 fn:Str->Bool
 calm:Bool
 pn:List (Addr×Obj)
 xe:Value->ai->Prop
noncomputable def frs (l:List Env):List Addr:=l.filterMap (·.frame)
noncomputable abbrev Cx.fs (X:Cx):List Addr:=frs X.outer
noncomputable def Vis (sc:Scope) (x:Str):Prop:=sc.names.lookup x=some .local\/sc.names.lookup x=some .cell\/sc.names.lookup x=some .free
noncomputable def Loc (sc:Scope) (x:Str):Prop:=sc.names.lookup x=some .local\/sc.names.lookup x=some .cell
noncomputable def b11 (env:Env) (h:Heap) (m:Str->Option Value) (x:Str) (u:Value):Prop:=
 (env.kindOf x=some .local/\m x=some u)\/((env.kindOf x=some .cell\/env.kindOf x=some .free) /\ ∃ c,env.cells.lookup x=some c/\h.IsCell c (some u))
noncomputable def Tc (_:aa) (_:Nat):Prop:=True
structure Cx.Ok (X:Cx):Prop where
 mod:Mod X.K X.mg X.base
 kind:X.env.scope.kind=.function
 glob:X.env.globals=br
 blt:X.env.builtins=builtinsNs
 above:X.s₀.heap.objs.size<=X.env.locals
 inj:∀ x y c,X.env.cells.lookup x=some c->X.env.cells.lookup y=some c->x=y
 has:∀ x,(X.env.kindOf x=some .cell\/X.env.kindOf x=some .free) -> ∃ c,X.env.cells.lookup x=some c
 cab:∀ x c,X.fn x=true->X.env.cells.lookup x=some c->X.s₀.heap.objs.size<=c
 hd:X.calm=true->X.A.handled=none
 frames:X.A.frames=some X.stack
 stk:X.stack=X.outer\/(X.stack=X.env::X.outer/\X.env.frame=some X.env.locals)
 exf:∀ b∈X.ex,b≠X.env.locals /\ ∀ x c,X.env.cells.lookup x=some c->c≠b
 bs:∀ b o,X.base.get? b=some o->X.s₀.heap.get? b=some o/\X.H₀ b=none
 bsz:X.base.objs.size<=X.s₀.heap.objs.size
 noex:∀ b o,X.base.get? b=some o->b∉X.ex
 exfs:∀ b∈X.ex,b∉X.fs
 funs:X.s₀.heap.FunFrames X.base X.outer
 frf:∀ b∈X.fs,X.H₀ b=none
 tk:Tc X.K X.s₀.toks
structure Inv (X:Cx) (pins:List (Addr×Obj)) (σ:List (Option V)) (H:Hp) (s:ai):Prop where
 ok:X.Ok
 os:s.os=X.s₀.os/\X.s₀.toks<=s.toks
 bare:jz s.gens
 base:Un X.fs X.ex X.H₀ H X.s₀.heap s.heap
 loc:∃ m,s.heap.Ns X.env.locals m /\ ∀ (i:Nat) (x:Str) (v:V),X.N[i]? = some x->σ[i]? = some (some v)->Vis X.env.scope x -> ∃ u,RelV v u/\b11 X.env s.heap m x u
 cell:∀ x c,X.env.cells.lookup x=some c -> ∃ v,s.heap.IsCell c v
 free:H X.env.locals=none
 freeC:∀ x c,X.env.cells.lookup x=some c->H c=none
 pin:∀ p∈X.pn++pins,s.heap.get? p.1=some p.2/\H p.1=none/\p.1≠X.env.locals/\p.1∉X.fs /\ ∀ v,p.2.data≠.cell v
 hok:HOk X.prog X.w H s.heap
 len:σ.length=X.N.length
section
variable {X:Cx} {pins:List (Addr×Obj)} {σ:List (Option V)} {H H':Hp} {s:ai} {h':Heap}
theorem Cx.Ok.nofr (ok:X.Ok) {b:Addr} {o:Obj} (e:X.base.get? b=some o):b∉X.fs:=fun hb=>by
 have:=(ok.funs.mem hb).1
 rw [e] at this;cases this
theorem Inv.bs (I:Inv X pins σ H s):∀ b o,X.base.get? b=some o->s.heap.get? b=some o/\H b=none:=fun b o e=>
 ⟨I.base.keep b o (I.ok.bs b o e).1 (I.ok.bs b o e).2 (I.ok.nofr e) (I.ok.noex b o e),I.base.free b o (I.ok.bs b o e).1 (I.ok.bs b o e).2 (I.ok.noex b o e)⟩
theorem Inv.bk (I:Inv X pins σ H s):∀ b o,X.base.get? b=some o->s.heap.get? b=some o:=fun b o e=>(I.bs b o e).1
theorem Inv.mod (I:Inv X pins σ H s):Mod X.K X.mg X.base:=I.ok.mod
theorem Inv.kIn (I:Inv X pins σ H s):X.K.In s.heap:=I.ok.mod.kin.keeps I.bk
theorem Inv.lt (I:Inv X pins σ H s):X.env.locals<s.heap.objs.size:=let ⟨_,hn,_⟩:=I.loc;hn.lt
theorem Inv.sz (I:Inv X pins σ H s):X.s₀.heap.objs.size<=s.heap.objs.size:=aS I.ok.above (fQ I.lt)
theorem Inv.nofs (I:Inv X pins σ H s) {a:Addr} (h:s.heap.objs.size<=a):a∉X.fs:=fun hb=>by
 obtain⟨_,o,ho,_⟩:=I.ok.funs.mem hb
 exact absurd (aO (au ho) (aS I.sz h)) (eY _)
theorem Inv.cne (I:Inv X pins σ H s):∀ x c,X.env.cells.lookup x=some c->c≠X.env.locals:=fun x c e z=>by
 obtain⟨v,o,ho,hd⟩:=I.cell x c e
 obtain⟨m,⟨o',es,ep,ho',hd',_⟩,_⟩:=I.loc
 rw [z,ho'] at ho;cases ho;rw [hd'] at hd;cases hd
theorem Inv.funs (I:Inv X pins σ H s):s.heap.FunFrames X.base X.outer:=by
 have all:∀ (l:List Env),(∀ b∈frs l,b∈X.fs)->X.s₀.heap.FunFrames X.base l->s.heap.FunFrames X.base l:=by
  intro l
  induction l with
  | nil=>intro _ _;trivial
  | cons env r ih=>
   intro hs hl
   obtain⟨hk,⟨L,o,hf,hn,ho,hd⟩,hr⟩:=hl
   have hL:L∈X.fs:=hs L (by unfold frs;rw [iJ,hf];exact bx)
   obtain⟨sl,e⟩:=I.base.slot L o ho (I.ok.frf L hL) hL fun z=>I.ok.exfs L z hL
   exact⟨hk,⟨L,_,hf,hn,e,hd⟩,ih (fun b hb=>hs b (by unfold frs;rw [iJ,hf];exact aJ _ hb)) hr⟩
 exact all X.outer (fun _ hb=>hb) I.ok.funs
theorem Inv.stack (I:Inv X pins σ H s):s.heap.FunFrames X.base X.stack:=by
 rcases I.ok.stk with e|⟨e,hf⟩
 ·rw [e];exact I.funs
 ·rw [e]
  obtain⟨m,hn,_⟩:=I.loc
  refine .cons (by rw [I.ok.kind];decide) hf hn ?_ I.funs
  exact iq (aS I.ok.bsz I.ok.above)
theorem Inv.stkSub (I:Inv X pins σ H s):∀ b∈frs X.stack,b∈X.env.locals::X.fs:=fun b hb=>by
 rcases I.ok.stk with e|⟨e,hf⟩
 ·rw [e] at hb;exact aJ _ hb
 ·rw [e] at hb
  unfold frs at hb
  rw [iJ,hf] at hb
  exact hb
theorem Inv.stkFree (I:Inv X pins σ H s):∀ b∈frs X.stack,H b=none:=fun b hb=>by
 rcases List.mem_cons.mp (I.stkSub b hb) with e|hb
 ·rw [e];exact I.free
 ·obtain⟨_,o,ho,_⟩:=I.ok.funs.mem hb
  exact I.base.free b o ho (I.ok.frf b hb) fun z=>I.ok.exfs b z hb
theorem Inv.step {g':Array i3} {t':Nat} {d':Drawn} {ch:List Addr} (I:Inv X pins σ H s)
  (hch:∀ b∈ch,(b∈X.ex\/X.s₀.heap.objs.size<=b)/\b≠X.env.locals/\(∀ x c,X.env.cells.lookup x=some c->c≠b) /\ ∀ p∈X.pn++pins,p.1≠b)
  (keep:∀ b o,b≠X.env.locals->b∉X.fs->b∉ch->s.heap.get? b=some o->H b=none->h'.get? b=some o)
  (slot:∀ b o,b≠X.env.locals->b∈X.fs->b∉ch->s.heap.get? b=some o->H b=none -> ∃ sl,h'.get? b=some { o with slots:=sl }) (free:∀ b o,b∉ch->s.heap.get? b=some o->H b=none->H' b=none)
  (there:∀ b o,b∉ch->s.heap.get? b=some o -> ∃ o',h'.get? b=some o')
  (tups:∀ b xs,H b=some (.tup xs)->H' b=some (.tup xs)) (frzs:∀ b o u,H b=some (.frz o u)->H' b=some (.frz o u)) (tbls:∀ b ps,H b=some (.tbl ps) -> ∃ more,H' b=some (.tbl (ps++more)))
  (ns:∀ m,s.heap.Ns X.env.locals m->h'.Ns X.env.locals m) (hok:HOk X.prog X.w H' h') (hg:jz g') (ht:s.toks<=t':=by first|exact ae _|exact bi _ _|assumption|omega|(dsimp only;omega)) :
  Inv X pins σ H' { s with heap:=h',gens:=g',drawn:=d',toks:=t' }:=by
 have neL:∀ b o,X.s₀.heap.get? b=some o->b≠X.env.locals:=fun b o e=>aE (aO (au e) I.ok.above)
 have neC:∀ b o,X.s₀.heap.get? b=some o->b∉X.ex->b∉ch:=fun b o e hx hb=>by
  rcases (hch b hb).1 with z|z
  ·exact hx z
  ·exact absurd (aO (au e) z) (eY _)
 have cellK:∀ x c,X.env.cells.lookup x=some c -> ∀ v,s.heap.IsCell c v->h'.IsCell c v:=fun x c e v ⟨o,ho,hd⟩=>by
  have nch:c∉ch:=fun z=>(hch c z).2.2.1 x c e rfl
  by_cases hc:c∈X.fs
  ·obtain⟨sl,q⟩:=slot c o (I.cne x c e) hc nch ho (I.freeC x c e)
   exact⟨_,q,hd⟩
  ·exact⟨o,keep c o (I.cne x c e) hc nch ho (I.freeC x c e),hd⟩
 refine⟨I.ok,⟨I.os.1,aS I.os.2 ht⟩,hg,⟨fun b o e n hb hx=>?_,fun b o e n hb hx=>?_,fun b o e n hx=>?_,fun b o e hx=>?_,fun b xs e=>tups b xs (I.base.tups b xs e),fun b o xs e=>frzs b o xs (I.base.frzs b o xs e),fun b ps e=>?_⟩,?_,fun x c e=>?_,?_,fun x c e=>?_,fun p hp=>?_,hok,I.len⟩
 ·exact keep b o (neL b o e) hb (neC b o e hx) (I.base.keep b o e n hb hx) (I.base.free b o e n hx)
 ·obtain⟨sl,e1⟩:=I.base.slot b o e n hb hx
  obtain⟨sl',e2⟩:=slot b _ (neL b o e) hb (neC b o e hx) e1 (I.base.free b o e n hx)
  exact⟨sl',e2⟩
 ·obtain⟨o',e1⟩:=I.base.there b o e hx
  exact free b o' (neC b o e hx) e1 (I.base.free b o e n hx)
 ·obtain⟨o',e1⟩:=I.base.there b o e hx
  exact there b o' (neC b o e hx) e1
 ·obtain⟨m1,e1⟩:=I.base.tbls b ps e
  obtain⟨m2,e2⟩:=tbls b _ e1
  exact⟨m1++m2,by rw [e2,Array.append_assoc]⟩
 ·obtain⟨m,hn,hl⟩:=I.loc
  refine⟨m,ns m hn,fun i x v e1 e2 e3=>?_⟩
  obtain⟨u,r,l⟩:=hl i x v e1 e2 e3
  refine⟨u,r,?_⟩
  rcases l with l|⟨k,c,e,z⟩
  ·exact .inl l
  ·exact .inr ⟨k,c,e,cellK x c e _ z⟩
 ·obtain⟨v,z⟩:=I.cell x c e
  exact⟨v,cellK x c e v z⟩
 ·obtain⟨m,⟨o,_,_,ho,_⟩,_⟩:=I.loc
  exact free _ o (fun z=>(hch _ z).2.1 rfl) ho I.free
 ·obtain⟨v,o,ho,hd⟩:=I.cell x c e
  exact free c o (fun z=>(hch c z).2.2.1 x c e rfl) ho (I.freeC x c e)
 ·obtain⟨e,n,ne,nf,d⟩:=I.pin p hp
  have nch:p.1∉ch:=fun z=>(hch p.1 z).2.2.2 p hp rfl
  exact⟨keep p.1 p.2 ne nf nch e n,free p.1 p.2 nch e n,ne,nf,d⟩
theorem Inv.un {t':Nat} (I:Inv X pins σ H s) (u:Un X.fs [] H H' s.heap h') (hok:HOk X.prog X.w H' h') (ht:s.toks<=t':=by first|exact ae _|exact bi _ _|assumption|omega|(dsimp only;omega)):Inv X pins σ H' { s with heap:=h',toks:=t' }:=by
 obtain⟨m,⟨o,es,ep,ho,r⟩,_⟩:=id I.loc
 obtain⟨sl,hL⟩:=u.any ho I.free (by simp)
 exact I.step (g':=s.gens) (d':=s.drawn) (ch:=[]) (fun _ z=>nomatch z) (fun b o _ hb _ e n=>u.keep b o e n hb (by simp)) (fun b o _ hb _ e n=>u.slot b o e n hb (by simp)) (fun b o _ e n=>u.free b o e n (by simp)) (fun b o _ e=>u.there b o e (by simp)) u.tups u.frzs u.tbls (fun m' hm=>by
  obtain⟨o',es',ep',ho',r'⟩:=hm
  rw [ho] at ho';cases ho'
  exact⟨_,es',ep',hL,r'⟩) hok I.bare
theorem Inv.call {g':Array i3} {t':Nat} {d':Drawn} {ch:List Addr} (I:Inv X pins σ H s) (u:Un (frs X.stack) ch H H' s.heap h') (hok:HOk X.prog X.w H' h') (hg:jz g')
  (hch:∀ b∈ch,(b∈X.ex\/X.s₀.heap.objs.size<=b)/\b≠X.env.locals/\(∀ x c,X.env.cells.lookup x=some c->c≠b) /\ ∀ p∈X.pn++pins,p.1≠b) (ht:s.toks<=t':=by first|exact ae _|exact bi _ _|assumption|omega|(dsimp only;omega)) :
  Inv X pins σ H' { s with heap:=h',gens:=g',drawn:=d',toks:=t' }:=by
 obtain⟨m,⟨o,es,ep,ho,r⟩,_⟩:=id I.loc
 obtain⟨sl,hL⟩:=u.any ho I.free fun z=>(hch _ z).2.1 rfl
 exact I.step (ch:=ch) hch (fun b o hL hb hc e n=>u.keep b o e n (fun z=>(List.mem_cons.mp (I.stkSub b z)).elim hL hb) hc) (fun b o _ _ hc e n=>u.any e n hc) (fun b o hc e n=>u.free b o e n hc) (fun b o hc e=>u.there b o e hc) u.tups u.frzs u.tbls (fun m' hm=>by
  obtain⟨o',es',ep',ho',r'⟩:=hm
  rw [ho] at ho';cases ho'
  exact⟨_,es',ep',hL,r'⟩) hok hg
theorem Inv.turned {t':Nat} {it:Addr} (I:Inv X pins σ H s) (k:∀ b o,b≠it->s.heap.get? b=some o->h'.get? b=some o) (hn:H it=none) (hL:it≠X.env.locals)
  (h1:it∈X.ex\/X.s₀.heap.objs.size<=it) (h2:∀ x c,X.env.cells.lookup x=some c->c≠it) (h3:∀ p∈X.pn++pins,p.1≠it) (ht:s.toks<=t':=by first|exact ae _|exact bi _ _|assumption|omega|(dsimp only;omega)):Inv X pins σ H { s with heap:=h',toks:=t' }:=by
 have nit:∀ b u,H b=some u->b≠it:=fun b u e z=>by rw [z,hn] at e;cases e
 refine I.step (g':=s.gens) (d':=s.drawn) (ch:=[it]) (fun b hb=>?_) (fun b o _ _ hc e _=>k b o (fun z=>hc (by simp [z])) e) (fun b o _ _ hc e _=>⟨o.slots,k b o (fun z=>hc (by simp [z])) e⟩) (fun _ _ _ _ n=>n)
  (fun b o hc e=>⟨o,k b o (fun z=>hc (by simp [z])) e⟩) (fun _ _ e=>e) (fun _ _ _ e=>e) (fun b ps e=>⟨#[],by rw [e];simp⟩) (fun m hm=>?_) (fun b u e=>?_) I.bare
 ·have e:b=it:=by simpa using hb
  subst e
  exact⟨h1,hL,h2,h3⟩
 ·obtain⟨o,es,ep,ho,r⟩:=hm
  exact⟨o,es,ep,k _ o (bO hL) ho,r⟩
 ·refine (I.hok b u e).stay (fun c v hc q=>k c v ?_ q) (fun _ q=>q) fun _ _ q=>q
  rcases hc with z|z
  ·rw [z];exact nit b u e
  ·exact nit c _ z
theorem Inv.tok (I:Inv X pins σ H s) (t:Nat) (ht:s.toks<=t:=by first|exact ae _|exact bi _ _|assumption|omega|(dsimp only;omega)):Inv X pins σ H { s with toks:=t }:=I.un (h':=s.heap) (t':=t) Un.refl I.hok ht
theorem Inv.kept {t':Nat} (I:Inv X pins σ H s) (k:∀ b u,s.heap.get? b=some u->h'.get? b=some u) (ht:s.toks<=t':=by first|exact ae _|exact bi _ _|assumption|omega|(dsimp only;omega)):Inv X pins σ H { s with heap:=h',toks:=t' }:=I.un (Un.kept k) (I.hok.kept k) ht
theorem Inv.laid {a:Addr} {o:HO} {t':Nat} (I:Inv X pins σ H s) (k:∀ b u,s.heap.get? b=some u->h'.get? b=some u) (hp:s.heap.objs.size<=a) (new:ObjOk X.prog X.w (upd H a o) h' a o) (ht:s.toks<=t':=by first|exact ae _|exact bi _ _|assumption|omega|(dsimp only;omega)) :
  Inv X pins σ (upd H a o) { s with heap:=h',toks:=t' }:=I.un (Un.laid k hp (I.hok.fresh hp)) (I.hok.laid k hp new) ht
theorem Inv.write {x e:Addr} {o:HO} {t':Nat} (I:Inv X pins σ H s) (mu:Mut (H x)) (he:e=x\/H e=some (.own x)) (k:∀ b u,b≠e->s.heap.get? b=some u->h'.get? b=some u) (heo:∃ u,h'.get? e=some u)
  (new:ObjOk X.prog X.w (upd H x o) h' x o) (ht:s.toks<=t':=by first|exact ae _|exact bi _ _|assumption|omega|(dsimp only;omega)):Inv X pins σ (upd H x o) { s with heap:=h',toks:=t' }:=I.un (Un.write mu he k heo) (I.hok.write mu he k heo new) ht
theorem Inv.pins_of {pins':List (Addr×Obj)} (I:Inv X pins σ H s) (h:∀ p∈pins',s.heap.get? p.1=some p.2/\H p.1=none/\p.1≠X.env.locals/\p.1∉X.fs /\ ∀ v,p.2.data≠.cell v):Inv X pins' σ H s:=
 ⟨I.ok,I.os,I.bare,I.base,I.loc,I.cell,I.free,I.freeC,fun p hp=>(List.mem_append.mp hp).elim (fun z=>I.pin p (d7 _ z)) (h p),I.hok,I.len⟩
theorem J5 {N:List Str} (hN:N.Nodup) {i j:Nat} {x:Str} (a:N[i]? = some x) (b:N[j]? = some x):i=j:=by
 obtain⟨h1,e1⟩:=List.getElem?_eq_some_iff.mp a
 obtain⟨h2,e2⟩:=List.getElem?_eq_some_iff.mp b
 exact (List.getElem_inj hN).mp (e1.trans e2.symm)
theorem W2 {M:nG} {A:bg} {E:Value->ai->Prop} {i:Nat} {x:Str} {v:V} {u:Value} {Q:Unit->ai->Prop} (I:Inv X pins σ H s) (hN:X.N.Nodup) (hi:X.N[i]? = some x) (hx:Loc X.env.scope x) (r:RelV v u)
  (h:∀ s',Inv X pins (σ.set i (some v)) H s'->(∃ a,a9 a s.heap s'.heap/\(a=X.env.locals\/X.env.cells.lookup x=some a))->Q () s') (hf:X.fn x=true\/X.env.scope.names.lookup x=some .local:=by first|exact .inl rfl|exact .inr rfl|assumption):aG M A (storeName X.env x u) Q E s:=by
 obtain⟨m,hn,hl⟩:=id I.loc
 have hcls:(X.env.scope.kind==.class||(X.env.scope.kind==.module&&X.env.locals != X.env.globals))=false:=by rw [I.ok.kind];rfl
 have hiσ:i<σ.length:=by rw [I.len];exact (List.getElem?_eq_some_iff.mp hi).1
 have cne:=I.cne
 have tracked:∀ {a:Addr} {h':Heap},(∃ o,s.heap.get? a=some o/\H a=none)->a9 a s.heap h'->HOk X.prog X.w H h':=fun {a h'} ha hs b ob e=>by
  obtain⟨_,_,hfree⟩:=ha
  refine (I.hok b ob e).stay (fun c w' hc q=>(hs.2 c ?_).trans q) (fun _ q=>q) fun _ _ q=>q
  rintro rfl
  rcases hc with rfl|hc
  ·rw [hfree] at e;cases e
  ·rw [hfree] at hc;cases hc
 rcases hx with hk|hk
 ·refine wpAny_storeName_local hk hn (fun h' hn' hs=>?_) hcls
  obtain⟨oL,_,_,hoL,_⟩:=id hn
  refine h _ ⟨I.ok,⟨I.os.1,aS I.os.2 (by first|exact ae _|exact bi _ _)⟩,I.bare,⟨fun b o e n hb hx=>?_,fun b o e n hb hx=>?_,I.base.free,fun b o e hx=>?_,I.base.tups,I.base.frzs,I.base.tbls⟩,⟨_,hn',fun j y v' e1 e2 e3=>?_⟩,fun y c e=>?_,I.free,I.freeC,fun p hp=>?_,tracked ⟨oL,hoL,I.free⟩ hs,by simpa using I.len⟩ ⟨_,hs,.inl rfl⟩
  ·exact (hs.2 b (aE (aO (au e) I.ok.above))).trans (I.base.keep b o e n hb hx)
  ·obtain⟨sl,e1⟩:=I.base.slot b o e n hb hx
   exact⟨sl,(hs.2 b (aE (aO (au e) I.ok.above))).trans e1⟩
  ·obtain⟨o',e1⟩:=I.base.there b o e hx
   exact⟨o',(hs.2 b (aE (aO (au e) I.ok.above))).trans e1⟩
  ·by_cases hj:j=i
   ·subst hj
    rw [hi] at e1;cases e1
    rw [gR hiσ] at e2
    cases e2
    exact⟨u,r,.inl ⟨hk,by simp⟩⟩
   ·rw [ir (bO hj)] at e2
    obtain⟨u',r',q⟩:=hl j y v' e1 e2 e3
    refine⟨u',r',?_⟩
    rcases q with ⟨k,e⟩|⟨k,c,e,z⟩
    ·refine .inl ⟨k,?_⟩
     have:y≠x:=fun e=>hj (J5 hN e1 (e▸hi))
     simp [this,e]
    ·exact .inr ⟨k,c,e,z.sameBut hs (cne y c e)⟩
  ·obtain⟨w',z⟩:=I.cell y c e
   exact⟨w',z.sameBut hs (cne y c e)⟩
  ·obtain⟨e,n,ne,nf,d⟩:=I.pin p hp
   exact⟨(hs.2 p.1 ne).trans e,n,ne,nf,d⟩
 ·have hfn:X.fn x=true:=by
   rcases hf with z|z
   ·exact z
   ·rw [z] at hk;cases hk
  obtain⟨c,hc⟩:=I.ok.has x (.inl hk)
  obtain⟨w',z⟩:=I.cell x c hc
  refine wpAny_storeName_cell I.ok.kind hk hc z (fun h' hc' hs=>?_)
  obtain⟨oc,hoc,hocd⟩:=id z
  refine h { s with heap:=h' } ⟨I.ok,I.os,I.bare,⟨fun b o e n hb hx=>?_,fun b o e n hb hx=>?_,I.base.free,fun b o e hx=>?_,I.base.tups,I.base.frzs,I.base.tbls⟩,⟨m,hn.sameBut hs (bO (cne x c hc)),fun j y v' e1 e2 e3=>?_⟩,fun y c' e=>?_,I.free,I.freeC,fun p hp=>?_,tracked ⟨oc,hoc,I.freeC x c hc⟩ hs,by simpa using I.len⟩ ⟨c,hs,.inr hc⟩
  ·exact (hs.2 b (aE (aO (au e) (I.ok.cab x c hfn hc)))).trans (I.base.keep b o e n hb hx)
  ·obtain⟨sl,e1⟩:=I.base.slot b o e n hb hx
   exact⟨sl,(hs.2 b (aE (aO (au e) (I.ok.cab x c hfn hc)))).trans e1⟩
  ·obtain⟨o',e1⟩:=I.base.there b o e hx
   exact⟨o',(hs.2 b (aE (aO (au e) (I.ok.cab x c hfn hc)))).trans e1⟩
  ·by_cases hj:j=i
   ·subst hj
    rw [hi] at e1;cases e1
    rw [gR hiσ] at e2
    cases e2
    exact⟨u,r,.inr ⟨.inl hk,c,hc,hc'⟩⟩
   ·rw [ir (bO hj)] at e2
    obtain⟨u',r',q⟩:=hl j y v' e1 e2 e3
    refine⟨u',r',?_⟩
    rcases q with q|⟨k,c',e,z'⟩
    ·exact .inl q
    ·refine .inr ⟨k,c',e,z'.sameBut hs ?_⟩
     rintro rfl
     exact hj (J5 hN e1 (I.ok.inj _ _ _ e hc▸hi))
  ·by_cases hcc:c'=c
   ·subst hcc;exact⟨_,hc'⟩
   ·obtain⟨w2,z2⟩:=I.cell y c' e
    exact⟨w2,z2.sameBut hs hcc⟩
  ·obtain⟨e,n,ne,nf,d⟩:=I.pin p hp
   refine⟨(hs.2 p.1 ?_).trans e,n,ne,nf,d⟩
   intro q
   rw [q,hoc] at e
   have q':oc=p.2:=aU e
   exact d w' (by rw [<- q'];exact hocd)
theorem G6 {M:nG} {A:bg} {E:Value->ai->Prop} {i:Nat} {x:Str} {v:V} {u:Value} {Q:Unit->ai->Prop} (I:Inv X pins σ H s) (hN:X.N.Nodup) (hi:X.N[i]? = some x) (hx:Loc X.env.scope x) (r:RelV v u)
  (h:∀ s',Inv X pins (σ.set i (some v)) H s'->Q () s') (hf:X.fn x=true\/X.env.scope.names.lookup x=some .local:=by first|exact .inl rfl|exact .inr rfl|assumption):aG M A (storeName X.env x u) Q E s:=
 W2 I hN hi hx r (fun s' I' _=>h s' I') hf
theorem Inv.call' {s':ai} {ch:List Addr} (I:Inv X pins σ H s) (ho:s'.os=s.os/\s.toks<=s'.toks) (u:Un (frs X.stack) ch H H' s.heap s'.heap) (hok:HOk X.prog X.w H' s'.heap) (hg:jz s'.gens)
  (hch:∀ b∈ch,(b∈X.ex\/X.s₀.heap.objs.size<=b)/\b≠X.env.locals/\(∀ x c,X.env.cells.lookup x=some c->c≠b) /\ ∀ p∈X.pn++pins,p.1≠b):Inv X pins σ H' s':=by
 obtain⟨h',g',d',t',o'⟩:=s'
 have e:o'=s.os:=ho.1
 subst e
 exact I.call (g':=g') (t':=t') (d':=d') u hok hg hch ho.2
end
noncomputable abbrev XK:=Value->Option Addr->Hp->Prop
noncomputable abbrev St:=List (Option V)
noncomputable abbrev VK:=V->Hp->Prop
noncomputable abbrev TE:=St->Hp->VK->Prop
noncomputable abbrev TT:=St->Hp->(Bool->Hp->Prop)->Prop
noncomputable abbrev TA:=St->Hp->(List V->Hp->Prop)->Prop
structure K2 where
 nx:St->Hp->Prop
 rt:VK
 bk:St->Hp->Prop:=fun _ _=>False
 ct:St->Hp->Prop:=fun _ _=>False
noncomputable abbrev TS:=K2->St->Hp->Prop
noncomputable def EP (X:Cx) (pins:List (Addr×Obj)) (σ:St) (Q:VK) (u:Value) (s':ai):Prop:=∃ v H',Inv X pins σ H' s'/\RelV v u/\Q v H'
noncomputable def TP (X:Cx) (pins:List (Addr×Obj)) (σ:St) (Q:Bool->Hp->Prop) (b:Bool) (s':ai):Prop:=∃ H',Inv X pins σ H' s'/\Q b H'
noncomputable def AP (X:Cx) (pins:List (Addr×Obj)) (σ:St) (Q:List V->Hp->Prop) (us:List Value) (s':ai):Prop:=∃ vs H',Inv X pins σ H' s'/\Vals vs us/\Q vs H'
noncomputable def SP (X:Cx) (pins:List (Addr×Obj)) (D:K2) (f:Flow) (s':ai):Prop:=
 match f with
 | .next=>∃ σ' H',Inv X pins σ' H' s'/\D.nx σ' H'
 | .brk=>∃ σ' H',Inv X pins σ' H' s'/\D.bk σ' H'
 | .cont=>∃ σ' H',Inv X pins σ' H' s'/\D.ct σ' H'
 | .ret u=>∃ v σ' H',Inv X pins σ' H' s'/\RelV v u/\D.rt v H'
noncomputable def PE (X:Cx) (e:Expr) (t:TE):Prop:=
 ∀ (pins:List (Addr×Obj)) (s:ai) (σ:St) (H:Hp) (Q:VK),Inv X pins σ H s->t σ H Q->aG (model X.prog X.w) X.A (eval e X.env) (EP X pins σ Q) X.xe s
noncomputable def PT (X:Cx) (e:Expr) (t:TT):Prop:=
 ∀ (pins:List (Addr×Obj)) (s:ai) (σ:St) (H:Hp) (Q:Bool->Hp->Prop),Inv X pins σ H s->t σ H Q->aG (model X.prog X.w) X.A (isTrue e X.env (eval e X.env)) (TP X pins σ Q) X.xe s
noncomputable def PW (X:Cx) (e:Expr) (t:TT):Prop:=
 ∀ (whole:Sem Value) (pins:List (Addr×Obj)) (s:ai) (σ:St) (H:Hp) (Q:Bool->Hp->Prop),Inv X pins σ H s->t σ H Q->aG (model X.prog X.w) X.A (isTrue e X.env whole) (TP X pins σ Q) X.xe s
theorem PW.pt {X:Cx} {e:Expr} {t:TT} (h:PW X e t):PT X e t:=h _
noncomputable def PA (X:Cx) (es:List Expr) (t:TA):Prop:=
 ∀ (pos:Pos) (pins:List (Addr×Obj)) (s:ai) (σ:St) (H:Hp) (Q:List V->Hp->Prop),Inv X pins σ H s->t σ H Q->aG (model X.prog X.w) X.A (spliced (jv pos (cV es X.env))) (AP X pins σ Q) X.xe s
noncomputable def PS (X:Cx) (st:Stmt) (t:TS):Prop:=
 ∀ (pins:List (Addr×Obj)) (s:ai) (σ:St) (H:Hp) (D:K2),Inv X pins σ H s->t D σ H->aG (model X.prog X.w) X.A (exec st X.env) (SP X pins D) X.xe s
noncomputable def PSs (X:Cx) (st:List Stmt) (t:TS):Prop:=
 ∀ (pins:List (Addr×Obj)) (s:ai) (σ:St) (H:Hp) (D:K2),Inv X pins σ H s->t D σ H->aG (model X.prog X.w) X.A (execs st X.env) (SP X pins D) X.xe s
theorem thn {α:Type} {t:Sem α} {Q Q':α->ai->Prop} {M:nG} {A:bg} {E:Value->ai->Prop} {s:ai} (h:aG M A t Q E s) (hQ:∀ a s,Q a s->Q' a s):aG M A t Q' E s:=bL h hQ fun _ _ x=>x
section
variable {X:Cx}
noncomputable def b46 (i:Nat):TE:=fun σ H Q=>∃ v,σ[i]? = some (some v)/\Q v H
noncomputable def tC (v:V):TE:=fun _ H Q=>Q v H
theorem a78 {i:Nat} {x:Str} {pos:Pos} (hN:X.N[i]? = some x) (hv:Vis X.env.scope x) (hd:(x==("__debug__" : Str))=false:=by decide) (hcd:(x==("__classdict__" : Str))=false:=by decide):PE X (.Name x pos) (b46 i):=by
 intro pins s σ H Q I h
 obtain⟨v,e,h⟩:=h
 obtain⟨m,hn,hl⟩:=I.loc
 obtain⟨u,r,l⟩:=hl i x v hN e hv
 have fin:EP X pins σ Q u s:=⟨v,H,I,r,h⟩
 rcases l with ⟨hk,hm⟩|⟨hk,c,hc,hcell⟩
 ·exact wpAny_Name (wpAny_loadName_local I.ok.kind hk hn hm fin) hd
 ·rcases hk with hk|hk
  ·exact wpAny_Name (wpAny_loadName_cell I.ok.kind hk hc hcell fin) hd
  ·exact wpAny_Name (wpAny_loadName_free I.ok.kind hk hc hcell fin hcd) hd
theorem a72 {i j pos}:PE X (.Constant (.int i) j pos) (tC (.int i)):=fun _ _ _ H _ I h=>wpAny_Constant_int ⟨.int i,H,I.tok _,⟨_,rfl⟩,h⟩
theorem bo9 {b j pos}:PE X (.Constant (.bool b) j pos) (tC (.bl b)):=fun _ _ _ H _ I h=>Constant_bool ⟨.bl b,H,I,rfl,h⟩
theorem a74 {j pos}:PE X (.Constant .none j pos) (tC .non):=fun _ _ _ H _ I h=>Constant_none ⟨.non,H,I,rfl,h⟩
theorem a76 {x j pos}:PE X (.Constant (.str x) j pos) (tC (.str x)):=fun _ _ _ H _ I h=>Calls.Constant_str ⟨.str x,H,I.tok _,⟨_,rfl⟩,h⟩
noncomputable def Gl (X:Cx) (x:Str):Prop:=X.env.kindOf x=some .globalImplicit
theorem Db {E:Value->ai->Prop} {pins:List (Addr×Obj)} {s:ai} {σ:St} {H:Hp} {x:Str} {u:Value} {pos:Pos} {Q:Value->ai->Prop} (I:Inv X pins σ H s) (hg:Gl X x) (hm:X.mg x=some u) (h:Q u s)
  (hd:(x==("__debug__" : Str))=false:=by decide):aG (model X.prog X.w) X.A (eval (.Name x pos) X.env) Q E s:=
 iY I.ok.kind hg (Calls.loadGlobal_global (by rw [I.ok.glob];exact I.mod.glob.keeps I.bk) hm h) hd
theorem Dk {E:Value->ai->Prop} {pins:List (Addr×Obj)} {s:ai} {σ:St} {H:Hp} {x:Str} {u:Value} {pos:Pos} {Q:Value->ai->Prop} (I:Inv X pins σ H s) (hg:Gl X x) (hm:X.mg x=none) (hv:cN x=some u) (h:Q u s)
  (hn:x ≠ "__name__" := by decide) (hd:(x==("__debug__" : Str))=false:=by decide):aG (model X.prog X.w) X.A (eval (.Name x pos) X.env) Q E s:=by
 obtain⟨mb,h1,h2⟩:=I.mod.blt
 exact iY I.ok.kind hg (Calls.loadGlobal_builtin (by rw [I.ok.glob];exact I.mod.glob.keeps I.bk) hm (by rw [I.ok.blt];exact h1.keeps I.bk) ((h2 x hn).trans hv) h) hd
theorem G1 {x:Str} {v:V} {u:Value} {pos:Pos} (hg:Gl X x) (hm:X.mg x=some u) (r:RelV v u) (hd:(x==("__debug__" : Str))=false:=by decide):PE X (.Name x pos) (tC v):=
 fun _ _ _ H _ I h=>Db I hg hm ⟨v,H,I,r,h⟩ hd
theorem al6 {x:Str} {v:V} {u:Value} {pos:Pos} (hg:Gl X x) (hm:X.mg x=none) (hv:cN x=some u) (r:RelV v u) (hn:x ≠ "__name__" := by decide) (hd:(x==("__debug__" : Str))=false:=by decide):PE X (.Name x pos) (tC v):=
 fun _ _ _ H _ I h=>Dk I hg hm hv ⟨v,H,I,r,h⟩ hn hd
variable {a b:Expr} {ta tb:TE} {pos:Pos}
variable {tA tB':TT} {rest:List Expr}
noncomputable def b37 (t u:TT):TT:=fun σ H Q=>t σ H fun c H1=>if c=true then u σ H1 Q else Q false H1
noncomputable def tOr (t u:TT):TT:=fun σ H Q=>t σ H fun c H1=>if c=true then Q true H1 else u σ H1 Q
noncomputable def b42 (t:TT):TT:=fun σ H Q=>t σ H fun c H1=>Q (!c) H1
theorem am8 (ha:PT X a tA):PW X (.BoolOp .And [a] pos) tA:=by
 intro wh pins s σ H Q I h
 refine isTrue_and (thn (ha pins s σ H Q I h) fun c s1 e=>?_)
 cases c with
 | true=>exact isTrue_and_nil e
 | false=>exact e
theorem a86 (ha:PT X a tA):PW X (.BoolOp .Or [a] pos) tA:=by
 intro wh pins s σ H Q I h
 refine isTrue_or (thn (ha pins s σ H Q I h) fun c s1 e=>?_)
 cases c with
 | false=>exact isTrue_or_nil e
 | true=>exact e
theorem a85 (ha:PT X a tA) (hb:PW X (.BoolOp .And (b::rest) pos) tB'):PW X (.BoolOp .And (a::b::rest) pos) (b37 tA tB'):=by
 intro wh pins s σ H Q I h
 refine isTrue_and (thn (ha pins s σ H _ I h) fun c s1 ⟨H1,I1,q1⟩=>?_)
 cases c with
 | true=>exact hb wh pins s1 σ H1 Q I1 q1
 | false=>exact⟨H1,I1,q1⟩
theorem bp6 (ha:PT X a tA) (hb:PW X (.BoolOp .Or (b::rest) pos) tB'):PW X (.BoolOp .Or (a::b::rest) pos) (tOr tA tB'):=by
 intro wh pins s σ H Q I h
 refine isTrue_or (thn (ha pins s σ H _ I h) fun c s1 ⟨H1,I1,q1⟩=>?_)
 cases c with
 | true=>exact⟨H1,I1,q1⟩
 | false=>exact hb wh pins s1 σ H1 Q I1 q1
theorem a84 (ha:PT X a tA):PT X (.UnaryOp .Not a pos) (b42 tA):=by
 intro pins s σ H Q I h
 exact isTrue_not (ha pins s σ H (fun c H1=>Q (!c) H1) I h)
theorem a75 {op} {t:TE} (h:PE X a t):PE X (.BoolOp op [a] pos) t:=fun pins s σ H Q I hw=>BoolOp_one (h pins s σ H Q I hw)
noncomputable def tIf (t:TT) (ta tb:TE):TE:=fun σ H Q=>t σ H fun c H1=>if c=true then ta σ H1 Q else tb σ H1 Q
theorem aa5 {c:Expr} (hc:PT X c tA) (ha:PE X a ta) (hb:PE X b tb):PE X (.IfExp c a b pos) (tIf tA ta tb):=by
 intro pins s σ H Q I h
 refine wpAny_IfExp (thn (hc pins s σ H _ I h) fun d s1 ⟨H1,I1,q1⟩=>?_)
 cases d with
 | true=>exact ha pins s1 σ H1 Q I1 q1
 | false=>exact hb pins s1 σ H1 Q I1 q1
end
noncomputable def SqL (K:aa) (H:Hp) (a:Addr) (xs:List V):Prop:=
 Rd H a (.lst xs) \/
  ∃ (o:Obj) (its:Array Value) (n:Nat),K.lookup a=some o/\o.cls=.type "list" /\ o.dict=none/\o.data=.seq its n/\its.size<=sizeLine/\xs.all V.pl=true/\Vals xs its.toList
noncomputable def SqT (K:aa) (H:Hp) (a:Addr) (xs:List V):Prop:=
 Rd H a (.tup xs) \/
  ∃ (o:Obj) (its:Array Value) (n:Nat),K.lookup a=some o/\o.cls=.type "tuple" /\ o.data=.seq its n/\its.size<=sizeLine/\xs.all V.pl=true/\Vals xs its.toList
noncomputable def b13:Value->Option V
 | .none=>some .non
 | .bool b=>some (.bl b)
 | .int i _=>some (.int i)
 | .str x _=>some (.str x)
 | .bytes b _=>some (.byt b)
 | .ref a=>some (.ref a)
 | .type n=>some (.ty n)
 | _=>none
theorem RelV.abs {x:V} {u:Value} (r:RelV x u) (p:x.pl=true):b13 u=some x:=by
 cases x with
 | non=>cases r;rfl
 | bl _=>cases r;rfl
 | int _=>obtain⟨t,rfl⟩:=r;rfl
 | str _=>obtain⟨t,rfl⟩:=r;rfl
 | byt _=>obtain⟨t,rfl⟩:=r;rfl
 | stk _ _ _=>cases p
 | ref _=>cases r;rfl
 | ty _=>cases r;rfl
theorem RelV.inj {x y:V} {u:Value} (r:RelV x u) (q:RelV y u) (p:x.pl=true) (p':y.pl=true):x=y:=aU ((r.abs p).symm.trans (q.abs p'))
theorem Vals.inj:∀ {xs ys:List V} {us:List Value},Vals xs us->Vals ys us->xs.all V.pl=true->ys.all V.pl=true->xs=ys
 | _,_,_,.nil,.nil,_,_=>rfl
 | _,_,_,.cons r t,.cons r' t',p,q=>by
  simp only [bF,aw] at p q
  rw [r.inj r' p.1 q.1,Vals.inj t t' p.2 q.2]
section
variable {X:Cx} {pins:List (Addr×Obj)} {σ:St} {H:Hp} {s:ai} {a:Addr} {xs ys:List V}
theorem SqL.of {K:aa} (h:H a=some (.lst xs)):SqL K H a xs:=.inl (.inl h)
theorem SqT.of {K:aa} (h:H a=some (.tup xs)):SqT K H a xs:=.inl (.inl h)
theorem Inv.list (I:Inv X pins σ H s) (h:SqL X.K H a xs):∃ its:List Value,Vals xs its/\PlainL s.heap a its.toArray/\xs.length<=sizeLine:=by
 rcases h with h|⟨o,its,n,hk,hc,hd,hs,hz,_,r⟩
 ·obtain⟨z,its,n,r,e⟩:=h.ok I.hok
  exact⟨its,r,⟨_,n,e,rfl,rfl,rfl⟩,z⟩
 ·refine⟨its.toList,r,⟨o,n,I.kIn a o hk,hc,hd,by simpa using hs⟩,?_⟩
  have e:=r.length
  simp only [aZ] at e
  omega
theorem Inv.tuple (I:Inv X pins σ H s) (h:SqT X.K H a xs):∃ its:List Value,Vals xs its/\nF s.heap a its.toArray/\xs.length<=sizeLine:=by
 rcases h with h|⟨o,its,n,hk,hc,hs,hz,_,r⟩
 ·obtain⟨z,its,r,p⟩:=h.ok I.hok
  exact⟨its,r,p,z⟩
 ·refine⟨its.toList,r,⟨o,I.kIn a o hk,hc,n,by simpa using hs⟩,?_⟩
  have e:=r.length
  simp only [aZ] at e
  omega
theorem Inv.notK (I:Inv X pins σ H s) {o:HO} {ob:Obj} (h:Rd H a o) (e:X.K.lookup a=some ob):False:=by
 have n:=(I.bs a ob (I.mod.kin a ob e)).2
 rcases h with h|⟨u,h⟩
 ·rw [n] at h;cases h
 ·rw [n] at h;cases h
theorem Inv.list_inj (I:Inv X pins σ H s) (h:SqL X.K H a xs) (h':SqL X.K H a ys):xs=ys:=by
 rcases h with h|⟨o,its,n,hk,hc,hd,hs,hz,p,r⟩
 ·rcases h' with h'|⟨o',its',n',hk',hc',hd',hs',hz',p',r'⟩
  ·rcases h with h|⟨u,h⟩ <;> rcases h' with h'|⟨u',h'⟩ <;> (rw [h] at h';first|(cases h';rfl)|cases h')
  ·exact (I.notK h hk').elim
 ·rcases h' with h'|⟨o',its',n',hk',hc',hd',hs',hz',p',r'⟩
  ·exact (I.notK h' hk).elim
  ·rw [hk] at hk';cases hk'
   rw [hs] at hs';cases hs'
   exact r.inj r' p p'
theorem Inv.tuple_inj (I:Inv X pins σ H s) (h:SqT X.K H a xs) (h':SqT X.K H a ys):xs=ys:=by
 rcases h with h|⟨o,its,n,hk,hc,hs,hz,p,r⟩
 ·rcases h' with h'|⟨o',its',n',hk',hc',hs',hz',p',r'⟩
  ·rcases h with h|⟨u,h⟩ <;> rcases h' with h'|⟨u',h'⟩ <;> (rw [h] at h';first|(cases h';rfl)|cases h')
  ·exact (I.notK h hk').elim
 ·rcases h' with h'|⟨o',its',n',hk',hc',hs',hz',p',r'⟩
  ·exact (I.notK h' hk).elim
  ·rw [hk] at hk';cases hk'
   rw [hs] at hs';cases hs'
   exact r.inj r' p p'
end
noncomputable abbrev Cx.wish (X:Cx) (E:Value->ai->Prop):Cx:={ X with xe:=E }
noncomputable abbrev Cx.nox (X:Cx):Cx:=X.wish fun _ _=>False
theorem Cx.Ok.wish {X:Cx} (ok:X.Ok) (E:Value->ai->Prop):(X.wish E).Ok:=
 ⟨ok.mod,ok.kind,ok.glob,ok.blt,ok.above,ok.inj,ok.has,ok.cab,ok.hd,ok.frames,ok.stk,ok.exf,ok.bs,ok.bsz,ok.noex,ok.exfs,ok.funs,ok.frf,ok.tk⟩
theorem Cx.Ok.unwish {X:Cx} {E:Value->ai->Prop} (ok:(X.wish E).Ok):X.Ok:=
 ⟨ok.mod,ok.kind,ok.glob,ok.blt,ok.above,ok.inj,ok.has,ok.cab,ok.hd,ok.frames,ok.stk,ok.exf,ok.bs,ok.bsz,ok.noex,ok.exfs,ok.funs,ok.frf,ok.tk⟩
section
variable {X:Cx} {pins:List (Addr×Obj)} {σ:St} {H:Hp} {s:ai} {E:Value->ai->Prop}
theorem Inv.wish (I:Inv X pins σ H s) (E:Value->ai->Prop):Inv (X.wish E) pins σ H s:=⟨I.ok.wish E,I.os,I.bare,I.base,I.loc,I.cell,I.free,I.freeC,I.pin,I.hok,I.len⟩
theorem Inv.unwish (I:Inv (X.wish E) pins σ H s):Inv X pins σ H s:=⟨I.ok.unwish,I.os,I.bare,I.base,I.loc,I.cell,I.free,I.freeC,I.pin,I.hok,I.len⟩
theorem SP.unwish {D:K2} {f:Flow} {s':ai} (h:SP (X.wish E) pins D f s'):SP X pins D f s':=by
 cases f with
 | next=>obtain⟨σ',H',I,q⟩:=h;exact⟨σ',H',I.unwish,q⟩
 | brk=>obtain⟨σ',H',I,q⟩:=h;exact⟨σ',H',I.unwish,q⟩
 | cont=>obtain⟨σ',H',I,q⟩:=h;exact⟨σ',H',I.unwish,q⟩
 | ret u=>obtain⟨v,σ',H',I,r,q⟩:=h;exact⟨v,σ',H',I.unwish,r,q⟩
theorem PSs.nox {st:List Stmt} {t:TS} (h:PSs X.nox st t):PSs X st t:=fun pins s σ H D I hw=>
 bL (h pins s σ H D (I.wish _) hw) (fun _ _ q=>q.unwish) fun _ _ z=>cA z
end
section
variable {X:Cx} {st:Stmt} {rest:List Stmt} {t u:TS} {e:Expr} {te:TE} {pos:Pos}
noncomputable def ax5:TS:=fun D σ H=>D.nx σ H
noncomputable def b44 (t u:TS):TS:=fun D σ H=>t { D with nx:=u D } σ H
theorem am5:PSs X [] ax5:=fun _ _ σ H _ I h=>iT ⟨σ,H,I,h⟩
theorem ab5 (h1:PS X st t) (h2:PSs X rest u):PSs X (st::rest) (b44 t u):=by
 intro pins s σ H D I h
 refine wpAny_execs_cons (thn (h1 pins s σ H { D with nx:=u D } I h) fun f s1 q=>?_)
 cases f with
 | next=>
  obtain⟨σ',H',I',q⟩:=q
  exact h2 pins s1 σ' H' D I' q
 | ret v=>exact q
 | brk=>exact q
 | cont=>exact q
noncomputable def bf9:TS:=fun D σ H=>D.bk σ H
noncomputable def bw8:TS:=fun D σ H=>D.ct σ H
theorem am3:PS X (.Pass pos) ax5:=fun _ _ σ H _ I h=>wpAny_Pass ⟨σ,H,I,h⟩
theorem ab2:PS X (.Break pos) bf9:=fun _ _ σ H _ I h=>wpAny_Break ⟨σ,H,I,h⟩
theorem Oz:PS X (.Continue pos) bw8:=fun _ _ σ H _ I h=>wpAny_Continue ⟨σ,H,I,h⟩
theorem Inv.quiet {pins:List (Addr×Obj)} {σ:St} {H:Hp} {s:ai} (I:Inv X pins σ H s):interactive X.env=false:=by simp [interactive,I.ok.kind]
noncomputable def bw9 (te:TE):TS:=fun D σ H=>te σ H fun _ H1=>D.nx σ H1
theorem am2 (he:PE X e te) (hs:jx e none pos.line X.env=pure false:=by rfl):PS X (.Expr e pos) (bw9 te):=by
 intro pins s σ H D I h
 exact wpAny_Expr_any (thn (he pins s σ H _ I h) fun v s1 ⟨x,H1,I1,r1,q1⟩=>⟨σ,H1,I1,q1⟩) I.quiet hs
noncomputable def b43 (te:TE):TS:=fun D σ H=>te σ H D.rt
theorem a82 (he:PE X e te):PS X (.Return (some e) pos) (b43 te):=by
 intro pins s σ H D I h
 exact wpAny_Return_some (thn (he pins s σ H _ I h) fun v s1 ⟨x,H1,I1,r1,q1⟩=>⟨x,σ,H1,I1,r1,q1⟩)
noncomputable def bx0:TS:=fun D _ H=>D.rt .non H
theorem am4:PS X (.Return none pos) bx0:=fun _ _ σ H _ I h=>wpAny_Return_none ⟨.non,σ,H,I,rfl,h⟩
noncomputable def b39 (c:TT) (t u:TS):TS:=fun D σ H=>c σ H fun b H1=>if b=true then t D σ H1 else u D σ H1
theorem bp5 {c:Expr} {a b:List Stmt} {tc:TT} (hc:PT X c tc) (ha:PSs X a t) (hb:PSs X b u):PS X (.If c a b pos) (b39 tc t u):=by
 intro pins s σ H D I h
 refine wpAny_If (thn (hc pins s σ H _ I h) fun d s1 ⟨H1,I1,q1⟩=>?_)
 cases d with
 | true=>exact ha pins s1 σ H1 D I1 q1
 | false=>exact hb pins s1 σ H1 D I1 q1
end
noncomputable abbrev TG:=V->St->Hp->(St->Hp->Prop)->Prop
noncomputable abbrev TGs:=List V->St->Hp->(St->Hp->Prop)->Prop
noncomputable def PG (X:Cx) (target:Expr) (t:TG):Prop:=
 ∀ (pins:List (Addr×Obj)) (s:ai) (σ:St) (H:Hp) (v:V) (u:Value) (Q:St->Hp->Prop),Inv X pins σ H s->RelV v u->t v σ H Q ->
  aG (model X.prog X.w) X.A (mx target X.env u) (fun _ s'=>∃ σ' H',Inv X pins σ' H' s'/\Q σ' H') X.xe s
noncomputable def PGs (X:Cx) (ts:List Expr) (t:TGs):Prop:=
 ∀ (pins:List (Addr×Obj)) (s:ai) (σ:St) (H:Hp) (vs:List V) (us:List Value) (Q:St->Hp->Prop),Inv X pins σ H s->Vals vs us->t vs σ H Q ->
  aG (model X.prog X.w) X.A (assignInOrder ((dE ts X.env).map (·.2)) us) (fun _ s'=>∃ σ' H',Inv X pins σ' H' s'/\Q σ' H') X.xe s
noncomputable abbrev a17:=V->V->V->Hp->(Hp->Prop)->Prop
noncomputable def a15 (X:Cx) (t:a17):Prop:=
 ∀ (pins:List (Addr×Obj)) (s:ai) (σ:St) (H:Hp) (o i v:V) (ov iv u:Value) (Q:Hp->Prop),Inv X pins σ H s->RelV o ov->RelV i iv->RelV v u->t o i v H Q ->
  aG (model X.prog X.w) X.A (setItem ov iv u) (fun _ s'=>∃ H',Inv X pins σ H' s'/\Q H') X.xe s
section
variable {X:Cx} {pos:Pos}
noncomputable def Zb (i:Nat):TG:=fun v σ H Q=>Q (σ.set i (some v)) H
theorem al8 {i:Nat} {x:Str} (hN:X.N.Nodup) (hi:X.N[i]? = some x) (hx:Loc X.env.scope x) (hf:X.fn x=true\/X.env.scope.names.lookup x=some .local:=by first|exact .inl rfl|exact .inr rfl|assumption):PG X (.Name x pos) (Zb i):=by
 intro pins s σ H v u Q I r h
 exact wpAny_assign_Name (G6 I hN hi hx r (fun s' I'=>⟨_,H,I',h⟩) hf)
noncomputable def b16:TGs:=fun vs σ H Q=>vs=[]/\Q σ H
noncomputable def bk1 (t:TG) (u:TGs):TGs:=fun vs σ H Q=>∃ v r,vs=v::r/\t v σ H fun σ' H'=>u r σ' H' Q
theorem al9:PGs X [] b16:=by
 intro pins s σ H vs us Q I r h
 obtain⟨e,h⟩:=h
 subst e
 cases r
 exact assignInOrder_nil ⟨σ,H,I,h⟩
theorem aa6 {e:Expr} {es:List Expr} {t:TG} {u:TGs} (h1:PG X e t) (h2:PGs X es u)
  (hs:(dE (e::es) X.env).map (·.2)=mx e X.env::(dE es X.env).map (·.2):=by rfl):PGs X (e::es) (bk1 t u):=by
 intro pins s σ H vs us Q I r h
 obtain⟨v,vr,e1,h⟩:=h
 subst e1
 cases r with
 | cons r rr=>
  rw [hs]
  refine assignInOrder_cons (thn (h1 pins s σ H _ _ _ I r h) fun _ s1 ⟨σ1,H1,I1,q1⟩=>?_)
  exact h2 pins s1 σ1 H1 _ _ Q I1 rr q1
noncomputable def b18 (K:aa) (n:Nat) (t:TGs):TG:=fun v σ H Q=>∃ a xs,v=.ref a/\SqT K H a xs/\xs.length=n/\t xs σ H Q
theorem a80 {es:List Expr} {k:Nat} {t:TGs} {n:Nat} (hc:X.calm=true) (h:PGs X es t)
  (hn:(dE es X.env).length=n:=by rfl) (hst:(dE es X.env).findIdx? (·.1)=none:=by rfl):PG X (.Tuple es k pos) (b18 X.K n t):=by
 intro pins s σ H v u Q I r hw
 obtain⟨a,xs,e1,hq,hl,hw⟩:=hw
 subst e1
 cases r
 obtain⟨its,rv,ht,hz⟩:=I.tuple hq
 refine assign_Tuple_tuple (I.ok.hd hc) ht (by simp [hn,<- hl,rv.length]) hst fun h' hx=>?_
 have I1:Inv X pins σ H { s with heap:=h' }:=I.kept (t':=s.toks) fun b o e=>hx b o (aE (au e)) e
 exact h pins _ σ H xs _ Q I1 (by simpa using rv) hw
noncomputable def b17 (to ti:TE) (t:a17):TG:=fun v σ H Q=>to σ H fun o H1=>ti σ H1 fun i H2=>t o i v H2 fun H3=>Q σ H3
theorem a79 {o i:Expr} {to ti:TE} {t:a17} (ho:PE X o to) (hi:PE X i ti) (hs:a15 X t)
  (ha:∀ v,mx (.Subscript o i pos) X.env v=(do
   let ov <- nA [v] (eval o X.env)
   let iv <- nA [v,ov] (eval i X.env)
   lH pos
   nA [v,ov,iv] (setItem ov iv v)
   release [v,ov,iv] []):=by intro _;rfl):PG X (.Subscript o i pos) (b17 to ti t):=by
 intro pins s σ H v u Q I r h
 rw [ha]
 refine ac (bp (thn (ho pins s σ H _ I h) fun ov s1 ⟨x,H1,I1,r1,q1⟩=>?_))
 refine ac (bp (thn (hi pins s1 σ H1 _ I1 q1) fun iv s2 ⟨y,H2,I2,r2,q2⟩=>?_))
 refine ac (dS (ac (bp (thn (hs pins s2 σ H2 x y v ov iv u _ I2 r1 r2 r q2) fun _ s3 ⟨H3,I3,q3⟩=>?_))))
 exact wpAny_release ⟨σ,H3,I3,q3⟩
noncomputable def bf8 (te:TE) (g:TG):TS:=fun D σ H=>te σ H fun x H1=>g x σ H1 D.nx
theorem ab1 {tg e:Expr} {te:TE} {g:TG} (he:PE X e te) (hg:PG X tg g) (hs:l_ [tg] e pos.line X.env=pure false:=by rfl) (hw:swappedStores [tg] e X.env=pure none:=by rfl)
  (h1:(dE [tg] X.env).map (·.2)=[mx tg X.env]:=by rfl):PS X (.Assign [tg] e pos) (bf8 te g):=by
 intro pins s σ H D I h
 refine wpAny_Assign_stores (thn (he pins s σ H _ I h) fun v s1 ⟨x,H1,I1,r1,q1⟩=>?_) hs hw
 rw [h1]
 exact thn (hg pins s1 σ H1 x v _ I1 r1 q1) fun _ s2 q=>q
theorem a83 {i:Nat} {x:Str} {e:Expr} {te:TE} {pos':Pos} (hN:X.N.Nodup) (hi:X.N[i]? = some x) (hx:Loc X.env.scope x) (he:PE X e te) (hs:jx e (some (.Name x pos')) pos.line X.env=pure false:=by rfl) (hf:X.fn x=true\/X.env.scope.names.lookup x=some .local:=by first|exact .inl rfl|exact .inr rfl|assumption) :
  PS X (.Assign [.Name x pos'] e pos) (bf8 te (Zb i)):=by
 intro pins s σ H D I h
 refine wpAny_Assign_Name (thn (he pins s σ H _ I h) fun v s1 ⟨y,H1,I1,r1,q1⟩=>?_) hs
 exact G6 I1 hN hi hx r1 (fun s2 I2=>⟨_,H1,I2,q1⟩) hf
noncomputable def bg0 (c:TT) (tb:TS):TS:=fun D σ H=>∃ W:Nat->St->Hp->Prop,(∃ m,W m σ H) /\ ∀ m σ H,W m σ H ->
 c σ H fun b H1=>if b=true then ∃ N:St->Hp->Prop,(∀ σ' H',N σ' H' -> ∃ m',m'<m/\W m' σ' H')/\tb { D with nx:=N,ct:=N,bk:=D.nx } σ H1 else D.nx σ H1
theorem ab4 {c:Expr} {body:List Stmt} {tc:TT} {tb:TS} (hp:hZ (model X.prog X.w) X.A X.env X.xe) (hc:PT X c tc) (hb:PSs X body tb):PS X (.While c body [] pos) (bg0 tc tb):=by
 intro pins s σ H D I h
 obtain⟨W,⟨m0,w0⟩,turn⟩:=h
 refine wpAny_While (codeAny_whileLoop (fun n s'=>∃ σ' H',Inv X pins σ' H' s'/\W n σ' H') ?_ m0 ⟨σ,H,I,w0⟩)
 rintro n s1 ⟨σ1,H1,I1,w1⟩
 refine eO hp (thn (hc pins s1 σ1 H1 _ I1 (turn n σ1 H1 w1)) fun b s2 ⟨H2,I2,q2⟩=>?_)
 cases b with
 | true=>
  obtain⟨N,hN,q2⟩:=q2
  rw [if_pos rfl]
  refine eO hp (thn (hb pins s2 σ1 H2 _ I2 q2) fun f s3 q3=>?_)
  cases f with
  | next=>
   obtain⟨σ3,H3,I3,n3⟩:=q3
   obtain⟨m',hm,w3⟩:=hN σ3 H3 n3
   exact⟨m',hm,σ3,H3,I3,w3⟩
  | cont=>
   obtain⟨σ3,H3,I3,n3⟩:=q3
   obtain⟨m',hm,w3⟩:=hN σ3 H3 n3
   exact⟨m',hm,σ3,H3,I3,w3⟩
  | brk=>exact q3
  | ret v=>exact q3
 | false=>
  rw [if_neg ak]
  exact iT ⟨σ1,H2,I2,q2⟩
end
structure It where
 go:Nat->Hp->Prop
 yld:Nat->Hp->V->Hp->Prop
 stop:Nat->Hp->Prop
noncomputable def Cs (X:Cx) (pins:List (Addr×Obj)) (H:Hp) (b:Addr):Prop:=
 H b=none/\b≠X.env.locals/\b∉X.fs/\(b∈X.ex\/X.s₀.heap.objs.size<=b)/\(∀ x c,X.env.cells.lookup x=some c->c≠b) /\ ∀ p∈X.pn++pins,p.1≠b
theorem Inv.fpOk {X:Cx} {pins:List (Addr×Obj)} {σ:St} {H H':Hp} {s:ai} {b:Addr} (I:Inv X pins σ H s) (hb:s.heap.objs.size<=b) (hn:H' b=none):Cs X pins H' b:=by
 refine⟨hn,dz (aO I.lt hb),I.nofs hb,.inr (aS I.sz hb),fun x c e z=>?_,fun p hp z=>?_⟩
 ·obtain⟨v,q⟩:=I.cell x c e
  exact absurd (aO q.lt (by rw [z];exact hb)) (eY _)
 ·exact absurd (aO (au (I.pin p hp).1) (by rw [z];exact hb)) (eY _)
structure K3 (P:aK) (w:bt) (K:aa) (tg:Expr) (J:It) (fp:List Addr) (it:Addr) (tn:Nat->Heap->Prop):Prop where
 mem:it∈fp
 obj:∀ i h,tn i h -> ∀ b∈fp,∃ o,h.get? b=some o /\ ∀ v,o.data≠.cell v
 keep:∀ i h h',tn i h->(∀ b∈fp,∀ o,h.get? b=some o->h'.get? b=some o)->tn i h'
 item:∀ (X:Cx),X.prog=P->X.w=w->X.K=K->X.calm=true -> ∀ (i:Nat) (pins:List (Addr×Obj)) (s:ai) (σ:St) (H:Hp) (E:Value->ai->Prop),Inv X pins σ H s->(∀ b∈fp,Cs X pins H b)->tn i s.heap->J.go i H ->
  aG (model P w) X.A (i7 (.ref it)) (fun r s1=>∃ u,r=some u /\
   aG (model P w) X.A (iP tg (.ref it) u) (fun _ s2=>∃ x H',Inv X pins σ H' s2/\RelV x u/\J.yld i H x H'/\tn (i+1) s2.heap /\ ∀ b∈fp,H' b=none) E s1) E s
 done:∀ (X:Cx),X.prog=P->X.w=w->X.K=K->X.calm=true -> ∀ (i:Nat) (pins:List (Addr×Obj)) (s:ai) (σ:St) (H:Hp) (E:Value->ai->Prop),Inv X pins σ H s->(∀ b∈fp,Cs X pins H b)->tn i s.heap->J.stop i H ->
  aG (model P w) X.A (i7 (.ref it)) (fun r s1=>r=none/\Inv X pins σ H s1) E s
 self:∀ (A:bg) (i:Nat) (s:ai) (Q:Value->ai->Prop) (E:Value->ai->Prop),tn i s.heap->Q (.ref it) s->aG (model P w) A (mT (.ref it)) Q E s
noncomputable abbrev TI:=St->Hp->(It->Hp->Prop)->Prop
noncomputable def PIE (X:Cx) (pins:List (Addr×Obj)) (σ:St) (tg:Expr) (R:It->Hp->Prop) (itv:Value) (s2:ai):Prop:=
 ∃ (it:Addr) (fp:List Addr) (tn:Nat->Heap->Prop) (J:It) (H':Hp),itv=.ref it/\Inv X pins σ H' s2/\K3 X.prog X.w X.K tg J fp it tn/\tn 0 s2.heap/\(∀ b∈fp,Cs X pins H' b)/\R J H'
noncomputable def PI (X:Cx) (tg iter:Expr) (wi:TI):Prop:=
 ∀ (pins:List (Addr×Obj)) (s:ai) (σ:St) (H:Hp) (R:It->Hp->Prop),Inv X pins σ H s->wi σ H R ->
  aG (model X.prog X.w) X.A (eval iter X.env) (fun v s1=>aG (model X.prog X.w) X.A (mT v) (PIE X pins σ tg R) X.xe s1) X.xe s
theorem Ju {M:nG} {A:bg} {E:Value->ai->Prop} {s:ai} {tg:Expr} {it:Addr} {u:Value} {o:Obj} {n:String} {vs:Array Value} {Q:Unit->ai->Prop} (ho:s.heap.get? it=some o) (hc:o.cls=.type n) (hd:o.data=.fields vs)
    (hn:["enumerate", "zip", "dict_itemiterator", "dict_reverseitemiterator", "odict_iterator", "itertools.zip_longest", "itertools.pairwise"].contains n=false) (hQ:Q () s):aG M A (iP tg (.ref it) u) Q E s:=by
  unfold iP
  cases tg <;> first
    | exact ah hQ
    | (cases u <;> first
        | exact ah hQ
        | (refine ac (mo ho ?_)
           rw [hc,hd]
           show aG M A (if (["enumerate", "zip", "dict_itemiterator", "dict_reverseitemiterator", "odict_iterator", "itertools.zip_longest", "itertools.pairwise"].contains n&&vs[0]? == some (dZ _))=true then _ else _) Q E s
           rw [if_neg (by intro h;rw [hn,kU] at h;cases h)]
           exact ah hQ))
noncomputable def Itl (K:aa) (a:Addr):It:=
 ⟨fun i H=>∃ xs x,SqL K H a xs/\xs[i]? = some x,fun i H x H'=>H'=H /\ ∀ xs,SqL K H a xs->xs[i]? = some x,fun i H=>∃ xs,SqL K H a xs/\xs.length<=i⟩
noncomputable def Itt (K:aa) (a:Addr):It:=
 ⟨fun i H=>∃ xs x,SqT K H a xs/\xs[i]? = some x,fun i H x H'=>H'=H /\ ∀ xs,SqT K H a xs->xs[i]? = some x,fun i H=>∃ xs,SqT K H a xs/\xs.length<=i⟩
noncomputable def Itr (lo:Int) (n:Nat):It:=⟨fun i _=>i<n,fun i H x H'=>H'=H/\x=.int (lo+i),fun i _=>n<=i⟩
theorem Xb {P:aK} {w:bt} {K:aa} {tg:Expr} (a it:Addr):K3 P w K tg (Itl K a) [it] it (fun i h=>h.IsListIter it a i) where
 mem:=by simp
 obj:=fun i h st b hb=>by
  have e:b=it:=by simpa using hb
  subst e
  obtain⟨o,e,c,d⟩:=st
  exact⟨o,e,fun v z=>by rw [d] at z;cases z⟩
 keep:=fun i h h' st k=>st.at fun o e=>k it (by simp) o e
 item:=by
  intro X hP hw hK hc i pins s σ H E I hf st hg
  subst hP hw hK
  obtain⟨xs,x,hq,hx⟩:=hg
  obtain⟨its,rv,p,hz⟩:=I.list hq
  obtain⟨u,hu,ru⟩:=rv.get hx
  obtain⟨f0,f1,f2,f3,f4,f5⟩:=hf it (by simp)
  refine wpAny_pyNext_list_item st p.isList (x:=u) (by simpa using hu) fun h' st' sb=>?_
  have I1:Inv X pins σ H { s with heap:=h' }:=I.turned (t':=s.toks) (fun b o hb e=>(sb.2 b hb).trans e) f0 f1 f3 f4 f5
  obtain⟨o,e,c,d⟩:=id st'
  exact⟨u,rfl,Ju (s:={ s with heap:=h' }) e c d (by decide) ⟨x,H,I1,ru,⟨rfl,fun ys hy=>by rw [I.list_inj hy hq];exact hx⟩,st',fun b hb=>(hf b hb).1⟩⟩
 done:=by
  intro X hP hw hK hc i pins s σ H E I hf st hg
  subst hP hw hK
  obtain⟨xs,hq,hx⟩:=hg
  obtain⟨its,rv,p,hz⟩:=I.list hq
  obtain⟨f0,f1,f2,f3,f4,f5⟩:=hf it (by simp)
  have hl:=rv.length
  exact wpAny_pyNext_list_end (I.ok.hd hc) st p.isList (by simp;omega) fun h' eb=>⟨rfl,I.turned (t':=s.toks) (fun b o hb e=>eb b o hb e) f0 f1 f3 f4 f5⟩
 self:=fun _ _ _ _ _ st h=>wpAny_pyIter_listiter st h
theorem Sx {P:aK} {w:bt} {K:aa} {tg:Expr} (a it:Addr):K3 P w K tg (Itt K a) [it] it (fun i h=>h.IsTupleIter it a i) where
 mem:=by simp
 obj:=fun i h st b hb=>by
  have e:b=it:=by simpa using hb
  subst e
  obtain⟨o,e,c,d⟩:=st
  exact⟨o,e,fun v z=>by rw [d] at z;cases z⟩
 keep:=fun i h h' st k=>st.at fun o e=>k it (by simp) o e
 item:=by
  intro X hP hw hK hc i pins s σ H E I hf st hg
  subst hP hw hK
  obtain⟨xs,x,hq,hx⟩:=hg
  obtain⟨its,rv,p,hz⟩:=I.tuple hq
  obtain⟨u,hu,ru⟩:=rv.get hx
  obtain⟨f0,f1,f2,f3,f4,f5⟩:=hf it (by simp)
  refine wpAny_pyNext_tuple_item st (show s.heap.IsTuple a its.toArray from p) (x:=u) (by simpa using hu) fun h' st' sb=>?_
  have I1:Inv X pins σ H { s with heap:=h' }:=I.turned (t':=s.toks) (fun b o hb e=>(sb.2 b hb).trans e) f0 f1 f3 f4 f5
  obtain⟨o,e,c,d⟩:=id st'
  exact⟨u,rfl,Ju (s:={ s with heap:=h' }) e c d (by decide) ⟨x,H,I1,ru,⟨rfl,fun ys hy=>by rw [I.tuple_inj hy hq];exact hx⟩,st',fun b hb=>(hf b hb).1⟩⟩
 done:=by
  intro X hP hw hK hc i pins s σ H E I hf st hg
  subst hP hw hK
  obtain⟨xs,hq,hx⟩:=hg
  obtain⟨its,rv,p,hz⟩:=I.tuple hq
  obtain⟨f0,f1,f2,f3,f4,f5⟩:=hf it (by simp)
  have hl:=rv.length
  exact wpAny_pyNext_tuple_end (I.ok.hd hc) st (show s.heap.IsTuple a its.toArray from p) (by simp;omega) fun h' eb=>⟨rfl,I.turned (t':=s.toks) (fun b o hb e=>eb b o hb e) f0 f1 f3 f4 f5⟩
 self:=fun _ _ _ _ _ st h=>wpAny_pyIter_tupleiter st h
theorem Sw {P:aK} {w:bt} {K:aa} {tg:Expr} (it:Addr) (lo:Int) (n:Nat):K3 P w K tg (Itr lo n) [it] it (fun i h=>k_ h it (lo+(i:Nat) * 1) ((n:Int) - (i:Nat)) 1) where
 mem:=by simp
 obj:=fun i h st b hb=>by
  have e:b=it:=by simpa using hb
  subst e
  exact⟨_,st,fun v z=>by
   have z':Data.fields _=Data.cell v:=z
   cases z'⟩
 keep:=fun i h h' st k=>k it (by simp) _ st
 item:=by
  intro X hP hw hK hc i pins s σ H E I hf st hg
  subst hP hw hK
  obtain⟨f0,f1,f2,f3,f4,f5⟩:=hf it (by simp)
  have W:=Walks.range (prog:=X.prog) (w:=X.w) (I.ok.hd hc) it lo 1 n
  refine bE (ae _) (W.item i s _ _ hg st fun v h' tk hv st' kk htk=>?_)
  obtain⟨t,rfl⟩:=hv
  have I1:Inv X pins σ H { s with heap:=h',toks:=tk }:=I.turned (fun b o hb e=>kk b o (by simpa using hb) e) f0 f1 f3 f4 f5
  refine⟨_,rfl,Ju (s:={ s with heap:=h',toks:=tk }) (n := "range_iterator") st' rfl rfl (by decide) ⟨.int (lo+i),H,I1,⟨t,?_⟩,⟨rfl,rfl⟩,st',fun b hb=>(hf b hb).1⟩⟩
  rw [Int.mul_one]
 done:=by
  intro X hP hw hK hc i pins s σ H E I hf st hg
  subst hP hw hK
  obtain⟨f0,f1,f2,f3,f4,f5⟩:=hf it (by simp)
  exact j9 (I.ok.hd hc) st (by have:n<=i:=hg;omega) fun h' eb=>⟨rfl,I.turned (t':=s.toks) (fun b o hb e=>eb b o hb e) f0 f1 f3 f4 f5⟩
 self:=fun _ _ _ _ _ st h=>j7 st h
section
variable {X:Cx} {tg:Expr}
theorem O7 {pins:List (Addr×Obj)} {σ:St} {H:Hp} {s:ai} {R:It->Hp->Prop} {E:Value->ai->Prop} {lo hi:Int} {t u v:Tok} {tk:Nat} (I:Inv X pins σ H s) (htk:s.toks<=tk) (h1:-(2 ^ 62)<=lo) (h2:lo<2 ^ 62) (h3:-(2 ^ 62)<=hi) (h4:hi<2 ^ 62)
  (q:R (Itr lo (hi - lo).toNat) H):aG (model X.prog X.w) X.A (mT (.ref s.heap.objs.size)) (PIE X pins σ tg R) E { s with heap:=s.heap.push { cls:=.type "range", data:=.fields #[.int lo t,.int hi u,.int 1 v] },toks:=tk }:=by
 refine mf (IsRange.new ..) (small_one h1 h2 h3 h4) ?_
 have I1:Inv X pins σ H { s with heap:=s.heap.push { cls:=.type "range", data:=.fields #[.int lo t,.int hi u,.int 1 v] },toks:=tk }:=I.kept fun b o e=>af _ e
 refine⟨(s.heap.push { cls:=.type "range", data:=.fields #[.int lo t,.int hi u,.int 1 v] }).objs.size,[(s.heap.push { cls:=.type "range", data:=.fields #[.int lo t,.int hi u,.int 1 v] }).objs.size],_,_,H,rfl,
  I1.kept (t':=tk) fun b o e=>af _ e,Sw _ lo (hi - lo).toNat,?_,fun b hb=>?_,q⟩
 ·have e1:lo+((0:Nat):Int) * 1=lo:=by simp
  have e2:(((hi - lo).toNat:Nat):Int) - ((0:Nat):Int)=cz lo hi 1:=by rw [rangeSize_one];split <;> omega
  show k_ _ _ (lo+((0:Nat):Int) * 1) ((((hi - lo).toNat:Nat):Int) - ((0:Nat):Int)) 1
  rw [e1,e2]
  exact aq _ rfl
 ·have e:b=(s.heap.push { cls:=.type "range", data:=.fields #[.int lo t,.int hi u,.int 1 v] }).objs.size:=by simpa using hb
  subst e
  exact I1.fpOk (ae _) (I1.hok.fresh (ae _))
noncomputable def b38 (wi:TI) (g:TG) (tb:TS):TS:=fun D σ H=>wi σ H fun J H1=>∃ W:Nat->Nat->St->Hp->Prop,(∃ m,W 0 m σ H1) /\ ∀ i m σ H,W i m σ H ->
 (J.stop i H/\D.nx σ H)\/(J.go i H /\ ∃ N:St->Hp->Prop,(∀ σ' H',N σ' H' -> ∃ m',m'<m/\W (i+1) m' σ' H') /\ ∀ x H',J.yld i H x H'->g x σ H' fun σ2 H2=>tb { D with nx:=N,ct:=N,bk:=D.nx } σ2 H2)
noncomputable def Hw (fp:List Addr) (h:Heap):List (Addr×Obj):=fp.filterMap fun b=>(h.get? b).map fun o=>(b,o)
theorem Ej {fp:List Addr} {h:Heap} {b:Addr} {o:Obj} (hb:b∈fp) (e:h.get? b=some o):(b,o)∈Hw fp h:=List.mem_filterMap.mpr ⟨b,hb,by rw [e];rfl⟩
theorem Wp {fp:List Addr} {h:Heap} {p:Addr×Obj} (hp:p∈Hw fp h):p.1∈fp/\h.get? p.1=some p.2:=by
 obtain⟨b,hb,e⟩:=List.mem_filterMap.mp hp
 cases q:h.get? b with
 | none=>rw [q] at e;cases e
 | some o=>
  rw [q] at e
  have e':(b,o)=p:=aU e
  subst e'
  exact⟨hb,q⟩
theorem Inv.pinned {pins:List (Addr×Obj)} {σ:St} {H:Hp} {s:ai} {fp:List Addr} (I:Inv X pins σ H s) (hf:∀ b∈fp,Cs X pins H b) (ho:∀ b∈fp,∃ o,s.heap.get? b=some o /\ ∀ v,o.data≠.cell v):Inv X (pins++Hw fp s.heap) σ H s:=
 I.pins_of fun p hp=>(List.mem_append.mp hp).elim (fun z=>I.pin p (bn _ z)) fun z=>by
  obtain⟨hb,e⟩:=Wp z
  obtain⟨f0,f1,f2,_⟩:=hf p.1 hb
  obtain⟨o,e',d⟩:=ho p.1 hb
  rw [e] at e';cases e'
  exact⟨e,f0,f1,f2,d⟩
theorem Inv.unpinned {pins pl:List (Addr×Obj)} {σ:St} {H:Hp} {s:ai} (I:Inv X (pins++pl) σ H s):Inv X pins σ H s:=I.pins_of fun p hp=>I.pin p (bn _ (d7 _ hp))
theorem a81 {iter:Expr} {body:List Stmt} {wi:TI} {g:TG} {tb:TS} {pos:Pos} (hp:hZ (model X.prog X.w) X.A X.env X.xe) (hc:X.calm=true) (hi:PI X tg iter wi) (hg:PG X tg g) (hb:PSs X body tb)
  (hs:∀ x,fX iter X.env x=pure x:=by intro _;rfl):PS X (.For tg iter body [] pos) (b38 wi g tb):=by
 intro pins s σ H D I h
 refine wpAny_For (thn (hi pins s σ H _ I h) fun v s1 h1=>thn h1 fun itv s2 h2=>?_) hs
 obtain⟨it,fp,tn,J,H2,e,I2,T,st2,f2,W,⟨m0,w0⟩,turn⟩:=h2
 subst e
 have stat:∀ {H':Hp},(∀ b∈fp,H' b=none) -> ∀ b∈fp,Cs X pins H' b:=fun hn b hb=>⟨hn b hb,(f2 b hb).2⟩
 refine codeAny_forLoop_any (fun n s'=>∃ i σ' H',Inv X pins σ' H' s'/\tn i s'.heap/\(∀ b∈fp,H' b=none)/\W i n σ' H') ?_ m0 ⟨0,σ,H2,I2,st2,fun b hb=>(f2 b hb).1,w0⟩
 rintro n s3 ⟨i,σ3,H3,I3,st3,fr3,w3⟩
 rcases turn i n σ3 H3 w3 with ⟨stop,qn⟩|⟨go,N,hN,step⟩
 ·refine eO hp (thn (T.done X rfl rfl rfl hc i pins s3 σ3 H3 X.xe I3 (stat fr3) st3 stop) fun r s4 ⟨hr,I4⟩=>?_)
  subst hr
  exact iT ⟨σ3,H3,I4,qn⟩
 ·refine eO hp (thn (T.item X rfl rfl rfl hc i pins s3 σ3 H3 X.xe I3 (stat fr3) st3 go) fun r s4 ⟨u,hr,h4⟩=>?_)
  subst hr
  refine eO hp (thn h4 fun _ s5 ⟨x,H5,I5,r5,y5,st5,fr5⟩=>?_)
  have I5':=I5.pinned (stat fr5) (T.obj _ _ st5)
  refine eO hp (thn (hg _ s5 σ3 H5 x u _ I5' r5 (step x H5 y5)) fun _ s6 ⟨σ6,H6,I6,q6⟩=>?_)
  refine eO hp (thn (hb _ s6 σ6 H6 _ I6 q6) fun f s7 q7=>?_)
  have again:∀ {σ7:St} {H7:Hp},Inv X (pins++Hw fp s5.heap) σ7 H7 s7->N σ7 H7 -> ∃ m,m<n /\ ∃ i σ' H',Inv X pins σ' H' s7/\tn i s7.heap/\(∀ b∈fp,H' b=none)/\W i m σ' H':=fun {σ7 H7} I7 n7=>by
   obtain⟨m',hm,w7⟩:=hN σ7 H7 n7
   refine⟨m',hm,i+1,σ7,H7,I7.unpinned,T.keep _ _ _ st5 fun b hb o e=>(I7.pin (b,o) (bn _ (bn _ (Ej hb e)))).1,fun b hb=>?_,w7⟩
   obtain⟨o,e,d⟩:=T.obj _ _ st5 b hb
   exact (I7.pin (b,o) (bn _ (bn _ (Ej hb e)))).2.1
  cases f with
  | next=>obtain⟨σ7,H7,I7,n7⟩:=q7;exact again I7 n7
  | cont=>obtain⟨σ7,H7,I7,n7⟩:=q7;exact again I7 n7
  | brk=>obtain⟨σ7,H7,I7,q7⟩:=q7;exact⟨σ7,H7,I7.unpinned,q7⟩
  | ret v=>obtain⟨x7,σ7,H7,I7,r7,q7⟩:=q7;exact⟨x7,σ7,H7,I7.unpinned,r7,q7⟩
end
noncomputable abbrev R2:=V->V->Hp->VK->Prop
noncomputable def OpR (X:Cx) (f:Value->Value->Sem Value) (r:R2):Prop:=
 ∀ (pins:List (Addr×Obj)) (s:ai) (σ:St) (H:Hp) (x y:V) (v u:Value) (Q:VK),Inv X pins σ H s->RelV x v->RelV y u->r x y H Q ->
  aG (model X.prog X.w) X.A (f v u) (EP X pins σ Q) X.xe s
noncomputable def UnR (X:Cx) (f:Value->Sem Value) (r:V->Hp->VK->Prop):Prop:=
 ∀ (pins:List (Addr×Obj)) (s:ai) (σ:St) (H:Hp) (x:V) (v:Value) (Q:VK),Inv X pins σ H s->RelV x v->r x H Q ->
  aG (model X.prog X.w) X.A (f v) (EP X pins σ Q) X.xe s
noncomputable def Cc (X:Cx) (f:Value) (r:List V->Hp->VK->Prop):Prop:=
 ∀ (pins:List (Addr×Obj)) (s:ai) (σ:St) (H:Hp) (xs:List V) (us:List Value) (Q:VK),Inv X pins σ H s->Vals xs us->r xs H Q ->
  aG (model X.prog X.w) X.A (call f us) (EP X pins σ Q) X.xe s
noncomputable def bi9 (X:Cx) (r:V->Hp->(Bool->Hp->Prop)->Prop):Prop:=
 ∀ (pins:List (Addr×Obj)) (s:ai) (σ:St) (H:Hp) (x:V) (v:Value) (Q:Bool->Hp->Prop),Inv X pins σ H s->RelV x v->r x H Q ->
  aG (model X.prog X.w) X.A (truthy v) (TP X pins σ Q) X.xe s
noncomputable def tOp (r:R2) (ta tb:TE):TE:=fun σ H Q=>ta σ H fun x H1=>tb σ H1 fun y H2=>r x y H2 Q
noncomputable def tUn (r:V->Hp->VK->Prop) (ta:TE):TE:=fun σ H Q=>ta σ H fun x H1=>r x H1 Q
noncomputable def rI (C:Int->Int->Prop) (g:Int->Int->V):R2:=fun x y H Q=>∃ i j,x=.int i/\y=.int j/\C i j/\Q (g i j) H
noncomputable def rI0 (g:Int->Int->V):R2:=fun x y H Q=>∃ i j,x=.int i/\y=.int j/\Q (g i j) H
noncomputable def rU (g:Int->V):V->Hp->VK->Prop:=fun x H Q=>∃ i,x=.int i/\Q (g i) H
section
variable {X:Cx} {a b c:Expr} {ta tb tc:TE} {pos:Pos}
theorem a19 (ha:PE X a ta) (hb:PE X b tb) {pins:List (Addr×Obj)} {s:ai} {σ:St} {H:Hp} {R:V->V->Hp->Prop} (I:Inv X pins σ H s)
  (h:ta σ H fun x H1=>tb σ H1 fun y H2=>R x y H2) {Q:Value->ai->Prop} {f:Value->Value->Sem Value}
  (hf:∀ v u s2 x y H2,Inv X pins σ H2 s2->RelV x v->RelV y u->R x y H2->aG (model X.prog X.w) X.A (f v u) Q X.xe s2) :
  aG (model X.prog X.w) X.A (eval a X.env) (fun v s₁=>aG (model X.prog X.w) X.A (eval b X.env) (fun u s₂=>aG (model X.prog X.w) X.A (f v u) Q X.xe s₂) X.xe s₁) X.xe s:=by
 refine thn (ha pins s σ H _ I h) fun v s1 ⟨x,H1,I1,r1,q1⟩=>?_
 refine thn (hb pins s1 σ H1 _ I1 q1) fun u s2 ⟨y,H2,I2,r2,q2⟩=>?_
 exact hf v u s2 x y H2 I2 r1 r2 q2
theorem bp1 {op:nq} {r:R2} (ho:OpR X (gn op) r) (ha:PE X a ta) (hb:PE X b tb):PE X (.BinOp a op b pos) (tOp r ta tb):=by
 intro pins s σ H Q I h
 exact wpAny_BinOp (a19 ha hb I h fun v u s2 x y H2 I2 rx ry q=>ho pins s2 σ H2 x y v u Q I2 rx ry q)
theorem au4 {op:UnaryOp} {r:V->Hp->VK->Prop} (ho:UnR X (nE op) r) (ha:PE X a ta):PE X (.UnaryOp op a pos) (tUn r ta):=by
 intro pins s σ H Q I h
 exact UnaryOp_ (thn (ha pins s σ H _ I h) fun v s1 ⟨x,H1,I1,r1,q1⟩=>ho pins s1 σ H1 x v Q I1 r1 q1)
theorem opI {f:Value->Value->Sem Value} {C:Int->Int->Prop} {g:Int->Int->Int}
  (rule:∀ (i j:Int) (t u:Tok) (s:ai) (Q:Value->ai->Prop) (E:Value->ai->Prop),C i j->Q (.int (g i j) s.toks) { s with toks:=s.toks+1 }->aG (model X.prog X.w) X.A (f (.int i t) (.int j u)) Q E s) :
  OpR X f (rI C fun i j=>.int (g i j)):=by
 intro pins s σ H x y v u Q I rx ry h
 obtain⟨i,j,rfl,rfl,hc,q⟩:=h
 obtain⟨t,rfl⟩:=rx
 obtain⟨t',rfl⟩:=ry
 exact rule i j t t' s _ _ hc ⟨.int (g i j),H,I.tok _,⟨_,rfl⟩,q⟩
theorem bo4 {f:Value->Value->Sem Value} {g:Int->Int->Int}
  (rule:∀ (i j:Int) (t u:Tok) (s:ai) (Q:Value->ai->Prop) (E:Value->ai->Prop),Q (.int (g i j) s.toks) { s with toks:=s.toks+1 }->aG (model X.prog X.w) X.A (f (.int i t) (.int j u)) Q E s) :
  OpR X f (rI0 fun i j=>.int (g i j)):=by
 intro pins s σ H x y v u Q I rx ry h
 obtain⟨i,j,rfl,rfl,q⟩:=h
 obtain⟨t,rfl⟩:=rx
 obtain⟨t',rfl⟩:=ry
 exact rule i j t t' s _ _ ⟨.int (g i j),H,I.tok _,⟨_,rfl⟩,q⟩
theorem al0 {f:Value->Value->Sem Value} {g:Int->Int->Bool}
  (rule:∀ (i j:Int) (t u:Tok) (s:ai) (Q:Value->ai->Prop) (E:Value->ai->Prop),Q (.bool (g i j)) s->aG (model X.prog X.w) X.A (f (.int i t) (.int j u)) Q E s) :
  OpR X f (rI0 fun i j=>.bl (g i j)):=by
 intro pins s σ H x y v u Q I rx ry h
 obtain⟨i,j,rfl,rfl,q⟩:=h
 obtain⟨t,rfl⟩:=rx
 obtain⟨t',rfl⟩:=ry
 exact rule i j t t' s _ _ ⟨.bl (g i j),H,I,rfl,q⟩
noncomputable def bi2 (i j:Int):Prop:=0<j/\j<1073741824
noncomputable def ay1 (i j:Int):Prop:=0<=j/\j<=1000000/\i.natAbs<2 ^ 64
noncomputable def CMul (i j:Int):Prop:=(-(2 ^ 64)<i/\i<2 ^ 64)\/(-(2 ^ 64)<j/\j<2 ^ 64)
theorem CMul.ok {i j:Int} (h:CMul i j):IntMulOk i j:=by
 rcases h with ⟨h1,h2⟩|⟨h1,h2⟩
 ·exact .of_left (intBits_le_64 h1 h2)
 ·exact .of_right (intBits_le_64 h1 h2)
theorem a60:OpR X (gn .Add) (rI0 fun i j=>.int (i+j)):=bo4 fun _ _ _ _ _ _ _ q=>add_int q
theorem a69:OpR X (gn .Sub) (rI0 fun i j=>.int (i - j)):=bo4 fun _ _ _ _ _ _ _ q=>sub_int q
theorem a65:OpR X (gn .Mult) (rI CMul fun i j=>.int (i * j)):=opI fun _ _ _ _ _ _ _ hc q=>mul_int q hc.ok
theorem al2:OpR X (gn .FloorDiv) (rI bi2 fun i j=>.int (i / j)):=opI fun i j _ _ _ _ _ hc q=>by
 have h1:(0:Int)<j:=hc.1
 have h2:j<1073741824:=hc.2
 exact floordiv_int (by omega) (by rw [Int.fdiv_eq_ediv_of_nonneg i (by omega)];exact q) (.inl (jZ (by omega)))
theorem a64:OpR X (gn .Mod) (rI (fun _ j=>0<j) fun i j=>.int (i % j)):=opI fun i j _ _ _ _ _ hc q=>by
 have h1:(0:Int)<j:=hc
 exact mod_int' (by omega) (by rw [Int.fmod_eq_emod_of_nonneg i (by omega)];exact q)
theorem a68:OpR X (gn .Pow) (rI ay1 fun i j=>.int (i ^ j.toNat)):=opI fun _ _ _ _ _ _ _ hc q=>pow_int_small hc.1 hc.2.1 hc.2.2 q
theorem unI {f:Value->Sem Value} {g:Int->Int}
  (rule:∀ (i:Int) (t:Tok) (s:ai) (Q:Value->ai->Prop) (E:Value->ai->Prop),Q (.int (g i) s.toks) { s with toks:=s.toks+1 }->aG (model X.prog X.w) X.A (f (.int i t)) Q E s) :
  UnR X f (rU fun i=>.int (g i)):=by
 intro pins s σ H x v Q I rx h
 obtain⟨i,rfl,q⟩:=h
 obtain⟨t,rfl⟩:=rx
 exact rule i t s _ _ ⟨.int (g i),H,I.tok _,⟨_,rfl⟩,q⟩
theorem bg4:UnR X (nE .USub) (rU fun i=>.int (-i)):=unI fun _ _ _ _ _ q=>neg_int q
theorem bg3:UnR X (nE .Invert) (rU fun i=>.int (Builtin.bitNot i)):=unI fun _ _ _ _ _ q=>invert_int q
end
noncomputable def bf0:V->V->Bool
 | .non,.non=>true | .non,.int _=>true | .int _,.non=>true | .non,.bl _=>true | .bl _,.non=>true | .non,.str _=>true | .str _,.non=>true
 | .int _,.int _=>true | .bl _,.bl _=>true | .str _,.str _=>true | .byt _,.byt _=>true
 | .int _,.str _=>true | .str _,.int _=>true | .bl _,.str _=>true | .str _,.bl _=>true
 | _,_=>false
noncomputable def rEq:R2:=fun x y H Q=>bf0 x y=true/\Q (.bl (decide (x=y))) H
noncomputable def rNe:R2:=fun x y H Q=>bf0 x y=true/\Q (.bl (!decide (x=y))) H
theorem Ip {i j:Int}:decide (V.int i=V.int j)=(i==j):=by
 rw [iG]
 simp
theorem M2 {i j:Bool}:decide (V.bl i=V.bl j)=(i==j):=by
 rw [iG]
 simp
theorem Iq {i j:Str}:decide (V.str i=V.str j)=(i==j):=by
 rw [iG]
 simp
theorem Ts {i j:Array UInt8}:decide (V.byt i=V.byt j)=(i.toList==j.toList):=by
 rw [iG]
 cases i
 cases j
 simp
section
variable {X:Cx} {a b c:Expr} {ta tb tc:TE} {pos:Pos}
theorem Ay {pins:List (Addr×Obj)} {σ:St} {H:Hp} {s:ai} {Q:VK} {k k':Bool} (I:Inv X pins σ H s) (q:Q (.bl k) H) (e:k=k'):EP X pins σ Q (.bool k') s:=by
 subst e
 exact⟨.bl k,H,I,rfl,q⟩
theorem Uk:OpR X (cg .Eq) rEq:=by
 intro pins s σ H x y v u Q I rx ry h
 obtain⟨hs,q⟩:=h
 cases x with
 | non=>
  cases rx
  cases y with
  | non=>cases ry;exact PySem.EqNone.eq_none_none (Ay I q (by simp))
  | bl j=>cases ry;exact PySem.EqNone.eq_none_bool (Ay I q (by simp))
  | int j=>obtain⟨t',rfl⟩:=ry;exact PySem.EqNone.eq_none_int (Ay I q (by simp))
  | str j=>obtain⟨t',rfl⟩:=ry;exact PySem.EqNone.eq_none_str (Ay I q (by simp))
  | _=>exact absurd (show false=true from hs) ak
 | bl i=>
  cases rx
  cases y with
  | non=>cases ry;exact PySem.EqNone.eq_bool_none (Ay I q (by simp))
  | bl j=>cases ry;exact eq_bool (Ay I q M2)
  | str j=>obtain⟨t',rfl⟩:=ry;exact PySem.EqMixed.eq_bool_str (Ay I q (by simp))
  | _=>exact absurd (show false=true from hs) ak
 | int i=>
  obtain⟨t,rfl⟩:=rx
  cases y with
  | non=>cases ry;exact PySem.EqNone.eq_int_none (Ay I q (by simp))
  | int j=>obtain⟨t',rfl⟩:=ry;exact eq_int (Ay I q Ip)
  | str j=>obtain⟨t',rfl⟩:=ry;exact PySem.EqMixed.eq_int_str (Ay I q (by simp))
  | _=>exact absurd (show false=true from hs) ak
 | str i=>
  obtain⟨t,rfl⟩:=rx
  cases y with
  | non=>cases ry;exact PySem.EqNone.eq_str_none (Ay I q (by simp))
  | bl j=>cases ry;exact PySem.EqMixed.eq_str_bool (Ay I q (by simp))
  | int j=>obtain⟨t',rfl⟩:=ry;exact PySem.EqMixed.eq_str_int (Ay I q (by simp))
  | str j=>obtain⟨t',rfl⟩:=ry;exact eq_str (Ay I q Iq)
  | _=>exact absurd (show false=true from hs) ak
 | byt i=>
  obtain⟨t,rfl⟩:=rx
  cases y with
  | byt j=>obtain⟨t',rfl⟩:=ry;exact PySem.W.eq_bytes (Ay I q Ts)
  | _=>exact absurd (show false=true from hs) ak
 | _=>cases y <;> exact absurd (show false=true from hs) ak
theorem Ul:OpR X (cg .NotEq) rNe:=by
 intro pins s σ H x y v u Q I rx ry h
 obtain⟨hs,q⟩:=h
 cases x with
 | non=>
  cases rx
  cases y with
  | non=>cases ry;exact PySem.EqNone.ne_none_none (Ay I q (by simp))
  | bl j=>cases ry;exact PySem.EqNone.ne_none_bool (Ay I q (by simp))
  | int j=>obtain⟨t',rfl⟩:=ry;exact PySem.EqNone.ne_none_int (Ay I q (by simp))
  | str j=>obtain⟨t',rfl⟩:=ry;exact PySem.EqNone.ne_none_str (Ay I q (by simp))
  | _=>exact absurd (show false=true from hs) ak
 | bl i=>
  cases rx
  cases y with
  | non=>cases ry;exact PySem.EqNone.ne_bool_none (Ay I q (by simp))
  | bl j=>cases ry;exact ne_bool (Ay I q (congrArg not M2))
  | str j=>obtain⟨t',rfl⟩:=ry;exact PySem.EqMixed.ne_bool_str (Ay I q (by simp))
  | _=>exact absurd (show false=true from hs) ak
 | int i=>
  obtain⟨t,rfl⟩:=rx
  cases y with
  | non=>cases ry;exact PySem.EqNone.ne_int_none (Ay I q (by simp))
  | int j=>obtain⟨t',rfl⟩:=ry;exact ne_int (Ay I q (congrArg not Ip))
  | str j=>obtain⟨t',rfl⟩:=ry;exact PySem.EqMixed.ne_int_str (Ay I q (by simp))
  | _=>exact absurd (show false=true from hs) ak
 | str i=>
  obtain⟨t,rfl⟩:=rx
  cases y with
  | non=>cases ry;exact PySem.EqNone.ne_str_none (Ay I q (by simp))
  | bl j=>cases ry;exact PySem.EqMixed.ne_str_bool (Ay I q (by simp))
  | int j=>obtain⟨t',rfl⟩:=ry;exact PySem.EqMixed.ne_str_int (Ay I q (by simp))
  | str j=>obtain⟨t',rfl⟩:=ry;exact ne_str (Ay I q (congrArg not Iq))
  | _=>exact absurd (show false=true from hs) ak
 | byt i=>
  obtain⟨t,rfl⟩:=rx
  cases y with
  | byt j=>obtain⟨t',rfl⟩:=ry;exact PySem.W.ne_bytes (Ay I q (congrArg not Ts))
  | _=>exact absurd (show false=true from hs) ak
 | _=>cases y <;> exact absurd (show false=true from hs) ak
theorem bo8:OpR X (cg .Lt) (rI0 fun i j=>.bl (decide (i<j))):=al0 fun _ _ _ _ _ _ _ q=>lt_int q
theorem bo7:OpR X (cg .LtE) (rI0 fun i j=>.bl (decide (i<=j))):=al0 fun _ _ _ _ _ _ _ q=>le_int q
theorem bo6:OpR X (cg .Gt) (rI0 fun i j=>.bl (decide (j<i))):=al0 fun _ _ _ _ _ _ _ q=>gt_int q
theorem bo5:OpR X (cg .GtE) (rI0 fun i j=>.bl (decide (j<=i))):=al0 fun _ _ _ _ _ _ _ q=>ge_int q
theorem Wr:OpR X (cg .Lt) (fun x y H Q=>∃ i j,x=.str i/\y=.str j/\Q (.bl (decide (i.cps.toList<j.cps.toList))) H):=by
 intro pins s σ H x y v u Q I rx ry h
 obtain⟨i,j,rfl,rfl,q⟩:=h
 obtain⟨t,rfl⟩:=rx
 obtain⟨t',rfl⟩:=ry
 exact lt_str (Ay I q rfl)
theorem a63:OpR X (cg .Is) (fun x y H Q=>y=.non/\Q (.bl (decide (x=.non))) H):=by
 intro pins s σ H x y v u Q I rx ry h
 obtain⟨rfl,q⟩:=h
 cases ry
 refine is_none_gen (Ay I q ?_)
 cases x <;> first
  | (cases rx;rfl)
  | (obtain⟨t,rfl⟩:=rx;rfl)
  | (obtain⟨t,rfl,_⟩:=rx;rfl)
theorem al3:OpR X (cg .IsNot) (fun x y H Q=>y=.non/\Q (.bl (!decide (x=.non))) H):=by
 intro pins s σ H x y v u Q I rx ry h
 obtain⟨rfl,q⟩:=h
 cases ry
 refine isnot_none_gen (Ay I q ?_)
 cases x <;> first
  | (cases rx;rfl)
  | (obtain⟨t,rfl⟩:=rx;rfl)
  | (obtain⟨t,rfl,_⟩:=rx;rfl)
theorem OpR.or {f:Value->Value->Sem Value} {r r':R2} (h:OpR X f r) (h':OpR X f r'):OpR X f (fun x y H Q=>r x y H Q\/r' x y H Q):=by
 intro pins s σ H x y v u Q I rx ry q
 rcases q with q|q
 ·exact h pins s σ H x y v u Q I rx ry q
 ·exact h' pins s σ H x y v u Q I rx ry q
theorem al7 {op:mL} {r:R2} (ho:OpR X (cg op) r) (ha:PE X a ta) (hb:PE X b tb) (hm:dR op b=false):PE X (.Compare a [op] [b] pos) (tOp r ta tb):=by
 intro pins s σ H Q I h
 exact wpAny_Compare1 (a19 ha hb I h fun v u s2 x y H2 I2 rx ry q=>ho pins s2 σ H2 x y v u Q I2 rx ry q) hm
noncomputable def bj0 (K:aa) (x:V) (H:Hp) (k:Bool):Prop:=
 match x with
 | .non=>k=false
 | .bl b=>k=b
 | .int i=>k=(i != 0)
 | .str y=>y.length<=sizeLine/\k=((y.length:Int) != 0)
 | .byt y=>y.size<=sizeLine/\k=((y.size:Int) != 0)
 | .ref p=>(∃ xs,SqL K H p xs/\k = !xs.isEmpty)\/(∃ xs,SqT K H p xs/\k = !xs.isEmpty) \/ ∃ kvs,H p=some (.dK kvs)/\k = !kvs.isEmpty
 | _=>False
theorem Ql {κ:Type} {kvs:List (κ×V)} {vs:List (κ×Value)} (r:KV kvs vs):(!vs.isEmpty) = !kvs.isEmpty:=by
 cases r <;> rfl
theorem Jv {xs:List V} {its:List Value} (r:Vals xs its):(!its.toArray.isEmpty) = !xs.isEmpty:=by
 cases r <;> simp
theorem F8:(sizeLine:Nat)<2 ^ 63:=by rw [bv];decide
theorem K0:bi9 X (fun x H Q=>∃ k,bj0 X.K x H k/\Q k H):=by
 intro pins s σ H x v Q I rx h
 obtain⟨k,e,q⟩:=h
 have hl:=F8
 have hs:sizeLine=16777216:=bv
 cases x with
 | non=>
  cases rx
  have e':k=false:=e
  subst e'
  exact truthy_none ⟨H,I,q⟩
 | bl b=>
  cases rx
  have e':k=b:=e
  subst e'
  exact eQ ⟨H,I,q⟩
 | int i=>
  obtain⟨t,rfl⟩:=rx
  have e':k=(i != 0):=e
  subst e'
  exact PySem.P.truthy_int ⟨H,I,q⟩
 | str y=>
  obtain⟨t,rfl⟩:=rx
  obtain⟨hy,e'⟩:y.length<=sizeLine/\k=((y.length:Int) != 0):=e
  subst e'
  exact PySem.P.truthy_str (by omega) ⟨H,I.tok _,q⟩
 | byt y=>
  obtain⟨t,rfl⟩:=rx
  obtain⟨hy,e'⟩:y.size<=sizeLine/\k=((y.size:Int) != 0):=e
  subst e'
  exact PySem.W.truthy_bytes (by omega) ⟨H,I.tok _,q⟩
 | ref p=>
  cases rx
  have e':(∃ xs,SqL X.K H p xs/\k = !xs.isEmpty)\/(∃ xs,SqT X.K H p xs/\k = !xs.isEmpty) \/ ∃ kvs,H p=some (.dK kvs)/\k = !kvs.isEmpty:=e
  rcases e' with ⟨xs,hx,e'⟩|⟨xs,hx,e'⟩|⟨kvs,hx,e'⟩
  ·subst e'
   obtain⟨its,r,pl,hz⟩:=I.list hx
   have hlen:=r.length
   exact wpAny_truthy_list pl.isList (by simp only [am];omega) ⟨H,I.tok _,by rw [Jv r];exact q⟩
  ·subst e'
   obtain⟨its,r,pl,hz⟩:=I.tuple hx
   have hlen:=r.length
   exact truthy_tuple pl (by simp only [am];omega) ⟨H,I.tok _,by rw [Jv r];exact q⟩
  ·subst e'
   obtain⟨hz,hS,vs,r,m⟩:kvs.length<=sizeLine/\(p==c4)=false /\ ∃ vs,KV kvs vs/\s.heap.DictOf (Ap X.prog X.w) p vs:=I.hok p _ hx
   have hlen:kvs.length=vs.length:=iC r
   exact wpAny_truthy_dict hS m (by omega) ⟨H,I.tok _,by rw [Ql r];exact q⟩
 | _=>exact (show False from e).elim
theorem Qu:OpR X (gn .Add) (fun x y H Q=>∃ i j,x=.str i/\y=.str j/\i.length+j.length<=sizeLine/\Q (.str (i++j)) H):=by
 intro pins s σ H x y v u Q I rx ry h
 obtain⟨i,j,rfl,rfl,hz,q⟩:=h
 obtain⟨t,rfl⟩:=rx
 obtain⟨t',rfl⟩:=ry
 exact bE (ae _) (add_str (fun t' tk htk=>⟨.str (i++j),H,I.tok _ htk,⟨_,rfl⟩,q⟩) hz)
theorem Dq {x:V} {us:List Value} (r:Vals [x] us):∃ u,us=[u]/\RelV x u:=by
 cases r with
 | cons r1 r2=>cases r2;exact⟨_,rfl,r1⟩
theorem ax7 {x y:V} {us:List Value} (r:Vals [x,y] us):∃ u w',us=[u,w']/\RelV x u/\RelV y w':=by
 cases r with
 | cons r1 r2=>
  cases r2 with
  | cons r3 r4=>cases r4;exact⟨_,_,rfl,r1,r3⟩
theorem Vj (hc:X.calm=true):Cc X (.builtin "max") (fun xs H Q=>∃ i j,xs=[.int i,.int j]/\Q (.int (if j > i then j else i)) H):=by
 intro pins s σ H xs us Q I r h
 obtain⟨i,j,rfl,q⟩:=h
 obtain⟨u,w',rfl,⟨t,rfl⟩,⟨t',rfl⟩⟩:=ax7 r
 refine bE (ae _) (max_two_ints (I.ok.hd hc) fun h' tk k htk=>⟨_,H,I.kept k htk,?_,q⟩)
 by_cases hj:j > i
 ·rw [if_pos hj,if_pos hj];exact⟨_,rfl⟩
 ·rw [if_neg hj,if_neg hj];exact⟨_,rfl⟩
theorem Lp:Cc X (.type "int") (fun xs H Q=>(∃ i,xs=[.int i]/\Q (.int i) H) \/ ∃ k,xs=[.bl k]/\Q (.int (if k then 1 else 0)) H):=by
 intro pins s σ H xs us Q I r h
 rcases h with ⟨i,rfl,q⟩|⟨k,rfl,q⟩
 ·obtain⟨u,rfl,t,rfl⟩:=Dq r
  exact call_int_int ⟨.int i,H,I,⟨_,rfl⟩,q⟩
 ·obtain⟨u,rfl,r1⟩:=Dq r
  cases r1
  exact call_int_bool ⟨.int (if k then 1 else 0),H,I.tok _,⟨_,rfl⟩,q⟩
end
structure ObjM (h:Heap) (x dx C:Addr) (mA:Str->Option Value):Prop where
 obj:h.get? x=some (bS C dx)
 ns:h.Ns1 dx mA
 ne:dx≠x
theorem Hq {h:Heap} {dx:Addr} {mA:Str->Option Value} (n:h.Ns1 dx mA):∃ od,h.get? dx=some od /\ ∀ name,ja name od=some (mA name):=by
 obtain⟨o,es,ep,ho,hd,hk,_,hm⟩:=n
 refine⟨o,ho,fun name=>?_⟩
 have e:=hm name
 unfold nsFind findBy at e
 rw [<- Array.find?_toList] at e
 unfold ja
 rw [hd]
 dsimp only
 split
 ·rename_i y q
  rw [q] at e
  exact congrArg some e
 ·rename_i q
  rw [q] at e
  have a:es.toList.any (·.refKey)=false:=by
   rw [List.any_eq_false]
   intro y hy
   obtain⟨z,t,hkey⟩:=hk y (Array.mem_toList_iff.mp hy)
   simp [DictEntry.refKey,hkey]
  have a':¬ es.toList.any (·.refKey)=true:=by rw [a];exact ak
  rw [if_neg a']
  exact congrArg some e
theorem ObjM.look {h:Heap} {x dx C:Addr} {mA:Str->Option Value} (I:ObjM h x dx C mA):∃ od,gc h x (bS C dx) C (some od) /\ ∀ name,ja name od=some (mA name):=
 let ⟨od,ho,hl⟩:=Hq I.ns
 ⟨od,⟨I.obj,rfl,rfl,ho⟩,hl⟩
section
variable {prog:aK} {w:bt} {A:bg} {E:Value->ai->Prop} {s:ai} {K:aa} {x dx C f:Addr} {mA:Str->Option Value} {name:Str} {v:Value}
theorem aj0 {expr:Bool} {Q:Value->ai->Prop} (X:K.In s.heap) (I:ObjM s.heap x dx C mA) (hg:gj K C name=true) (hh:gX K C=true)
  (ha:ar K (.ref C) name=some none) (hv:mA name=some v) (hv':gh v=true) (h:Q v { s with toks:=s.toks+1 }) :
  aG (model prog w) A (lE (.ref x) name expr) Q E s:=by
 obtain⟨od,J,hl⟩:=I.look
 exact PySem.W.get_value X J (fh hg).1 (lc hh ha rfl (by rw [hl,hv])) hv' h
theorem Ze {pl:Sem Bool} {Q:Value×List Value->ai->Prop} (X:K.In s.heap) (I:ObjM s.heap x dx C mA) (hg:gj K C name=true)
  (hf:ar K (.ref C) name=some (some (.ref f))) (ht:c6 K (.ref f)=true) (hv:mA name=none) (h:Q (.ref f,[.ref x]) s) :
  aG (model prog w) A (getMethod (.ref x) name pl) Q E s:=by
 obtain⟨od,J,hl⟩:=I.look
 exact PySem.W.method_fn X J (fh hg).1 (fh hg).2 hf (beq_iff_eq.mp ht) (by show (ja name od).map (·.isSome)=some false;rw [hl,hv];rfl) h
theorem ap1 {ns:List Str} {Q:Unit->ai->Prop} (X:K.In s.heap) (I:ObjM s.heap x dx C mA)
  (hs:ar K (.ref C) "__setattr__" = some (some (.builtin "object.__setattr__"))) (hp:jt K C=true) (ht:kC K C name=some none) (hh:gX K C=true)
  (hw:eT mA ns) (hsz:ns.length<=sizeLine)
  (h:∀ h',ObjM h' x dx C (fun y=>if y=name then some v else mA y)->a9 dx s.heap h'->Q () { s with heap:=h',toks:=s.toks+2 }) :
  aG (model prog w) A (mX (.ref x) name v) Q E s:=by
 obtain⟨od,J,hl⟩:=I.look
 refine PySem.W.set_plain X J hs (PySem.W.osa_open (s:={ s with toks:=s.toks+1 }) (r:=none) X J hp ht fun b=>?_)
 obtain⟨cd,hc,hd'⟩:=PySem.W.any_some hh
 have hx:s.heap.get? x=some ⟨.ref C,some dx,.plain,#[]⟩:=I.obj
 refine ac (ah (ac (ac (ji hx (ac (PySem.W.Looks.here (s:={ s with toks:=s.toks+1 }) (PySem.W.looks_clsIn X hc) ?_))))))
 rw [hd']
 refine ah (a:=some dx) (ac (ah (ac ?_)))
 refine mG (s:={ s with toks:=s.toks+1 }) I.ns fun h' hn2 hs2=>?_
 obtain⟨oD,esD,epD,hoD,hdD,hcD⟩:=hn2.count (PySem.Within.cons name v hw)
 refine ac (jS hoD (by rw [hdD];exact jR (aS hcD (by rw [aR];omega))) ?_)
 exact ah (h _ ⟨(hs2.2 _ (bO I.ne)).trans I.obj,hn2,I.ne⟩ hs2)
theorem Zw {R:kY->ai->Prop} {vs:List Value} {kw:List (Str×Value)} (X:K.In s.heap) (hm:cP K C=true)
  (hi:ar K (.ref C) "__init__" = some (some (.ref f))) (hf:PySem.W.typeIn K (.ref f)=some (.type "function"))
  (h:eK (model prog w) (A.under (.builtin "type.__call__" ⟨.ref C::vs,kw⟩)) (.call (.ref f) ⟨.ref (s.heap.objs.size+1)::vs,kw⟩) (PySem.W.InitBack (s.heap.objs.size+1) R)
   {s with heap:=(s.heap.push bG).push (bS C s.heap.objs.size) }) :
  eK (model prog w) A (.call (.ref C) ⟨vs,kw⟩) R s:=by
 obtain⟨hh,g,d,t,os⟩:=s
 exact PySem.W.make_core (jP X hm) (du X hi) (fun self=>PySem.W.bind_fn X self hf) (.inl rfl) h
theorem Wi {R:kY->ai->Prop} (X:K.In s.heap) (hm:cP K C=true)
  (hi:ar K (.ref C) "__init__" = some (some (.builtin "object.__init__")))
  (hb:∀ self,iD (model prog w) s.heap (jJ (.builtin "object.__init__") self) (.builtin "object.__init__", [self]))
  (h:eK (model prog w) (A.under (.builtin "type.__call__" ⟨[.ref C],[]⟩)) (.call (.builtin "object.__init__") ⟨[.ref (s.heap.objs.size+1)],[]⟩) (PySem.W.InitBack (s.heap.objs.size+1) R)
   {s with heap:=(s.heap.push bG).push (bS C s.heap.objs.size) }) :
  eK (model prog w) A (.call (.ref C) ⟨[],[]⟩) R s:=by
 obtain⟨hh,g,d,t,os⟩:=s
 exact PySem.W.make_core (jP X hm) (du X hi) hb (.inr ⟨rfl,rfl⟩) h
end
noncomputable def El (f:Str) (v:V):List (Str×V)->List (Str×V)
 | []=>[(f,v)]
 | (g,x)::r=>if g=f then (g,v)::r else (g,x)::El f v r
theorem E4 (f g:Str) (v:V):∀ fs:List (Str×V),(El f v fs).lookup g=if g=f then some v else fs.lookup g
 | []=>by
  show eW g [(f,v)]=_
  by_cases h:g=f
  ·have hb:(g==f)=true:=beq_iff_eq.mpr h
   simp only [eW,hb,if_pos h]
  ·have hb:(g==f)=false:=beq_eq_false_iff_ne.mpr h
   simp only [eW,hb,if_neg h]
 | (k,x)::r=>by
  have ih:=E4 f g v r
  rw [show El f v ((k,x)::r)=(if k=f then (k,v)::r else (k,x)::El f v r) from rfl]
  by_cases hk:k=f
  ·rw [if_pos hk]
   by_cases h:g=k
   ·have hb:(g==k)=true:=beq_iff_eq.mpr h
    simp only [eW,hb,if_pos (h.trans hk)]
   ·have hb:(g==k)=false:=beq_eq_false_iff_ne.mpr h
    simp only [eW,hb,if_neg (fun e:g=f=>h (e.trans hk.symm))]
  ·rw [if_neg hk]
   by_cases h:g=k
   ·have hb:(g==k)=true:=beq_iff_eq.mpr h
    simp only [eW,hb,if_neg (fun e:g=f=>hk (h.symm.trans e))]
   ·have hb:(g==k)=false:=beq_eq_false_iff_ne.mpr h
    simp only [eW,hb]
    exact ih
theorem D9 (f:Str) (v:V):∀ fs:List (Str×V),f∈(El f v fs).map (·.1) /\ ∀ g,g∈fs.map (·.1)->g∈(El f v fs).map (·.1)
 | []=>⟨by simp [El],fun g h=>by simp at h⟩
 | (k,x)::r=>by
  obtain⟨i1,i2⟩:=D9 f v r
  rw [show El f v ((k,x)::r)=(if k=f then (k,v)::r else (k,x)::El f v r) from rfl]
  by_cases hk:k=f
  ·rw [if_pos hk]
   subst hk
   exact⟨by simp,fun g h=>by simpa using h⟩
  ·rw [if_neg hk]
   refine⟨?_,fun g h=>?_⟩
   ·rw [aP]
    exact aJ _ i1
   ·rw [aP] at h ⊢
    rcases List.mem_cons.mp h with e|e
    ·exact List.mem_cons.mpr (.inl e)
    ·exact aJ _ (i2 g e)
theorem E3 (f:Str) (v:V):∀ fs:List (Str×V),(El f v fs).length<=fs.length+1
 | []=>by simp [El]
 | (k,x)::r=>by
  have ih:=E3 f v r
  rw [show El f v ((k,x)::r)=(if k=f then (k,v)::r else (k,x)::El f v r) from rfl]
  by_cases hk:k=f
  ·rw [if_pos hk,aR,aR];omega
  ·rw [if_neg hk,aR,aR];omega
theorem RelO.some_of {v:V} {o:Option Value} (r:RelO (some v) o):∃ u,o=some u/\RelV v u:=by
 cases o with
 | none=>exact (show False from r).elim
 | some u=>exact⟨u,rfl,r⟩
theorem RelO.none_of {o:Option Value} (r:RelO none o):o=none:=by
 cases o with
 | none=>rfl
 | some u=>exact (show False from r).elim
theorem Ly {v:V} {u:Value} (r:RelV v u):gh u=true:=by
 cases v with
 | non=>cases (show u=bh from r);rfl
 | bl b=>cases (show u=iF b from r);rfl
 | int i=>obtain⟨t,e⟩:=(show ∃ t,u=kD i t from r);cases e;rfl
 | str x=>obtain⟨t,e⟩:=(show ∃ t,u=ib x t from r);cases e;rfl
 | byt b=>obtain⟨t,e⟩:=(show ∃ t,u=Value.bytes b t from r);cases e;rfl
 | stk y n ex=>obtain⟨t,e,_⟩:=(show ∃ t,u=ib y t/\(if ex=true then t=n else n<=t) from r);cases e;rfl
 | ref a=>cases (show u=aM a from r);rfl
 | ty n=>cases (show u=cZ n from r);rfl
section
variable {P:aK} {w:bt} {H H':Hp} {h h':Heap} {a C dx:Addr} {fs fs':List (Str×V)}
theorem Gr (hok:HOk P w H h) (e:H a=some (.ins C dx fs)):∃ mA,ObjM h a dx C mA/\(∀ f,RelO (fs.lookup f) (mA f))/\eT mA (fs.map (·.1))/\fs.length<=1000/\H dx=some (.own a):=by
 obtain⟨d,z,ne,ob,mA,n,r,q⟩:=(show ObjOk P w H h a (.ins C dx fs) from hok a _ e)
 exact⟨mA,⟨ob,n,ne⟩,r,q,z,d⟩
end
structure Cls (K:aa) (C:Addr):Prop where
 pg:gj K C cQ=true
 hd:gX K C=true
 po:jt K C=true
 sa:ar K (.ref C) "__setattr__" = some (some (.builtin "object.__setattr__"))
theorem Cls.get {K:aa} {C:Addr} (c:Cls K C) (f:Str):gj K C f=true:=c.pg
noncomputable def NoAttr (K:aa) (C:Addr) (f:Str):Prop:=ar K (.ref C) f=some none
theorem NoAttr.taker {K:aa} {C:Addr} {f:Str} (n:NoAttr K C f):kC K C f=some none:=by
 unfold kC
 rw [show ar K (.ref C) f=some none from n]
 rfl
structure Ct (K:aa) (C:Addr) (m:Str) (f:Addr):Prop where
 at_:ar K (.ref C) m=some (some (.ref f))
 fn:c6 K (.ref f)=true
 kp:aV K (.ref f)=true
section
variable {X:Cx} {pins:List (Addr×Obj)} {σ:St} {H:Hp} {s:ai} {a C dx:Addr} {fs:List (Str×V)} {f:Str} {v:V} {A:bg} {E:Value->ai->Prop}
theorem Qe {b:Bool} {Q:Value->ai->Prop} (I:Inv X pins σ H s) (e:H a=some (.ins C dx fs)) (c:Cls X.K C) (n:NoAttr X.K C f) (l:fs.lookup f=some v)
  (h:∀ u s',Inv X pins σ H s'->RelV v u->Q u s'):aG (model X.prog X.w) A (lE (.ref a) f b) Q E s:=by
 obtain⟨mA,O,r,_,_,_⟩:=Gr I.hok e
 obtain⟨u,hu,ru⟩:=RelO.some_of (v:=v) (o:=mA f) (by rw [<- l];exact r f)
 exact aj0 I.kIn O (c.get f) c.hd n hu (Ly ru) (h u _ (I.tok _) ru)
theorem Jt {m:Str} {g:Addr} {pl:Sem Bool} {Q:Value×List Value->ai->Prop} (I:Inv X pins σ H s) (e:H a=some (.ins C dx fs)) (c:Cls X.K C) (k:Ct X.K C m g) (l:fs.lookup m=none)
  (h:Q (.ref g,[.ref a]) s):aG (model X.prog X.w) A (getMethod (.ref a) m pl) Q E s:=by
 obtain⟨mA,O,r,_,_,_⟩:=Gr I.hok e
 have hn:mA m=none:=RelO.none_of (by rw [<- l];exact r m)
 exact Ze I.kIn O (c.get m) k.at_ k.fn hn h
theorem R6 {y:V} {u:Value} {Q:Unit->ai->Prop} (I:Inv X pins σ H s) (e:H a=some (.ins C dx fs)) (c:Cls X.K C) (n:NoAttr X.K C f) (hl:fs.length<1000) (ry:RelV y u)
  (h:∀ s',Inv X pins σ (upd H a (.ins C dx (El f y fs))) s'->Q () s'):aG (model X.prog X.w) A (mX (.ref a) f u) Q E s:=by
 obtain⟨mA,O,r,wi,_,ho⟩:=Gr I.hok e
 have hz:(fs.map (·.1)).length<=sizeLine:=by rw [ag,bv];omega
 refine ap1 I.kIn O c.sa c.po n.taker c.hd wi hz fun h' O' sb=>h _ ?_
 have hd:∃ o,h'.get? dx=some o:=let ⟨o,_,_,e',_⟩:=O'.ns;⟨o,e'⟩
 refine I.write (x:=a) (e:=dx) (by rw [e];exact bH) (.inr ho) (fun b q hb z=>(sb.2 b hb).trans z) hd ?_
 refine⟨by rw [Ah O.ne];exact ho,?_,O.ne,O'.obj,_,O'.ns,fun g=>?_,fun g hg=>?_⟩
 ·have:=E3 f y fs;omega
 ·show RelO ((El f y fs).lookup g) (if g=f then some u else mA g)
  rw [E4]
  by_cases q:g=f
  ·rw [if_pos q,if_pos q];exact ry
  ·rw [if_neg q,if_neg q];exact r g
 ·by_cases q:g=f
  ·rw [q];exact (D9 f y fs).1
  ·refine (D9 f y fs).2 g (wi g fun z=>hg ?_)
   show (if g=f then some u else mA g)=none
   rw [if_neg q];exact z
theorem Inv.made (I:Inv X pins σ H s):Inv X pins σ (upd (upd H s.heap.objs.size (.own (s.heap.objs.size+1))) (s.heap.objs.size+1) (.ins C s.heap.objs.size []))
  {s with heap:=(s.heap.push bG).push (bS C s.heap.objs.size) }:=by
 have e1:(s.heap.push bG).get? s.heap.objs.size=some bG:=aq s.heap rfl
 have e2:((s.heap.push bG).push (bS C s.heap.objs.size)).get? (s.heap.objs.size+1)=some (bS C s.heap.objs.size):=by
  have:=aq (s.heap.push bG) (o:=bS C s.heap.objs.size) rfl
  rwa [cx] at this
 have e3:(s.heap.push bG).Ns s.heap.objs.size (fun _=>none):=⟨bG,#[],_,e1,rfl,(fun e he=>absurd he (by simp)),fun _=>rfl⟩
 have I1:=I.laid (a:=s.heap.objs.size) (o:=.own (s.heap.objs.size+1)) (h':=s.heap.push bG) (t':=s.toks) (fun b u q=>af _ q) (ae _) ⟨_,e1⟩
 refine I1.laid (a:=s.heap.objs.size+1) (o:=.ins C s.heap.objs.size []) (t':=s.toks) (fun b u q=>af _ q) (ku (cx _ _)) ?_
 have ne:s.heap.objs.size≠s.heap.objs.size+1:=aE (cT _)
 refine⟨by rw [Ah ne,Ad],bo _,ne,e2,fun _=>none,(Heap.Ns1.of_empty e3).at fun o q=>af _ q,fun _=>bH,fun y hy=>absurd rfl hy⟩
theorem Ti {prog:aK} {w:bt} {env:Env} {e:Expr} {f:Str} {pos:Pos} {s:ai} {Q:Value->ai->Prop} (hb:jI e f env (eval e env)=eval e env)
  (h:aG (model prog w) A (eval e env) (fun o s₁=>aG (model prog w) A (lE o f true) Q E s₁) E s):aG (model prog w) A (eval (.Attribute e f pos) env) Q E s:=
 Attribute_any_ h (by rw [arm_eval_Attribute,hb])
end
section
variable {X:Cx} {o e value:Expr} {f:Str} {pos pos' tpos:Pos} {ta tv:TE}
end
section
variable {X:Cx} {pins:List (Addr×Obj)} {σ:St} {H:Hp} {s:ai} {A:bg} {E:Value->ai->Prop} {Q:Value->ai->Prop} {c:Value} {b:Bool}
inductive TyOf (K:aa) (H:Hp):V->Value->Prop where
 | non:TyOf K H .non (.type "NoneType")
 | bl (x:Bool):TyOf K H (.bl x) (.type "bool")
 | int (i:Int):TyOf K H (.int i) (.type "int")
 | str (x:Str):TyOf K H (.str x) (.type "str")
 | stk (x:Str) (n:Nat) (ex:Bool):TyOf K H (.stk x n ex) (.type "str")
 | lst {a:Addr} {xs:List V} (e:H a=some (.lst xs)):TyOf K H (.ref a) (.type "list")
 | frz {a:Addr} {o:Obj} {xs:List V} (e:H a=some (.frz o (.lst xs))):TyOf K H (.ref a) (.type "list")
 | tup {a:Addr} {xs:List V} (e:H a=some (.tup xs)):TyOf K H (.ref a) (.type "tuple")
 | dK {a:Addr} {kvs:List (Key×V)} (e:H a=some (.dK kvs)):TyOf K H (.ref a) (.type "dict")
 | dT {a:Addr} {kvs:List (List Key×V)} (e:H a=some (.dT kvs)):TyOf K H (.ref a) (.type "dict")
 | ins {a C dx:Addr} {fs:List (Str×V)} (e:H a=some (.ins C dx fs)) (cl:Cls K C) (ha:ar K (.ref C) "__class__" = some (some (.builtin "object.__class__")))
   (hn:dD K (.builtin "object.__class__") "__get__" = some (some (.builtin "getset_descriptor.__get__"))) (htk:fR K (.builtin "object.__class__")=some true)
   (hm:gM K C (.type "object")=some true):TyOf K H (.ref a) (.ref C)
theorem L6 {x:V} {u t:Value} (I:Inv X pins σ H s) (rx:RelV x u) (ty:TyOf X.K H x t) (e:fz X.K t c=some b) (h:∀ tk,Q (.bool b) { s with toks:=tk }) :
  aG (model X.prog X.w) A (call (.builtin "isinstance") [u,c]) Q E s:=by
 cases ty with
 | non=>cases (show u=bh from rx);exact bZ PySem.W.kitx_none I.kIn bH e (fun z=>nomatch z) h
 | bl y=>cases (show u=iF y from rx);exact bZ PySem.W.kitx_bool I.kIn bH e (fun z=>nomatch z) h
 | int i=>obtain⟨t,q⟩:=(show ∃ t,u=kD i t from rx);cases q;exact bZ PySem.W.kitx_int I.kIn bH e (fun z=>nomatch z) h
 | str y=>obtain⟨t,q⟩:=(show ∃ t,u=ib y t from rx);cases q;exact bZ PySem.W.kitx_str I.kIn bH e (fun z=>nomatch z) h
 | stk y n ex=>obtain⟨t,q,_⟩:=(show ∃ t,u=ib y t/\(if ex=true then t=n else n<=t) from rx);cases q;exact bZ PySem.W.kitx_str I.kIn bH e (fun z=>nomatch z) h
 | @lst a xs ea=>
  cases (show u=aM a from rx)
  obtain⟨_,_,n,_,h1⟩:=(show ObjOk X.prog X.w H s.heap a (.lst xs) from I.hok a _ ea)
  exact bZ js I.kIn ⟨_,h1,rfl⟩ e (fun z=>nomatch z) h
 | @frz a ob xs ea=>
  cases (show u=aM a from rx)
  obtain⟨_,_,_,n,_,h1⟩:=(show ObjOk X.prog X.w H s.heap a (.frz ob (.lst xs)) from I.hok a _ ea)
  exact bZ js I.kIn ⟨_,h1,rfl⟩ e (fun z=>nomatch z) h
 | @tup a xs ea=>
  cases (show u=aM a from rx)
  obtain⟨_,_,_,p⟩:=(show ObjOk X.prog X.w H s.heap a (.tup xs) from I.hok a _ ea)
  obtain⟨o,h1,h2,_⟩:=p
  exact bZ lO I.kIn ⟨o,h1,h2⟩ e (fun z=>nomatch z) h
 | @dK a kvs ea=>
  cases (show u=aM a from rx)
  obtain⟨_,_,vs,_,p⟩:=(show ObjOk X.prog X.w H s.heap a (.dK kvs) from I.hok a _ ea)
  obtain⟨o,es,ep,h1,h2,_⟩:=p
  exact bZ PySem.W.kitx_dict I.kIn ⟨o,h1,h2.1⟩ e (fun z=>nomatch z) h
 | @dT a kvs ea=>
  cases (show u=aM a from rx)
  obtain⟨_,_,xs,_,o,es,ep,h1,h2,_⟩:=(show ObjOk X.prog X.w H s.heap a (.dT kvs) from I.hok a _ ea)
  exact bZ PySem.W.kitx_dict I.kIn ⟨o,h1,h2.1⟩ e (fun z=>nomatch z) h
 | @ins a C dx fs ea cl ha hn htk hm=>
  cases (show u=aM a from rx)
  obtain⟨mA,O,_⟩:=Gr I.hok ea
  obtain⟨od,J,_⟩:=O.look
  exact bZ (PySem.W.kitx_own (cl.get _) cl.hd ha hn htk hm) I.kIn J e (fun z=>nomatch z) h
end
structure Room (k:Nat) (A:bg):Prop where
 hd:A.handled=none
 dp:A.depth+3 * k+5<recursionLimit
 un:A.units+16 * k+200<cLine
theorem Room.mono {j k:Nat} {A:bg} (r:Room k A) (h:j<=k):Room j A:=⟨r.hd,by have:=r.dp;omega,by have:=r.un;omega⟩
theorem Room.deeper {k:Nat} {A:bg} (r:Room (k+1) A) (env:Env):Room k (A.deeper env):=
 ⟨r.hd,by have:=r.dp;show A.depth+1+3 * k+5<_;omega,by have:=r.un;show A.units+3+16 * k+200<_;omega⟩
theorem Room.in1 {k:Nat} {A:bg} (r:Room (k+1) A):Room k A.in1:=
 ⟨r.hd,by have:=r.dp;show A.depth+3 * k+5<_;omega,by have:=r.un;show A.units+1+16 * k+200<_;omega⟩
theorem Qo {A:bg} {C:Addr} {us:List Value} {kw:List (Str×Value)}:(A.under (.builtin "type.__call__" ⟨.ref C::us,kw⟩)).depth=A.depth+1:=by
 first|rfl|simp [mq,Code.weight,Code.isCreation,Code.isGuard,Code.isCaller,Code.frames,mr,guardIds]
theorem Qp {A:bg} {C:Addr} {us:List Value} {kw:List (Str×Value)}:(A.under (.builtin "type.__call__" ⟨.ref C::us,kw⟩)).units=A.units+1:=by
 first|rfl|simp [mq,Code.cUnits,Code.frames,mr]
theorem Room.make {k:Nat} {A:bg} (r:Room (k+1) A) (C:Addr) (us:List Value) (kw:List (Str×Value)):Room k (A.under (.builtin "type.__call__" ⟨.ref C::us,kw⟩)):=
 ⟨r.hd,by have:=r.dp;rw [Qo];omega,by have:=r.un;rw [Qp];omega⟩
theorem Room.depth {k:Nat} {A:bg} (r:Room k A):A.depth<recursionLimit:=by have:=r.dp;omega
theorem Room.units {k:Nat} {A:bg} (r:Room k A):A.units+64<cLine:=by have:=r.un;omega
noncomputable def b41:TA:=fun _ H Q=>Q [] H
noncomputable def bw7 (ta:TE) (tr:TA):TA:=fun σ H Q=>ta σ H fun x H1=>tr σ H1 fun xs H2=>Q (x::xs) H2
section
variable {X:Cx} {e:Expr} {es:List Expr} {te:TE} {t:TA} {pos:Pos}
theorem a71:PA X [] b41:=fun _ _ _ _ H Q I h=>fU ⟨[],H,I,.nil,h⟩
theorem al5 (ha:PE X e te) (hr:PA X es t) (hs:cV (e::es) X.env=(false,eval e X.env)::cV es X.env:=by rfl):PA X (e::es) (bw7 te t):=by
 intro pos pins s σ H Q I h
 rw [hs]
 show aG _ _ (spliced ((false,eval e X.env)::jv pos (cV es X.env))) _ _ s
 refine fF (thn (ha pins s σ H _ I h) fun u s1 ⟨x,H1,I1,r1,q1⟩=>?_)
 exact thn (hr pos pins s1 σ H1 _ I1 q1) fun us s2 ⟨xs,H2,I2,r2,q2⟩=>⟨x::xs,H2,I2,.cons r1 r2,q2⟩
noncomputable def b45 (t:TA):TE:=fun σ H Q=>t σ H fun xs H1=>xs.length<=sizeLine /\ ∀ p,H1 p=none->Q (.ref p) (upd H1 p (.tup xs))
noncomputable def b40 (t:TA):TE:=fun σ H Q=>t σ H fun xs H1=>xs.length<=sizeLine /\ ∀ p,H1 p=none->Q (.ref p) (upd H1 p (.lst xs))
theorem a77 {x1} (h:PA X es t):PE X (.Tuple es x1 pos) (b45 t):=by
 intro pins s σ H Q I hq
 refine wpAny_Tuple_spliced (thn (h pos pins s σ H _ I hq) fun us s1 ⟨xs,H1,I1,r,z,q⟩=>⟨by rw [<- r.length];exact z,?_⟩)
 have hf:H1 s1.heap.objs.size=none:=I1.hok.fresh (ae _)
 refine⟨.ref s1.heap.objs.size,upd H1 s1.heap.objs.size (.tup xs),I1.laid (t':=s1.toks) (fun b u e=>af _ e) (ae _) ?_,rfl,q _ hf⟩
 exact⟨z,us,r,⟨_,aq _ rfl,rfl,_,rfl⟩⟩
theorem a73 (h:PA X es t):PE X (.List es pos) (b40 t):=by
 intro pins s σ H Q I hq
 refine wpAny_List_spliced (thn (h pos pins s σ H _ I hq) fun us s1 ⟨xs,H1,I1,r,z,q⟩=>⟨by rw [<- r.length];exact z,?_⟩)
 have hf:H1 s1.heap.objs.size=none:=I1.hok.fresh (ae _)
 refine⟨.ref s1.heap.objs.size,upd H1 s1.heap.objs.size (.lst xs),I1.laid (t':=s1.toks) (fun b u e=>af _ e) (ae _) ?_,rfl,q _ hf⟩
 exact⟨z,us,0,r,aq _ rfl⟩
end
noncomputable abbrev Sp:=List V->Hp->VK->XK->Prop
noncomputable abbrev CXT:=List Env->Hp->ai->XK->Value->ai->Prop
structure Env0 (P:aK) (w:bt) (K:aa) (mg:Str->Option Value) (base:Heap) (A:bg) (outer:List Env) (s:ai) (H:Hp):Prop where
 frames:A.frames=some outer
 mod:Mod K mg base
 bs:∀ b o,base.get? b=some o->s.heap.get? b=some o/\H b=none
 bsz:base.objs.size<=s.heap.objs.size
 funs:s.heap.FunFrames base outer
 frf:∀ b∈frs outer,H b=none
 hok:HOk P w H s.heap
 bare:jz s.gens
 tk:Tc K s.toks
noncomputable def CE (outer:List Env) (P:aK) (w:bt) (H:Hp) (s:ai) (Q:VK) (u:Value) (s':ai):Prop:=
 ∃ v H',(s'.os=s.os/\s.toks<=s'.toks)/\jz s'.gens/\Un (frs outer) [] H H' s.heap s'.heap/\HOk P w H' s'.heap/\RelV v u/\Q v H'
noncomputable def CR (CX:CXT) (outer:List Env) (P:aK) (w:bt) (H:Hp) (s:ai) (Q:VK) (E:XK) (r:kY) (s':ai):Prop:=
 match r with
 | .ok (.ret u)=>CE outer P w H s Q u s'
 | .ok _=>False
 | .error e=>CX outer H s E e s'
structure FnOk (P:aK) (w:bt) (K:aa) (mg:Str->Option Value) (base:Heap) (CX:CXT) (k:Nat) (f:Addr) (fd:aH) (ps:List Str) (sp:Sp):Prop where
 len:∀ vs H Q E,sp vs H Q E->vs.length=ps.length
 run:∀ (A:bg) (outer:List Env) (s:ai) (H:Hp) (args:Args) (us:List Value) (vs:List V) (Q:VK) (E:XK),Room k A->Env0 P w K mg base A outer s H->mK s fd args (ps.zip us)->Vals vs us->sp vs H Q E ->
  eK (model P w) A (.call (.ref f) args) (CR CX outer P w H s Q E) s
theorem FnOk.imp {P:aK} {w:bt} {K:aa} {mg:Str->Option Value} {base:Heap} {CX:CXT} {k:Nat} {f:Addr} {fd:aH} {ps:List Str} {sp sp':Sp} (F:FnOk P w K mg base CX k f fd ps sp)
  (h:∀ vs H Q E,sp' vs H Q E->sp vs H Q E):FnOk P w K mg base CX k f fd ps sp':=
 ⟨fun vs H Q E q=>F.len vs H Q E (h _ _ _ _ q),fun A outer s H args us vs Q E hr he hb hv hs=>F.run A outer s H args us vs Q E hr he hb hv (h _ _ _ _ hs)⟩
theorem Env0.make {P:aK} {w:bt} {K:aa} {mg:Str->Option Value} {base:Heap} {A:bg} {outer:List Env} {s:ai} {H:Hp} (e:Env0 P w K mg base A outer s H) (C:Addr) (us:List Value) (kw:List (Str×Value)) :
  Env0 P w K mg base (A.under (.builtin "type.__call__" ⟨.ref C::us,kw⟩)) outer s H:=⟨by first|exact e.frames|(simpa [mq,Code.envs,mr,pushEnvs] using e.frames),e.mod,e.bs,e.bsz,e.funs,e.frf,e.hok,e.bare,e.tk⟩
theorem Env0.in1 {P:aK} {w:bt} {K:aa} {mg:Str->Option Value} {base:Heap} {A:bg} {outer:List Env} {s:ai} {H:Hp} (e:Env0 P w K mg base A outer s H) :
  Env0 P w K mg base A.in1 outer s H:=⟨e.frames,e.mod,e.bs,e.bsz,e.funs,e.frf,e.hok,e.bare,e.tk⟩
section
variable {X:Cx} {pins:List (Addr×Obj)} {σ:St} {H:Hp} {s s':ai}
theorem Inv.env0 (I:Inv X pins σ H s):Env0 X.prog X.w X.K X.mg X.base X.A X.stack s H:=
 ⟨I.ok.frames,I.ok.mod,I.bs,aS I.ok.bsz I.sz,I.stack,I.stkFree,I.hok,I.bare,bH⟩
theorem Inv.after {Q:VK} {u:Value} (I:Inv X pins σ H s) (h:CE X.stack X.prog X.w H s Q u s'):EP X pins σ Q u s':=by
 obtain⟨v,H',os,bare,un,hok,r,q⟩:=h
 obtain⟨hh,g,d,t,os'⟩:=s'
 obtain rfl:os'=s.os:=os.1
 exact⟨v,H',I.call (h':=hh) (g':=g) (d':=d) (t':=t) (ch:=[]) un hok bare (fun b z=>absurd z (by simp)) os.2,r,q⟩
end
noncomputable def Binds (K:aa) (fd:aH) (ps:List Str) (ds:List Value):Prop:=
 ∀ (s:ai) (us:List Value),K.In s.heap->(us++ds).length=ps.length->mK s fd ⟨us,[]⟩ (ps.zip (us++ds))
theorem Binds.all {K:aa} {fd:aH} {ps:List Str} (h:∀ us:List Value,us.length=ps.length->lU fd ⟨us,[]⟩=pure (ps.zip us)):Binds K fd ps []:=fun s us _ hl=>by
 rw [cO] at hl ⊢
 exact .of_eq (h us hl)
section
variable {X:Cx} {CX:CXT} {k:Nat} {f C:Addr} {fd:aH} {ps:List Str} {sp:Sp} {dvs:List V} {ds:List Value} {E:XK} {x m:Str} {p pos apos:Pos} {e o:Expr} {es:List Expr} {ta:TE} {t:TA}
structure Mk (K:aa) (C f:Addr):Prop where
 makes:cP K C=true
 init:ar K (.ref C) "__init__" = some (some (.ref f))
 fn:c6 K (.ref f)=true
 kp:aV K (.ref C)=true
end
section
variable {X:Cx} {CX:CXT} {k:Nat} {f C:Addr} {fd:aH} {ps ks:List Str} {sp:Sp} {E:XK} {x m:Str} {p pos apos kpos:Pos} {e o:Expr} {es:List Expr} {kws:List mN} {te ta:TE} {t tk:TA} {nm:Option Str}
variable {g:List Value->List Value->List Value} {gV:List V->List V->List V}
end
structure Al (N P:List Str) (sc:Scope):Prop where
 kind:sc.kind=.function
 co:sc.isCoroutine=false
 gen:sc.isGenerator=false
 nd:N.Nodup
 pre:N.take P.length=P
 par:∀ x∈P,sc.names.lookup x=some .local\/sc.names.lookup x=some .cell
 nofree:∀ y∈sc.names,y.2≠.free
theorem Lo {kindOf:Str->Option cF} {x:Str}:∀ {binds:List (Str×Value)} {m:Str->Option Value},(∀ v,(x,v)∉binds)->bindL kindOf binds m x=m x
 | [],_,_=>rfl
 | (n,v)::r,m,h=>by
  unfold bindL
  rw [Lo fun w hw=>h w (aJ _ hw)]
  split
  ·have:x≠n:=by rintro rfl;exact h v bx
   simp [this]
  ·rfl
theorem Lm {kindOf:Str->Option cF} {x:Str}:∀ {binds:List (Str×Value)} {m:Str->Option Value},(∀ v,(x,v)∉binds)->bindC kindOf binds m x=m x
 | [],_,_=>rfl
 | (n,v)::r,m,h=>by
  unfold bindC
  rw [Lm fun w hw=>h w (aJ _ hw)]
  split
  ·rfl
  ·have:x≠n:=by rintro rfl;exact h v bx
   simp [this]
theorem Ln {kindOf:Str->Option cF} {x:Str} {v:Value}:∀ {P:List Str} {vs:List Value} {i:Nat} {m:Str->Option Value},P.Nodup->P[i]? = some x->vs[i]? = some v->kindOf x=some .local ->
  bindL kindOf (P.zip vs) m x=some v
 | [],_,_,_,_,h,_,_=>by simp at h
 | _::_,[],_,_,_,_,h,_=>by simp at h
 | p::P,w::vs,0,m,nd,h1,h2,hk=>by
  simp at h1 h2;subst h1;subst h2
  show bindL kindOf ((p,w)::P.zip vs) m p=_
  unfold bindL
  rw [Lo fun v hv=>(List.nodup_cons.mp nd).1 (kj hv).1,if_pos hk]
  simp
 | p::P,w::vs,i+1,m,nd,h1,h2,hk=>by
  show bindL kindOf ((p,w)::P.zip vs) m x=_
  unfold bindL
  exact Ln (i:=i) (List.nodup_cons.mp nd).2 (by simpa using h1) (by simpa using h2) hk
theorem Ll {kindOf:Str->Option cF} {x:Str} {v:Value}:∀ {P:List Str} {vs:List Value} {i:Nat} {m:Str->Option Value},P.Nodup->P[i]? = some x->vs[i]? = some v->kindOf x≠some .local ->
  bindC kindOf (P.zip vs) m x=some v
 | [],_,_,_,_,h,_,_=>by simp at h
 | _::_,[],_,_,_,_,h,_=>by simp at h
 | p::P,w::vs,0,m,nd,h1,h2,hk=>by
  simp at h1 h2;subst h1;subst h2
  show bindC kindOf ((p,w)::P.zip vs) m p=_
  unfold bindC
  rw [Lm fun v hv=>(List.nodup_cons.mp nd).1 (kj hv).1,if_neg hk]
  simp
 | p::P,w::vs,i+1,m,nd,h1,h2,hk=>by
  show bindC kindOf ((p,w)::P.zip vs) m x=_
  unfold bindC
  exact Ll (i:=i) (List.nodup_cons.mp nd).2 (by simpa using h1) (by simpa using h2) hk
noncomputable def start (N:List Str) (vs:List V):St:=vs.map some++kW (N.length - vs.length) none
noncomputable def Ji (CX:CXT) (P:aK) (w:bt) (K:aa) (mg:Str->Option Value) (base:Heap) (N:List Str) (qual:Str) (scope:Scope) (f:Addr) (cd:Value) (A:bg) (outer:List Env) (s:ai) (H:Hp) (E:XK):Cx where
 prog:=P
 w:=w
 K:=K
 mg:=mg
 base:=base
 A:=A.deeper (mE qual scope s.heap.objs.size f cd)
 N:=N
 s₀:=s
 H₀:=H
 env:=mE qual scope s.heap.objs.size f cd
 outer:=outer
 stack:=mE qual scope s.heap.objs.size f cd::outer
 ex:=[]
 calm:=true
 fn:=fun _=>true
 pn:=[]
 xe:=fun e s'=>aG (model P w) (A.deeper (mE qual scope s.heap.objs.size f cd)) (leaving (mE qual scope s.heap.objs.size f cd) e) (fun _ s''=>CX outer H s E e s'') (fun e' s''=>CX outer H s E e' s'') s'
theorem Gi {sc:Scope} {n:Nat} {x:Str} (h:sc.names.lookup x=some .cell):∃ c,(cellsFrom n sc.names []).lookup x=some c:=by
 have q:=j0 sc.names n [] (.inl h)
 exact Option.isSome_iff_exists.mp q
theorem V9 {CX:CXT} {P:aK} {w:bt} {K:aa} {mg:Str->Option Value} {base:Heap} {N ps:List Str} {qual:Str} {scope:Scope} {f:Addr} {cd:Value} {A:bg} {outer:List Env} {s s1:ai} {H:Hp} {E:XK} {us:List Value} {vs:List V}
  (S:Al N ps scope) (hd:A.handled=none) (e0:Env0 P w K mg base A outer s H) (htk:s.toks<=s1.toks) (hl:vs.length=ps.length) (r:Vals vs us)
  (x:InCallC s s.heap.objs.size (bindL (mE qual scope s.heap.objs.size f cd).kindOf (ps.zip us) fun _=>none) (cellsFrom (s.heap.objs.size+1) scope.names []) (bindC (mE qual scope s.heap.objs.size f cd).kindOf (ps.zip us) fun _=>none) s1) :
  Inv (Ji CX P w K mg base N qual scope f cd A outer s H E) [] (start N vs) H s1:=by
 have hpl:ps.length<=N.length:=by have:=congrArg gr S.pre;rw [a_] at this;omega
 obtain⟨h1,tk,rfl,hk⟩:=x.done
 have noA:∀ b:Addr,b∉(Ji CX P w K mg base N qual scope f cd A outer s H E).ex:=fun b z=>absurd (show b∈([]:List Addr) from z) (by simp)
 refine⟨⟨e0.mod,S.kind,rfl,rfl,ae _,fun y z c h1 h2=>?_,fun y hy=>?_,fun y c _ h=>?_,fun _=>hd,Around.frames_deeper e0.frames,.inr ⟨rfl,rfl⟩,fun b z=>absurd z (noA b),e0.bs,e0.bsz,fun b _ _=>noA b,fun b z=>absurd z (noA b),e0.funs,e0.frf,e0.tk⟩,
  ⟨rfl,htk⟩,e0.bare,Un.kept hk,⟨_,x.toInCall.ns,fun i y v h1 h2 h3=>?_⟩,fun y c h=>⟨_,x.cell y c h⟩,e0.hok.fresh (ae _),fun y c h=>?_,fun p hp=>absurd (show p∈([]:List (Addr×Obj)) from hp) (by simp),e0.hok.kept hk,?_⟩
 ·exact name_of_addr x.apart (b9 h1) (b9 h2)
 ·have hy:scope.names.lookup y=some .cell\/scope.names.lookup y=some .free:=hy
  rcases hy with hy|hy
  ·exact Gi hy
  ·exact absurd rfl (S.nofree _ (b9 hy))
 ·exact fQ (x.above y c (b9 h))
 ·have hi:i<vs.length:=by
   unfold start at h2
   by_cases hi:i<vs.length
   ·exact hi
   ·rw [cU (by simpa using hi)] at h2
    rw [List.getElem?_replicate] at h2
    split at h2 <;> cases h2
  have ha:vs[i]? = some v:=by
   unfold start at h2
   rw [dW (by simpa using hi),aA] at h2
   cases e:vs[i]? with
   | none=>rw [e] at h2;cases h2
   | some a=>rw [e] at h2;cases h2;rfl
  obtain⟨u,hu,rv⟩:=r.get ha
  have hp:ps[i]? = some y:=by
   rw [<- S.pre,List.getElem?_take_of_lt (by omega)];exact h1
  have ndP:ps.Nodup:=by rw [<- S.pre];exact S.nd.sublist (jo _ _)
  refine⟨u,rv,?_⟩
  rcases S.par y (aY hp) with k|k
  ·exact .inl ⟨k,Ln ndP hp hu k⟩
  ·obtain⟨c,e⟩:=Gi (n:=s.heap.objs.size+1) k
   refine .inr ⟨.inl k,c,e,?_⟩
   have q:=x.cell y c e
   rw [Ll ndP hp hu (by show scope.names.lookup y≠_;rw [k];decide)] at q
   exact q
 ·exact e0.hok.fresh (fQ (x.above y c (b9 h)))
 ·unfold start
  show _=N.length
  rw [aI,ag,List.length_replicate]
  omega
theorem ar8 {CX:CXT} {P:aK} {w:bt} {K:aa} {mg:Str->Option Value} {base:Heap} {k:Nat} {f:Addr} {name qual:Str} {params:Arguments} {body:List Stmt} {scope:Scope} {dV kV doc pm cdv ct oc:Value} {an od:Option Addr}
  {osl:Array (Option Value)} {N ps:List Str} {sp:Sp} (lk:K.lookup f=some ⟨oc,od,.func (cb name qual params body scope dV kV doc pm an cdv ct),osl⟩) (hcd:dA K cdv qual=true) (S:Al N ps scope)
  (len:∀ vs H Q E,sp vs H Q E->vs.length=ps.length)
  (hbody:∀ (A:bg) (outer:List Env) (s:ai) (H:Hp) (vs:List V) (Q:VK) (E:XK),Room k (A.deeper (mE qual scope s.heap.objs.size f cdv))->sp vs H Q E ->
   ∃ t,PSs (Ji CX P w K mg base N qual scope f cdv A outer s H E) body t/\t { nx:=fun _ H'=>Q .non H',rt:=Q } (start N vs) H) :
  FnOk P w K mg base CX (k+1) f (cb name qual params body scope dV kV doc pm an cdv ct) ps sp:=by
 refine⟨len,fun A outer s H args us vs Q E hr e0 hb r hsp=>?_⟩
 have hl:=len _ _ _ _ hsp
 have KX:K.In s.heap:=e0.mod.kin.keeps fun b o e=>(e0.bs b o e).1
 have lim:s.heap.NoLimit:=e0.mod.nolimit.keeps fun b o e=>(e0.bs b o e).1
 have hkind:∀ y∈ps.zip us,scope.names.lookup y.1=some .local\/(scope.names.lookup y.1=some .cell/\((cellsFrom (s.heap.objs.size+1) scope.names []).lookup y.1).isSome=true):=fun⟨n,v⟩ hy=>by
  rcases S.par n (kj hy).1 with q|q
  ·exact .inl q
  ·exact .inr ⟨q,j0 _ _ _ (.inl q)⟩
 refine codeAny_call_function hr.depth (KX _ _ lk) rfl S.co S.gen rfl (PySem.W.codeRec_of KX hcd) (hb _ _ _ _ ?_)
 refine bE (ae _) (wpAny_newFunctionEnv_cells S.kind hkind fun env he s1 x htk=>?_)
 subst he
 refine⟨lim.keeps x.toInCall.keep,codeAny_func ?_⟩
 obtain⟨t,ht,hq⟩:=hbody A outer s H vs Q E (hr.deeper _) hsp
 have I:Inv (Ji CX P w K mg base N qual scope f cdv A outer s H E) [] (start N vs) H s1:=V9 S hr.hd e0 htk hl r x
 refine bL (ht [] s1 (start N vs) H _ I hq) (fun fl s' hs=>?_) fun e s' hs=>hs
 have fin:∀ {σ':St} {H':Hp} {v:V} {u:Value},Inv (Ji CX P w K mg base N qual scope f cdv A outer s H E) [] σ' H' s'->RelV v u->Q v H'->CE outer P w H s Q u s':=
  fun {σ' H' v u} J rv q=>⟨v,H',J.os,J.bare,J.base,J.hok,rv,q⟩
 cases fl with
 | ret u=>
  obtain⟨v,σ',H',J,rv,q⟩:=hs
  exact fin J rv q
 | next=>
  obtain⟨σ',H',J,q⟩:=hs
  exact fin (v:=V.non) (u:=bh) J rfl q
 | brk=>
  obtain⟨_,_,_,q⟩:=hs
  exact cA q
 | cont=>
  obtain⟨_,_,_,q⟩:=hs
  exact cA q
section
variable {X:Cx} {x:Str} {p pos:Pos} {e:Expr} {es:List Expr} {t:TA} {id T:String} {r:List V->Hp->VK->Prop}
noncomputable def tCB (r:List V->Hp->VK->Prop) (t:TA):TE:=fun σ H Q=>t σ H fun vs H1=>r vs H1 Q
theorem aa4 (hc:Cc X (.builtin id) r) (hg:Gl X x) (hm:X.mg x=none) (hv:cN x=some (.builtin id)) (ha:PA X (e::es) t) (hn:x ≠ "__name__" := by decide) (hdb:(x==("__debug__" : Str))=false:=by decide)
  (he:cV (e::es) X.env=(false,eval e X.env)::cV es X.env:=by rfl) (hpl:(jv pos (cV es X.env)).any (·.1)=false:=by rfl):PE X (.Call (.Name x p) (e::es) [] pos) (tCB r t):=by
 intro pins s σ H Q I h
 refine bI (Dk I hg hm hv ?_ hn hdb)
 exact h_ (thn (ha pos pins s σ H _ I h) fun us s1 ⟨vs,H1,I1,r1,q1⟩=>hc pins s1 σ H1 vs us Q I1 r1 q1) he hpl
theorem Ws (hc:Cc X (.type T) r) (hg:Gl X x) (hm:X.mg x=none) (hv:cN x=some (.type T)) (ha:PA X (e::es) t) (hn:x ≠ "__name__" := by decide) (hdb:(x==("__debug__" : Str))=false:=by decide)
  (he:cV (e::es) X.env=(false,eval e X.env)::cV es X.env:=by rfl) (hpl:(jv pos (cV es X.env)).any (·.1)=false:=by rfl):PE X (.Call (.Name x p) (e::es) [] pos) (tCB r t):=by
 intro pins s σ H Q I h
 refine bI (Dk I hg hm hv ?_ hn hdb)
 exact bX (thn (ha pos pins s σ H _ I h) fun us s1 ⟨vs,H1,I1,r1,q1⟩=>hc pins s1 σ H1 vs us Q I1 r1 q1) he hpl
end
end L2
namespace HT
open PySem PyProof.Rows
section
open PySem.SeqAt
open PySem.AutoSeq1 (wpAny_loadPart')
open PySem.MeetsSeq PySem.MeetsSeq2 PySem.MeetsSeq3
end
section
variable {prog:aK} {w:bt} {A:bg} {E:Value->ai->Prop} {s:ai}
theorem cat_tup {t b:Addr} {vs ws:List Value} {Q:Value->ai->Prop} (ht:nF s.heap t vs.toArray) (hb:nF s.heap b ws.toArray) (hv:vs≠[])
  (h1:ws=[]->Q (.ref t) s) (h2:ws≠[]->Q (.ref s.heap.objs.size) { s with heap:=s.heap.push { cls:=.type "tuple", data:=.seq (vs++ws).toArray } })
  (hsz:vs.length+ws.length<=sizeLine):aG (model prog w) A (gn .Add (.ref t) (.ref b)) Q E s:=by
 obtain⟨⟨cls,dd,data,sl⟩,ho,hc,n,hd⟩:=id ht
 obtain⟨⟨cls2,dd2,data2,sl2⟩,ho2,hc2,n2,hd2⟩:=id hb
 simp only at hc hd hc2 hd2
 subst hc hd hc2 hd2
 have e:vs.toArray++ws.toArray=(vs++ws).toArray:=by simp
 by_cases hw:ws=[]
 ·exact mD ⟨_,ho,rfl⟩ ⟨_,ho2,rfl⟩ jQ lY gU gL (gE _ _)
   (tuple_addW1 t b vs.toArray ws.toArray n n2 dd dd2 sl sl2 (by simpa using hv) (by simp [hw])) ⟨ho,ho2,h1 hw⟩
 ·refine mD ⟨_,ho,rfl⟩ ⟨_,ho2,rfl⟩ jQ lY gU gL (gE _ _)
   (tuple_addW2 t b vs.toArray ws.toArray n n2 dd dd2 sl sl2 (by simpa using hv) (by simpa using hw) (by rw [am,am];exact hsz)) ⟨ho,ho2,?_⟩
  rw [e]
  exact h2 hw
noncomputable def sIx (n d:Nat):Option Int->Nat
 | none=>d
 | some v=>if v<0 then (v+(n:Int)).toNat else min v.toNat n
theorem sIx_none (n d:Nat):sIx n d none=d:=rfl
theorem sIx_nat (n d k:Nat):sIx n d (some (k:Int))=min k n:=by
 show (if (k:Int)<0 then ((k:Int)+(n:Int)).toNat else min (k:Int).toNat n)=min k n
 rw [if_neg (by omega),bW]
theorem bd6 (n d:Nat) (hd:d<=n) (o:Option Int):sIx n d o<=n:=by
 cases o with
 | none=>exact hd
 | some v=>
  show (if v<0 then (v+(n:Int)).toNat else min v.toNat n)<=n
  by_cases hv:v<0
  ·rw [if_pos hv];omega
  ·rw [if_neg hv];exact Nat.min_le_right _ _
theorem Tm (v:Int) (n d:Nat):(if v<0 then max (v+(n:Int)) 0 else min v (n:Int))=((sIx n d (some v):Nat):Int):=by
 show (if v<0 then max (v+(n:Int)) 0 else min v (n:Int))=(((if v<0 then (v+(n:Int)).toNat else min v.toNat n):Nat):Int)
 by_cases hv:v<0
 ·simp only [if_pos hv];omega
 ·simp only [if_neg hv];omega
theorem Pp (lo hi:Option Int) (n:Nat):f6 lo hi 1 (n:Int)=(((sIx n 0 lo:Nat):Int),((sIx n n hi:Nat):Int)):=by
 have h1:¬ ((1:Int)<0):=by omega
 unfold f6
 simp only [h1,if_false]
 refine Prod.ext ?_ ?_
 ·cases lo with
  | none=>rfl
  | some v=>exact Tm v n 0
 ·cases hi with
  | none=>rfl
  | some v=>exact Tm v n n
theorem Qx (i j:Nat):dU (i:Int) (j:Int) 1=j - i:=by
 unfold dU
 have h1:(1:Int) > 0:=by omega
 simp only [h1,if_true,Int.ediv_one]
 split <;> omega
theorem Kv {v:Value} {o:Option Int} {Q:Option Int->ai->Prop} (p:lM v o) (h:Q o s):aG (model prog w) A (Builtin.Slice.slicePartIndex v) Q E s:=by
 cases p with
 | none=>exact slicePart_none h
 | int i t=>exact slicePart_int h
theorem sliceApplied_gen {sl:Addr} {vl vu:Value} {lo hi:Option Int} {n:Nat} {Q:Int×Int×Nat->ai->Prop} (hs:s.heap.IsSliceOf sl vl vu .none) (pl:lM vl lo) (pu:lM vu hi)
  (h:Q (((sIx n 0 lo:Nat):Int),1,sIx n n hi - sIx n 0 lo) s):aG (model prog w) A (iW (.ref sl) (pure (n:Int))) Q E s:=by
 obtain⟨os,hos,hcs,hds⟩:=id hs
 unfold iW Builtin.Slice.sliceFields
 refine ac (ac (b_ hos hds (x:=vl) rfl (ac (b_ hos hds (x:=vu) rfl (ac (b_ hos hds (x:=.none) rfl (ah ?_)))))))
 refine ac (slicePart_none ?_)
 show aG _ _ (if ((1:Int)==0)=true then _ else _) _ _ s
 rw [if_neg (by decide)]
 refine ac (Kv pl (ac (Kv pu (ac (ah ?_)))))
 show aG _ _ (match f6 lo hi 1 (n:Int) with|(lo,hi)=>pure (lo,(1:Int),dU lo hi 1)) _ _ s
 rw [Pp lo hi n]
 show aG _ _ (pure (((sIx n 0 lo:Nat):Int),(1:Int),dU ((sIx n 0 lo:Nat):Int) ((sIx n n hi:Nat):Int) 1)) _ _ s
 rw [Qx]
 exact ah h
theorem aa7 (xs:Array Value) (i k:Nat):((cL k).filterMap fun (m:Nat)=>xs[((i:Int)+(m:Int) * 1).toNat]?).toArray=((xs.toList.drop i).take k).toArray:=by
 have e:(fun (m:Nat)=>xs[((i:Int)+(m:Int) * 1).toNat]?)=fun m=>xs[i+m]?:=by
  funext m
  have:((i:Int)+(m:Int) * 1).toNat=i+m:=by omega
  rw [this]
 rw [e]
 have:=pick_run xs i k
 rw [List.filterMap_map] at this
 have e2:((fun x=>xs[x]?)∘fun x=>i+x)=fun m=>xs[i+m]?:=rfl
 rw [e2] at this
 rw [this]
theorem getItem_tuple_cut {t sl:Addr} {items:Array Value} {vl vu:Value} {lo hi:Option Int} {Q:Value->ai->Prop} (ht:nF s.heap t items) (hs:s.heap.IsSliceOf sl vl vu .none) (pl:lM vl lo) (pu:lM vu hi)
  (hw:¬ (sIx items.size 0 lo=0/\sIx items.size items.size hi=items.size))
  (h:Q (.ref s.heap.objs.size) { s with heap:=s.heap.push { cls:=.type "tuple", data:=.seq ((items.toList.drop (sIx items.size 0 lo)).take (sIx items.size items.size hi - sIx items.size 0 lo)).toArray } })
  (hsz:items.size<=sizeLine):aG (model prog w) A (lF (.ref t) (.ref sl)) Q E s:=by
 have htake:sizeOk (.seq ((items.toList.drop (sIx items.size 0 lo)).take (sIx items.size items.size hi - sIx items.size 0 lo)).toArray):=by
  show ((items.toList.drop (sIx items.size 0 lo)).take (sIx items.size items.size hi - sIx items.size 0 lo)).toArray.size<=sizeLine
  rw [am,a_,fu,aZ]
  omega
 have hj:sIx items.size items.size hi<=items.size:=bd6 _ _ (ae _) hi
 obtain⟨os,hos,hcs,hds⟩:=id hs
 have hTs:s.TypeIs (.ref sl) "slice" := ⟨os,hos,hcs⟩
 unfold lF
 try with_reducible refine bp ?_
 first|refine ac (ah ?_)|skip
 refine ac (wpAny_sequenceKey ht.typeIs (by decide) ?_)
 refine ac (cE (name:=cr "__getitem__") ht.typeIs bY
  (cI bY ht.typeIs entry_tuple_getitem ?_ (args_tuple_getitem _ _)))
 show aG _ _ (iX (.ref t) >>= _) _ _ s
 refine ac (tupleItemsOf_ ht ?_)
 refine ac (ic hTs ?_)
 rw [if_pos (by decide)]
 refine ac (sliceApplied_gen hs pl pu ?_)
 have hno:¬ ((((sIx items.size 0 lo:Nat):Int)==0&&(1:Int)==1&&(sIx items.size items.size hi - sIx items.size 0 lo)==items.size)=true):=by
  intro q
  rw [aw,aw] at q
  have q1:((sIx items.size 0 lo:Nat):Int)=0:=cv q.1.1
  have q2:sIx items.size items.size hi - sIx items.size 0 lo=items.size:=cv q.2
  exact hw ⟨by omega,by omega⟩
 show aG _ _ (if (((sIx items.size 0 lo:Nat):Int)==0&&(1:Int)==1&&(sIx items.size items.size hi - sIx items.size 0 lo)==items.size)=true then _ else _) _ _ s
 rw [if_neg hno,aa7]
 first
  | exact ac (m:=eE _) (b0 (ah ⟨_,rfl,ah h⟩) htake)
  | exact ac (m:=eE _) (b0 (ac (ah (ah ⟨_,rfl,ah h⟩))) htake)
  | exact ac (ac (m:=eE _) (b0 (ah (ah ⟨_,rfl,ah h⟩)) htake))
  | exact ac (ac (m:=eE _) (b0 (ah ⟨_,rfl,ah h⟩) htake))
end
end HT
namespace L2
open PySem PySem.Spec PyProof.Rows
noncomputable abbrev TO:=St->Hp->(Option Int->Hp->Prop)->Prop
noncomputable def PO (X:Cx) (e:Option Expr) (t:TO):Prop:=
 ∀ (pins:List (Addr×Obj)) (s:ai) (σ:St) (H:Hp) (Q:Option Int->Hp->Prop),Inv X pins σ H s->t σ H Q ->
  aG (model X.prog X.w) X.A (evalPart e X.env) (fun u s'=>∃ o H',Inv X pins σ H' s'/\lM u o/\Q o H') X.xe s
noncomputable def aq5:TO:=fun _ H Q=>Q none H
section
variable {X:Cx} {e:Expr} {te:TE} {lo hi:Option Expr} {tl th:TO} {pos p2:Pos}
theorem am0:PO X none aq5:=by
 intro pins s σ H Q I h
 rw [evalPart_none]
 exact ah ⟨none,H,I,.none,h⟩
noncomputable def SlR (X:Cx) (r:V->Option Int->Option Int->Hp->VK->Prop):Prop:=
 ∀ (pins:List (Addr×Obj)) (s:ai) (σ:St) (H:Hp) (x:V) (v vl vu:Value) (lo hi:Option Int) (sl:Addr) (Q:VK),Inv X pins σ H s->RelV x v->s.heap.IsSliceOf sl vl vu .none->lM vl lo->lM vu hi->r x lo hi H Q ->
  ∃ T id,fC (.type T) "__getitem__" = pure (some (.builtin id))/\s.TypeIs v T/\aG (model X.prog X.w) X.A (lF v (.ref sl)) (EP X pins σ Q) X.xe s
noncomputable def D0 (xs:List V) (lo hi:Option Int):List V:=(xs.drop (HT.sIx xs.length 0 lo)).take (HT.sIx xs.length xs.length hi - HT.sIx xs.length 0 lo)
theorem Ie (xs:List V) (lo hi:Option Int):(D0 xs lo hi).length<=xs.length:=by
 unfold D0
 rw [a_,fu]
 omega
noncomputable def b35 (K:aa):V->Option Int->Option Int->Hp->VK->Prop:=fun x lo hi H Q=>∃ a xs,x=.ref a/\SqT K H a xs /\
 ¬ (HT.sIx xs.length 0 lo=0/\HT.sIx xs.length xs.length hi=xs.length) /\ ∀ p,H p=none->Q (.ref p) (upd H p (.tup (D0 xs lo hi)))
theorem bf2:SlR X (b35 X.K):=by
 intro pins s σ H x v vl vu lo hi sl Q I rx hs pl pu h
 obtain⟨a,xs,rfl,hx,hw,q⟩:=h
 cases rx
 obtain⟨its,r,ht,hz⟩:=I.tuple hx
 have hlen:its.toArray.size=xs.length:=by rw [am];exact r.length.symm
 refine⟨"tuple", _,PyProof.Rows.slot_tuple_getitem.lookup,ht.typeIs,?_⟩
 refine HT.getItem_tuple_cut ht hs pl pu (by rw [hlen];exact hw) ?_ (by rw [hlen];exact hz)
 rw [hlen]
 refine⟨.ref s.heap.objs.size,_,I.laid (t':=s.toks) (o:=.tup (D0 xs lo hi)) (fun b ob q=>af _ q) (ae _) ?_,rfl,q _ (I.hok.fresh (ae _))⟩
 exact⟨aS (Ie xs lo hi) hz,_,(r.drop (HT.sIx xs.length 0 lo)).take (HT.sIx xs.length xs.length hi - HT.sIx xs.length 0 lo),IsTup.new _ _⟩
noncomputable def au9 (K:aa):R2:=fun x y H Q=>∃ a b xs ys,x=.ref a/\y=.ref b/\SqT K H a xs/\SqT K H b ys/\xs≠[]/\xs.length+ys.length<=sizeLine /\
 (ys=[]->Q (.ref a) H)/\(ys≠[] -> ∀ p,H p=none->Q (.ref p) (upd H p (.tup (xs++ys))))
theorem Vals.nil_iff {xs:List V} {us:List Value} (r:Vals xs us):us=[] ↔ xs=[]:=by
 cases r with
 | nil=>simp
 | cons _ _=>simp
theorem op_catT:OpR X (gn .Add) (au9 X.K):=by
 intro pins s σ H x y v u Q I rx ry h
 obtain⟨a,b,xs,ys,rfl,rfl,ha,hb,hx,hz,q1,q2⟩:=h
 cases rx
 cases ry
 obtain⟨its,r1,p1,_⟩:=I.tuple ha
 obtain⟨its2,r2,p2,_⟩:=I.tuple hb
 refine HT.cat_tup p1 p2 (fun z=>hx (r1.nil_iff.mp z)) (fun z=>⟨.ref a,H,I,rfl,q1 (r2.nil_iff.mp z)⟩) (fun z=>?_) (by rw [<- r1.length,<- r2.length];exact hz)
 refine⟨.ref s.heap.objs.size,_,I.laid (t':=s.toks) (o:=.tup (xs++ys)) (fun b ob q=>af _ q) (ae _) ?_,rfl,q2 (fun w=>z (r2.nil_iff.mpr w)) _ (I.hok.fresh (ae _))⟩
 exact⟨by rw [aI];exact hz,_,r1.append r2,IsTup.new _ _⟩
end
noncomputable def ixN (n:Nat) (i:Int):Option Nat:=if 0<=i then (if i<n then some i.toNat else none) else if -(n:Int)<=i then some (i+n).toNat else none
noncomputable def atI {α:Type} (xs:List α) (i:Int):Option α:=(ixN xs.length i).bind fun j=>xs[j]?
theorem Ud {n:Nat} {i:Int} {j:Nat} (h:ixN n i=some j):seqIndex? i n=some j/\j<n /\ -(n:Int)<=i/\i<n:=by
 unfold ixN at h
 by_cases h0:0<=i
 ·rw [if_pos h0] at h
  by_cases h1:i<n
  ·rw [if_pos h1] at h
   have e:i.toNat=j:=aU h
   exact⟨by rw [mV h0 h1,e],by omega,by omega,h1⟩
  ·rw [if_neg h1] at h;cases h
 ·rw [if_neg h0] at h
  by_cases h1:-(n:Int)<=i
  ·rw [if_pos h1] at h
   have e:(i+n).toNat=j:=aU h
   exact⟨by rw [mF (by omega) h1,e],by omega,h1,by omega⟩
  ·rw [if_neg h1] at h;cases h
theorem Mq {α:Type} {xs:List α} {i:Int} {v:α} (h:atI xs i=some v):∃ j,seqIndex? i xs.length=some j/\xs[j]? = some v/\j<xs.length /\ -(xs.length:Int)<=i/\i<xs.length:=by
 unfold atI at h
 cases e:ixN xs.length i with
 | none=>rw [e] at h;cases h
 | some j=>
  rw [e] at h
  obtain⟨h1,h2,h3,h4⟩:=Ud e
  exact⟨j,h1,h,h2,h3,h4⟩
noncomputable def Ta (b:Expr):Prop:=∀ o i,subscripted b false o i=operate [o,i] (lF o i)
noncomputable def IxR (X:Cx) (r:R2):Prop:=
 ∀ (value slice:Expr) (pins:List (Addr×Obj)) (s:ai) (σ:St) (H:Hp) (x y:V) (v u:Value) (Q:VK),Inv X pins σ H s->RelV x v->RelV y u->r x y H Q ->
  subscripted slice false v u=operate [v,u] (lF v u)->aG (model X.prog X.w) X.A (lZ value slice v u) (EP X pins σ Q) X.xe s
noncomputable def MtR (X:Cx) (id:String) (r:V->List V->Hp->VK->Prop):Prop:=
 ∀ (pins:List (Addr×Obj)) (s:ai) (σ:St) (H:Hp) (x:V) (xs:List V) (v:Value) (us:List Value) (Q:VK),Inv X pins σ H s->RelV x v->Vals xs us->r x xs H Q ->
  aG (model X.prog X.w) X.A (call (.builtin id) (v::us)) (EP X pins σ Q) X.xe s
section
variable {X:Cx} {a b:Expr} {ta tb:TE} {pos:Pos}
theorem bp0 {r:R2} (hr:IxR X r) (ha:PE X a ta) (hb:PE X b tb) (hs:Ta b):PE X (.Subscript a b pos) (tOp r ta tb):=by
 intro pins s σ H Q I h
 exact Subscript_ (a19 ha hb I h fun v u s2 x y H2 I2 rx ry q=>hr a b pins s2 σ H2 x y v u Q I2 rx ry q (hs _ _))
noncomputable def b28 (K:aa):R2:=fun x y H Q=>∃ p xs i v,x=.ref p/\y=.int i/\SqL K H p xs/\atI xs i=some v/\Q v H
noncomputable def b30 (K:aa):R2:=fun x y H Q=>∃ p xs i v,x=.ref p/\y=.int i/\SqT K H p xs/\atI xs i=some v/\Q v H
noncomputable def b29:R2:=fun x y H Q=>∃ z i c,x=.str z/\y=.int i/\z.length<=sizeLine/\atI z.cps.toList i=some c/\Q (.str ⟨#[c]⟩) H
theorem aj8:IxR X (b28 X.K):=by
 intro value slice pins s σ H x y v u Q I rx ry h hs
 obtain⟨p,xs,i,z,rfl,rfl,hq,he,q⟩:=h
 cases rx
 obtain⟨t,rfl⟩:=ry
 obtain⟨its,r,pl,hz⟩:=I.list hq
 obtain⟨j,h1,h2,h3,h4,h5⟩:=Mq he
 obtain⟨w,ew,rw'⟩:=r.get h2
 have hl:=r.length
 have hn:=F8
 have fin:EP X pins σ Q w s:=⟨z,H,I,rw',q⟩
 by_cases h0:0<=i
 ·have hj:i.toNat=j:=by
   rw [mV h0 h5] at h1
   exact aU h1
  exact item_listR pl.isList h0 (by omega) (by rw [hj];simpa using ew) fin hs
 ·have hj:(i+(its.toArray.size:Int)).toNat=j:=by
   rw [mF (by omega) h4] at h1
   rw [am,<- hl]
   exact aU h1
  exact j6 (x:=w) pl.isList.typeIs slot_list_getitem.lookup
   (wpAny_getItem_list_neg (Q:=fun r s'=>r=w/\EP X pins σ Q r s') pl.isList (by omega) (by rw [am] <;> omega) (by omega) (by rw [hj];simpa using ew) ⟨rfl,fin⟩) hs
theorem a35:IxR X (b30 X.K):=by
 intro value slice pins s σ H x y v u Q I rx ry h hs
 obtain⟨p,xs,i,z,rfl,rfl,hq,he,q⟩:=h
 cases rx
 obtain⟨t,rfl⟩:=ry
 obtain⟨its,r,pl,hz⟩:=I.tuple hq
 obtain⟨j,h1,h2,h3,h4,h5⟩:=Mq he
 obtain⟨w,ew,rw'⟩:=r.get h2
 have hl:=r.length
 have hn:=F8
 have fin:EP X pins σ Q w s:=⟨z,H,I,rw',q⟩
 exact j6 (x:=w) pl.typeIs slot_tuple_getitem.lookup
  (getItem_tuple (j:=j) (Q:=fun r s'=>r=w/\EP X pins σ Q r s') pl (by omega) (by omega) (by rw [am,<- hl];exact h1) (by simpa using ew) ⟨rfl,fin⟩) hs
theorem a34:IxR X b29:=by
 intro value slice pins s σ H x y v u Q I rx ry h hs
 obtain⟨z,i,c,rfl,rfl,hz,he,q⟩:=h
 obtain⟨t,rfl⟩:=rx
 obtain⟨t',rfl⟩:=ry
 obtain⟨j,h1,h2,h3,h4,h5⟩:=Mq he
 have hl:z.cps.toList.length=z.length:=by simp [Str.length]
 rw [hl] at h1 h4 h5
 have hn:=F8
 exact nC (typeIs_str s z t) slot_str_getitem.lookup (getItem_str (c:=c) (by
  have e1:decide (i < -(2 ^ 63:Int))=false:=decide_eq_false (by omega)
  have e2:decide (i ≥ 2 ^ 63)=false:=decide_eq_false (by omega)
  rw [e1,e2,lL]) (by rw [h1];simpa using h2) ⟨.str ⟨#[c]⟩,H,I.tok _,⟨_,rfl⟩,q⟩) hs
theorem Qq (its:List Value) (n j:Nat) (u:Value):a0 (·.setIfInBounds j u) { cls:=.type "list", data:=.seq its.toArray n }={ cls:=.type "list", data:=.seq (its.set j u).toArray n }:=by
 simp [a0]
theorem Inv.lst {pins:List (Addr×Obj)} {σ:St} {H:Hp} {s:ai} {p:Addr} {xs:List V} (I:Inv X pins σ H s) (h:H p=some (.lst xs)) :
  ∃ (its:List Value) (n:Nat),Vals xs its/\s.heap.get? p=some { cls:=.type "list", data:=.seq its.toArray n }/\xs.length<=sizeLine:=by
 obtain⟨z,its,n,r,e⟩:=I.hok p _ h
 exact⟨its,n,r,e,z⟩
theorem Inv.lstUpd {pins:List (Addr×Obj)} {σ:St} {H:Hp} {s:ai} {p:Addr} {xs ys:List V} {its its':List Value} {n n':Nat} {f:Obj->Obj} (I:Inv X pins σ H s) (h:H p=some (.lst xs))
  (ho:s.heap.get? p=some { cls:=.type "list", data:=.seq its.toArray n }) (hf:f { cls:=.type "list", data:=.seq its.toArray n }={ cls:=.type "list", data:=.seq its'.toArray n' }) (r:Vals ys its') (hz:ys.length<=sizeLine) (t:Nat) (ht:s.toks<=t:=by first|exact ae _|exact bi _ _|assumption|omega|(dsimp only;omega)) :
  Inv X pins σ (upd H p (.lst ys)) { s with heap:=s.heap.update p f,toks:=t }:=by
 have e:(s.heap.update p f).get? p=some { cls:=.type "list", data:=.seq its'.toArray n' }:=by
  rw [aW f ho (by rw [hf] <;> rfl),hf]
 refine I.write (x:=p) (e:=p) (by rw [h];trivial) (.inl rfl) (fun b u hb q=>(aN _ _ (bO hb)).trans q) ⟨_,e⟩ ?_
 exact⟨hz,its',n',r,e⟩
noncomputable def bq6:V->V->V->Hp->(Hp->Prop)->Prop:=fun o i v H Q=>∃ p xs k j,o=.ref p/\i=.int k/\H p=some (.lst xs)/\ixN xs.length k=some j/\Q (upd H p (.lst (xs.set j v)))
theorem ae5:a15 X bq6:=by
 intro pins s σ H o i v ov iv u Q I ro ri rv h
 obtain⟨p,xs,k,j,rfl,rfl,hp,hj,q⟩:=h
 cases ro
 obtain⟨t,rfl⟩:=ri
 obtain⟨its,n,r,ho,hz⟩:=I.lst hp
 obtain⟨h1,h2,h3,h4⟩:=Ud hj
 have hl:=r.length
 have hn:=F8
 have I':Inv X pins σ (upd H p (.lst (xs.set j v))) { s with heap:=s.heap.update p (a0 (·.setIfInBounds j u)) }:=
  I.lstUpd hp ho (Qq its n j u) (r.set rv j) (by rw [kh];exact hz) s.toks
 by_cases h0:0<=k
 ·have hk:k.toNat=j:=by
   rw [mV h0 h4] at h1
   exact aU h1
  exact PySem.W.ki_setAt ho h0 (by omega) (by rw [am,<- hl];exact h4) (by rw [hk];exact⟨_,I',q⟩)
 ·have hk:(k+(its.toArray.size:Int)).toNat=j:=by
   rw [mF (by omega) h3] at h1
   rw [am,<- hl]
   exact aU h1
  exact PySem.W.ki_setBack ho (by omega) (by rw [am,<- hl];exact h3) (by omega) (by rw [hk];exact⟨_,I',q⟩)
theorem Np (lo hi:Option Int) (n:Nat):(g6 lo hi none n).1=((HT.sIx n 0 lo:Nat):Int)/\(g6 lo hi none n).2.1=((HT.sIx n n hi:Nat):Int)/\(g6 lo hi none n).2.2=1:=by
 refine⟨?_,?_,rfl⟩
 ·cases lo with
  | none=>simp [g6,HT.sIx]
  | some i=>
   simp only [g6,HT.sIx,Option.getD_none,show (1:Int) > 0 by decide,if_true]
   by_cases h:i<0
   ·simp only [h,if_true] <;> omega
   ·simp only [h,if_false] <;> omega
 ·cases hi with
  | none=>simp [g6,HT.sIx]
  | some i=>
   simp only [g6,HT.sIx,Option.getD_none,show (1:Int) > 0 by decide,if_true]
   by_cases h:i<0
   ·simp only [h,if_true] <;> omega
   ·simp only [h,if_false] <;> omega
theorem Le (its:List Value) (lo hi:Option Int):slicePick its.toArray lo hi none=((its.drop (HT.sIx its.length 0 lo)).take (HT.sIx its.length its.length hi - HT.sIx its.length 0 lo)).toArray:=by
 obtain⟨h1,h2,h3⟩:=Np lo hi its.toArray.size
 unfold slicePick
 rw [h1,h2,h3]
 simp only [sliceRange_one,pick_run,am] <;> rfl
noncomputable def b34 (K:aa):V->Option Int->Option Int->Hp->VK->Prop:=fun x lo hi H Q=>∃ a xs,x=.ref a/\SqL K H a xs /\ ∀ p,H p=none->Q (.ref p) (upd H p (.lst (D0 xs lo hi)))
theorem ap3:SlR X (b34 X.K):=by
 intro pins s σ H x v vl vu lo hi sl Q I rx hs pl pu h
 obtain⟨a,xs,rfl,hx,q⟩:=h
 cases rx
 obtain⟨its,r,ht,hz⟩:=I.list hx
 have hlen:=r.length
 refine⟨"list", _,slot_list_getitem.lookup,ht.isList.typeIs,?_⟩
 refine wpAny_getItem_list_slice ht.isList hs pl pu .none (by simp) ?_ (by rw [am] <;> omega)
 rw [Le,<- hlen]
 refine⟨.ref s.heap.objs.size,_,I.laid (t':=s.toks) (o:=.lst (D0 xs lo hi)) (fun b ob q=>af _ q) (ae _) ?_,rfl,q _ (I.hok.fresh (ae _))⟩
 exact⟨aS (Ie xs lo hi) hz,_,0,(r.drop (HT.sIx xs.length 0 lo)).take (HT.sIx xs.length xs.length hi - HT.sIx xs.length 0 lo),aq _ rfl⟩
noncomputable def Cd:V->Bool
 | .non=>true
 | .bl _=>true
 | .int _=>true
 | .str _=>true
 | _=>false
noncomputable def eqV:V->V->Bool
 | .non,.non=>true
 | .bl a,.bl b=>a==b
 | .bl a,.int b=>(if a then 1 else 0)==b
 | .int a,.bl b=>a==(if b then 1 else 0)
 | .int a,.int b=>a==b
 | .str a,.str b=>a==b
 | _,_=>false
theorem P8 {A:bg} {s:ai} {y x:V} {u v:Value} (ry:RelV y u) (rx:RelV x v) (fy:Cd y=true) (fx:Cd x=true):bz A s u v (eqV y x):=by
 cases y with
 | non=>
  cases ry
  cases x with
  | non=>cases rx;exact SeqAt.EqAt.same _
  | bl b=>cases rx;exact SeqAt.EqAt.none_bool b
  | int b=>obtain⟨t,rfl⟩:=rx;exact lm b t
  | str b=>obtain⟨t,rfl⟩:=rx;exact lq b t
  | _=>exact absurd (show false=true from fx) ak
 | bl a=>
  cases ry
  cases x with
  | non=>cases rx;exact SeqAt.EqAt.bool_none a
  | bl b=>cases rx;exact SeqAt.EqAt.bool_bool a b
  | int b=>obtain⟨t,rfl⟩:=rx;exact SeqAt.EqAt.bool_int a b t
  | str b=>obtain⟨t,rfl⟩:=rx;exact SeqAt.EqAt.bool_str a b t
  | _=>exact absurd (show false=true from fx) ak
 | int a=>
  obtain⟨t',rfl⟩:=ry
  cases x with
  | non=>cases rx;exact lj a t'
  | bl b=>cases rx;exact SeqAt.EqAt.int_bool a t' b
  | int b=>obtain⟨t,rfl⟩:=rx;exact SeqAt.EqAt.int_int a t' b t
  | str b=>obtain⟨t,rfl⟩:=rx;exact lQ a t' b t
  | _=>exact absurd (show false=true from fx) ak
 | str a=>
  obtain⟨t',rfl⟩:=ry
  cases x with
  | non=>cases rx;exact lv a t'
  | bl b=>cases rx;exact SeqAt.EqAt.str_bool a t' b
  | int b=>obtain⟨t,rfl⟩:=rx;exact lT a t' b t
  | str b=>obtain⟨t,rfl⟩:=rx;exact SeqAt.EqAt.str_str a t' b t
  | _=>exact absurd (show false=true from fx) ak
 | _=>exact absurd (show false=true from fy) ak
noncomputable def eqU (x:V) (u:Value):Bool:=match u with
 | .none=>eqV .non x
 | .bool b=>eqV (.bl b) x
 | .int i _=>eqV (.int i) x
 | .str z _=>eqV (.str z) x
 | _=>false
theorem Y5 {x y:V} {u:Value} (r:RelV y u) (f:Cd y=true):eqU x u=eqV y x:=by
 cases y with
 | non=>cases r;rfl
 | bl b=>cases r;rfl
 | int i=>obtain⟨t,rfl⟩:=r;rfl
 | str z=>obtain⟨t,rfl⟩:=r;rfl
 | _=>exact absurd (show false=true from f) ak
theorem Ge {x:V}:∀ {xs:List V} {us:List Value},Vals xs us->xs.all Cd=true->us.any (eqU x)=xs.any fun y=>eqV y x
 | _,_,.nil,_=>rfl
 | y::xs,u::us,.cons r t,f=>by
  rw [bF,aw] at f
  rw [gJ,gJ,Y5 r f.1,Ge t f.2]
theorem E6 {A:bg} {s:ai} {x:V} {v:Value} (rx:RelV x v) (fx:Cd x=true):∀ {xs:List V} {us:List Value},Vals xs us->xs.all Cd=true -> ∀ u∈us,bz A s u v (eqU x u)
 | _,_,.nil,_=>fun u hu=>by cases hu
 | y::xs,u::us,.cons r t,f=>fun u' hu=>by
  rw [bF,aw] at f
  rcases List.mem_cons.mp hu with rfl|hu
  ·rw [Y5 r f.1];exact P8 r rx f.1 fx
  ·exact E6 rx fx t f.2 u' hu
noncomputable def inV (x:V) (xs:List V):Bool:=xs.any fun y=>eqV y x
noncomputable def rIn (K:aa) (neg:Bool):R2:=fun x y H Q=>∃ p xs,y=.ref p/\(SqL K H p xs\/SqT K H p xs)/\Cd x=true/\xs.all Cd=true/\Q (.bl (if neg then !inV x xs else inV x xs)) H
theorem Mb:OpR X (cg .In) (rIn X.K false):=by
 intro pins s σ H x y v u Q I rx ry h
 obtain⟨p,xs,rfl,hq,fx,fs,q⟩:=h
 cases ry
 rcases hq with hq|hq
 ·obtain⟨its,r,pl,hz⟩:=I.list hq
  refine SeqAt.in_listAt (eqU x) pl.isList (fun w hw=>E6 rx fx r fs w (by simpa using hw)) ⟨.bl _,H,I,rfl,?_⟩
  rw [show its.toArray.any (eqU x)=its.any (eqU x) by simp,Ge r fs]
  exact q
 ·obtain⟨its,r,pl,hz⟩:=I.tuple hq
  refine SeqAt.in_tupleAt (eqU x) pl (fun w hw=>E6 rx fx r fs w (by simpa using hw)) ⟨.bl _,H,I,rfl,?_⟩
  rw [show its.toArray.any (eqU x)=its.any (eqU x) by simp,Ge r fs]
  exact q
theorem Gy:OpR X (cg .NotIn) (rIn X.K true):=by
 intro pins s σ H x y v u Q I rx ry h
 obtain⟨p,xs,rfl,hq,fx,fs,q⟩:=h
 cases ry
 rcases hq with hq|hq
 ·obtain⟨its,r,pl,hz⟩:=I.list hq
  refine SeqAt.notIn_listAt (eqU x) pl.isList (fun w hw=>E6 rx fx r fs w (by simpa using hw)) ⟨.bl _,H,I,rfl,?_⟩
  rw [show its.toArray.any (eqU x)=its.any (eqU x) by simp,Ge r fs]
  exact q
 ·obtain⟨its,r,pl,hz⟩:=I.tuple hq
  refine SeqAt.notIn_tupleAt (eqU x) pl (fun w hw=>E6 rx fx r fs w (by simpa using hw)) ⟨.bl _,H,I,rfl,?_⟩
  rw [show its.toArray.any (eqU x)=its.any (eqU x) by simp,Ge r fs]
  exact q
theorem Mu:Cc X (.builtin "len") (fun xs H Q=>∃ p ys,xs=[.ref p]/\(SqL X.K H p ys\/SqT X.K H p ys)/\Q (.int ys.length) H):=by
 intro pins s σ H xs us Q I r h
 obtain⟨p,ys,rfl,hq,q⟩:=h
 obtain⟨u,rfl,rx⟩:=Dq r
 cases rx
 have hn:=F8
 rcases hq with hq|hq
 ·obtain⟨its,r',pl,hz⟩:=I.list hq
  have hlen:=r'.length
  exact Calls.call_len_list pl.isList (by simp only [am] <;> omega) ⟨.int ys.length,H,I.tok _,⟨s.toks+1,by rw [am,hlen]⟩,q⟩
 ·obtain⟨its,r',pl,hz⟩:=I.tuple hq
  have hlen:=r'.length
  exact len_tuple pl (by simp only [am] <;> omega) ⟨.int ys.length,H,I.tok _,⟨s.toks+1,by rw [am,hlen]⟩,q⟩
theorem Mv:Cc X (.builtin "len") (fun xs H Q=>∃ z,xs=[.str z]/\z.length<=sizeLine/\Q (.int z.length) H):=by
 intro pins s σ H xs us Q I r h
 obtain⟨z,rfl,hz,q⟩:=h
 obtain⟨u,rfl,t,rfl⟩:=Dq r
 have hn:=F8
 exact len_str (by omega) ⟨.int z.length,H,I.tok _,⟨_,rfl⟩,q⟩
theorem Mw:Cc X (.type "list") (fun xs H Q=>∃ p ys,xs=[.ref p]/\(SqL X.K H p ys\/SqT X.K H p ys) /\ ∀ l,H l=none->Q (.ref l) (upd H l (.lst ys))):=by
 intro pins s σ H xs us Q I r h
 obtain⟨p,ys,rfl,hq,q⟩:=h
 obtain⟨u,rfl,rx⟩:=Dq r
 cases rx
 have fin:∀ (its:List Value),Vals ys its->ys.length<=sizeLine -> ∀ (h':Heap) (c':Nat),(∀ b o',s.heap.get? b=some o'->h'.get? b=some o') ->
   h'.get? s.heap.objs.size=some { cls:=.type "list", dict:=none,data:=.seq its.toArray c',slots:=#[] }->EP X pins σ Q (.ref s.heap.objs.size) { s with heap:=h' }:=fun its r' hz h' c' kp e=>
  ⟨.ref s.heap.objs.size,_,I.laid (t':=s.toks) kp (ae _) (show ObjOk X.prog X.w _ h' _ (.lst ys) from⟨hz,its,c',r',e⟩),rfl,q _ (I.hok.fresh (ae _))⟩
 rcases hq with hq|hq
 ·obtain⟨its,r',pl,hz⟩:=I.list hq
  have hlen:=r'.length
  obtain⟨o,ho,hc,n,hd⟩:=pl.isList
  exact call_list_seq p (.inl rfl) ho hc hd (fun h' c' kp e=>fin its r' hz h' c' kp e) (by simp only [am] <;> omega)
 ·obtain⟨its,r',pl,hz⟩:=I.tuple hq
  have hlen:=r'.length
  obtain⟨o,ho,hc,n,hd⟩:=pl
  exact call_list_seq p (.inr rfl) ho hc hd (fun h' c' kp e=>fin its r' hz h' c' kp e) (by simp only [am] <;> omega)
theorem K5:Cc X (.type "tuple") (fun xs H Q=>∃ p ys,xs=[.ref p]/\((SqL X.K H p ys /\ ∀ l,H l=none->Q (.ref l) (upd H l (.tup ys)))\/(SqT X.K H p ys/\Q (.ref p) H))):=by
 intro pins s σ H xs us Q I r h
 obtain⟨p,ys,rfl,h⟩:=h
 obtain⟨u,rfl,rx⟩:=Dq r
 cases rx
 rcases h with ⟨hq,q⟩|⟨hq,q⟩
 ·obtain⟨its,r',pl,hz⟩:=I.list hq
  have hlen:=r'.length
  refine call_tuple_list pl.isList (fun h' kp=>?_) (by simp only [am] <;> omega)
  have I1:Inv X pins σ H { s with heap:=h' }:=I.kept (t':=s.toks) kp
  have I2:Inv X pins σ (upd H h'.objs.size (.tup ys)) { s with heap:=h'.push { cls:=.type "tuple", data:=.seq its.toArray } }:=
   I1.laid (t':=s.toks) (fun b o e=>af _ e) (ae _) (show ObjOk X.prog X.w _ _ _ (.tup ys) from⟨hz,its,r',IsTup.new _ _⟩)
  exact⟨.ref h'.objs.size,_,I2,rfl,q _ (I1.hok.fresh (ae _))⟩
 ·obtain⟨its,r',pl,hz⟩:=I.tuple hq
  exact call_tuple_same pl ⟨.ref p,H,I,rfl,q⟩
noncomputable def tyV (K:aa) (T:String) (x:V) (H:Hp):Prop:=match x with
 | .str _=>T = "str"
 | .int _=>T = "int"
 | .ref p=>(T = "list" /\ ∃ xs,SqL K H p xs)\/(T = "tuple" /\ ∃ o,K.lookup p=some o/\o.cls=.type "tuple" /\ o.dict=none) \/
   (T = "dict" /\ ((∃ kvs,H p=some (.dK kvs)) \/ ∃ kvs,H p=some (.dT kvs)))\/(T = "set" /\ ∃ S n,H p=some (.set S n))
 | _=>False
theorem ag5 {pins:List (Addr×Obj)} {σ:St} {H:Hp} {s:ai} {T:String} {x:V} {v:Value} (I:Inv X pins σ H s) (r:RelV x v) (ty:tyV X.K T x H) :
  s.TypeIs v T /\ ∀ a,v=.ref a -> ∃ ob,s.heap.get? a=some ob/\ob.dict=none:=by
 cases x with
 | str z=>
  obtain⟨t,rfl⟩:=r
  cases (show T = "str" from ty)
  exact⟨typeIs_str s z t,fun _ e=>nomatch e⟩
 | int i=>
  obtain⟨t,rfl⟩:=r
  cases (show T = "int" from ty)
  exact⟨typeIs_int s i t,fun _ e=>nomatch e⟩
 | ref p=>
  cases r
  rcases ty with ⟨rfl,xs,hq⟩|⟨rfl,o,hk,hc,hd⟩|⟨rfl,hk⟩|⟨rfl,S,n,hk⟩
  ·obtain⟨its,_,pl,_⟩:=I.list hq
   refine⟨pl.isList.typeIs,fun a e=>?_⟩
   cases e
   obtain⟨o,n,e,c,hd,_⟩:=pl
   exact⟨o,e,hd⟩
  ·refine⟨⟨o,I.kIn p o hk,hc⟩,fun a e=>?_⟩
   cases e
   exact⟨o,I.kIn _ o hk,hd⟩
  ·have z:∃ o,s.heap.get? p=some o/\o.ExactDict:=by
    rcases hk with ⟨kvs,hk⟩|⟨kvs,hk⟩
    ·obtain⟨_,_,_,_,o,_,_,e,ex,_⟩:=I.hok p _ hk
     exact⟨o,e,ex⟩
    ·obtain⟨_,_,_,_,o,_,_,e,ex,_⟩:=I.hok p _ hk
     exact⟨o,e,ex⟩
   obtain⟨o,e,ex⟩:=z
   refine⟨⟨o,e,ex.1⟩,fun a e2=>?_⟩
   cases e2
   exact⟨o,e,ex.2.1⟩
  ·obtain⟨o,_,_,_,e,ex,_⟩:=I.hok p _ hk
   refine⟨⟨o,e,ex.1⟩,fun a e2=>?_⟩
   cases e2
   exact⟨o,e,ex.2.1⟩
 | _=>exact cA ty
variable {o e:Expr} {es:List Expr} {to:TE} {t:TA} {name:Str} {apos cpos:Pos} {T id:String} {r:V->List V->Hp->VK->Prop}
end
noncomputable def MtM (X:Cx) (id:String) (r:V->List V->Hp->VK->Prop):Prop:=
 ∀ (pins:List (Addr×Obj)) (s:ai) (σ:St) (H:Hp) (x:V) (xs:List V) (v:Value) (us:List Value) (Q:VK),Inv X pins σ H s->RelV x v->Vals xs us->r x xs H Q ->
  aG (model X.prog X.w) X.A (call (.builtin id) (v::us)) (EP X pins σ Q) X.xe s
theorem Vals.one:∀ {x:V} {us:List Value},Vals [x] us -> ∃ u,us=[u]/\RelV x u
 | _,_,.cons r .nil=>⟨_,rfl,r⟩
theorem Vals.two:∀ {x y:V} {us:List Value},Vals [x,y] us -> ∃ u v,us=[u,v]/\RelV x u/\RelV y v
 | _,_,_,.cons r (.cons q .nil)=>⟨_,_,rfl,r,q⟩
theorem Vals.zero:∀ {us:List Value},Vals [] us->us=[]
 | _,.nil=>rfl
theorem Vals.dropLast {xs:List V} {us:List Value} (h:Vals xs us):Vals xs.dropLast us.dropLast:=by
 induction h with
 | nil=>exact .nil
 | cons r t ih=>
  cases t with
  | nil=>exact .nil
  | cons q t'=>exact .cons r ih
theorem Vals.eraseIdx:∀ {xs:List V} {us:List Value} (i:Nat),Vals xs us->Vals (xs.eraseIdx i) (us.eraseIdx i)
 | _,_,_,.nil=>.nil
 | _,_,0,.cons _ t=>t
 | _,_,i+1,.cons r t=>.cons r (Vals.eraseIdx i t)
theorem P9 {α:Type} (l:List α):l.eraseIdx (l.length - 1)=l.dropLast:=by
 induction l with
 | nil=>rfl
 | cons a r ih=>
  cases r with
  | nil=>rfl
  | cons b r=>
   have e:(a::b::r).length - 1=((b::r).length - 1)+1:=by
    have h1:(a::b::r).length=r.length+2:=rfl
    have h2:(b::r).length=r.length+1:=rfl
    omega
   rw [e,List.eraseIdx_cons_succ,ih]
   all_goals rfl
theorem L9 {α:Type}:∀ (l:List α) (i:Nat),(l.eraseIdx i).length<=l.length
 | [],_=>ae _
 | _::_,0=>ce _
 | _::r,i+1=>ge (L9 r i)
section
variable {X:Cx} {pins:List (Addr×Obj)} {σ:St} {H:Hp} {s:ai} {l b:Addr} {xs ys zs:List V}
theorem Inv.lset {its its':List Value} {n:Nat} {f:Array Value->Array Value} {t':Nat} (I:Inv X pins σ H s) (hH:H l=some (.lst xs))
  (e:s.heap.get? l=some { cls:=.type "list", data:=.seq its.toArray n }) (hf:f its.toArray=its'.toArray) (hv:Vals ys its') (hz:ys.length<=sizeLine) (ht:s.toks<=t':=by first|exact ae _|exact bi _ _|assumption|omega|(dsimp only;omega)) :
  Inv X pins σ (upd H l (.lst ys)) { s with heap:=s.heap.update l (a0 f),toks:=t' }:=by
 have q:=PySem.IsL.update e f
 rw [hf] at q
 refine I.write (x:=l) (e:=l) (by rw [hH];exact trivial) (.inl rfl) (fun b' u hb hu=>(aN s.heap (a0 f) (bO hb)).trans hu) ⟨_,q⟩ ?_
 exact⟨hz,its',_,hv,q⟩
theorem Inv.lnew {its:List Value} {t':Nat} (I:Inv X pins σ H s) (hv:Vals ys its) (hz:ys.length<=sizeLine) (ht:s.toks<=t':=by first|exact ae _|exact bi _ _|assumption|omega|(dsimp only;omega)) :
  Inv X pins σ (upd H s.heap.objs.size (.lst ys)) { s with heap:=s.heap.push { cls:=.type "list", data:=.seq its.toArray },toks:=t' }:=
 I.laid (fun _ _ q=>af _ q) (ae _) ⟨hz,its,0,hv,aq _ rfl⟩ ht
theorem Inv.fresh (I:Inv X pins σ H s):H s.heap.objs.size=none:=I.hok.fresh (ae _)
theorem Inv.lstM (I:Inv X pins σ H s) (hH:H l=some (.lst xs)):xs.length<=sizeLine /\ ∃ (its:List Value) (n:Nat),Vals xs its/\xs.length=its.length/\s.heap.get? l=some { cls:=.type "list", data:=.seq its.toArray n }:=by
 obtain⟨z,its,n,r,e⟩:=I.hok l _ hH
 exact⟨z,its,n,r,r.length,e⟩
theorem Z9 {n:Nat} (h:n<=sizeLine):gB n=false:=by
 unfold gB
 exact decide_eq_false (by omega)
end
section
variable {X:Cx}
noncomputable def C3:V->List V->Hp->VK->Prop:=fun x vs H Q=>∃ l xs y,x=.ref l/\vs=[y]/\H l=some (.lst xs)/\xs.length<sizeLine/\Q .non (upd H l (.lst (xs++[y])))
theorem Ma:MtM X "list.append" C3:=by
 intro pins s σ H x vs v us Q I rx rv h
 obtain⟨l,xs,y,rfl,rfl,hH,hz,q⟩:=h
 cases rx
 obtain⟨u,rfl,ru⟩:=rv.one
 obtain⟨z,its,n,r,hl,e⟩:=I.lstM hH
 refine kL F.slot_list_append ⟨_,e,rfl⟩ F.entry_list_append (F.args_list_append_2 _ _) (PySem.list_append l its.toArray n u (by rw [am];omega)) ⟨e,?_⟩
 refine⟨.non,_,I.lset (its':=its++[u]) hH e (by simp) (r.append (.cons ru .nil)) ?_,rfl,q⟩
 rw [aI,cq]
 omega
noncomputable def G3:V->List V->Hp->VK->Prop:=fun x vs H Q=>∃ l b xs zs,x=.ref l/\vs=[.ref b]/\H l=some (.lst xs)/\H b=some (.lst zs)/\xs.length+zs.length<=sizeLine/\Q .non (upd H l (.lst (xs++zs)))
theorem Wl:MtM X "list.extend" G3:=by
 intro pins s σ H x vs v us Q I rx rv h
 obtain⟨l,b,xs,zs,rfl,rfl,hH,hB,hz,q⟩:=h
 cases rx
 obtain⟨u,rfl,ru⟩:=rv.one
 cases ru
 obtain⟨z,its,n,r,hl,e⟩:=I.lstM hH
 obtain⟨z2,its2,n2,r2,hl2,e2⟩:=I.lstM hB
 have hsz:its.toArray.size+its2.toArray.size<=sizeLine:=by rw [am,am];omega
 have hlong:¬ (!its.toArray.isEmpty&&gB (its.toArray.size+its2.toArray.size))=true:=by
  rw [Z9 hsz,fw]
  exact ak
 refine kL F.slot_list_extend ⟨_,e,rfl⟩ F.entry_list_extend (F.args_list_extend_2 _ _)
  (AutoSeq1.list_extend_list_list_0 l its.toArray n b its2.toArray n2 hlong (by rw [am];omega) (by omega)) ⟨e,e2,?_⟩
 refine⟨.non,_,I.lset (its':=its++its2) hH e (by simp) (r.append r2) ?_,rfl,q⟩
 rw [aI]
 omega
noncomputable def bq5:V->List V->Hp->VK->Prop:=fun x vs H Q=>∃ l xs y,x=.ref l/\vs=[]/\H l=some (.lst xs)/\xs[xs.length - 1]? = some y/\Q y (upd H l (.lst xs.dropLast))
theorem a42:MtM X "list.pop" bq5:=by
 intro pins s σ H x vs v us Q I rx rv h
 obtain⟨l,xs,y,rfl,rfl,hH,hy,q⟩:=h
 cases rx
 have hus:=rv.zero
 subst hus
 obtain⟨z,its,n,r,hl,e⟩:=I.lstM hH
 obtain⟨u,hu,ru⟩:=r.get hy
 have hy':its.toArray[its.toArray.size - 1]? = some u:=by
  show its.toArray[its.length - 1]? = some u
  rw [<- bJ,<- hl]
  exact hu
 refine kL F.slot_list_pop ⟨_,e,rfl⟩ F.entry_list_pop (F.args_list_pop_1 _) (MeetsSeq.list_pop_last l its.toArray n u hy' (by rw [am];omega)) ⟨e,?_⟩
 refine⟨y,_,I.lset (its':=its.dropLast) hH e ?_ r.dropLast ?_,ru,q⟩
 ·show its.toArray.eraseIdxIfInBounds (its.toArray.size - 1)=its.dropLast.toArray
  rw [am,gW,P9]
 ·rw [List.length_dropLast]
  omega
noncomputable def ad5:V->List V->Hp->VK->Prop:=fun x vs H Q=>∃ l xs i k y,x=.ref l/\vs=[.int i]/\H l=some (.lst xs) /\ -(2 ^ 63)<=i/\i<2 ^ 63/\seqIndex? i xs.length=some k/\xs[k]? = some y/\Q y (upd H l (.lst (xs.eraseIdx k)))
theorem Z1:MtM X "list.pop" ad5:=by
 intro pins s σ H x vs v us Q I rx rv h
 obtain⟨l,xs,i,k,y,rfl,rfl,hH,h1,h2,hk,hy,q⟩:=h
 cases rx
 obtain⟨u,rfl,ru⟩:=rv.one
 obtain⟨t,rfl⟩:=ru
 obtain⟨z,its,n,r,hl,e⟩:=I.lstM hH
 obtain⟨w,hw,rw'⟩:=r.get hy
 refine kL F.slot_list_pop ⟨_,e,rfl⟩ F.entry_list_pop (F.args_list_pop_2 _ _)
  (MeetsSeq.list_pop_at l its.toArray n i t k w (fitsIndex_both h1 h2) (by rw [am,<- hl];exact hk) (by rw [<- bJ];exact hw) (by rw [am];omega)) ⟨e,?_⟩
 refine⟨y,_,I.lset (its':=its.eraseIdx k) hH e ?_ (r.eraseIdx k) ?_,rw',q⟩
 ·show its.toArray.eraseIdxIfInBounds k=(its.eraseIdx k).toArray
  rw [gW]
 ·have:=L9 xs k
  omega
noncomputable def Q5:V->List V->Hp->VK->Prop:=fun x vs H Q=>∃ l xs,x=.ref l/\vs=[]/\H l=some (.lst xs)/\Q .non (upd H l (.lst []))
theorem Z0:MtM X "list.clear" Q5:=by
 intro pins s σ H x vs v us Q I rx rv h
 obtain⟨l,xs,rfl,rfl,hH,q⟩:=h
 cases rx
 have hus:=rv.zero
 subst hus
 obtain⟨z,its,n,r,hl,e⟩:=I.lstM hH
 refine kL F.slot_list_clear ⟨_,e,rfl⟩ F.entry_list_clear (F.args_list_clear_1 _) (AutoSeq1.list_clear_list_0 l its.toArray n (by rw [am];omega)) ⟨e,?_⟩
 exact⟨.non,_,I.lset (its':=[]) (ys:=[]) hH e rfl .nil (bo _),rfl,q⟩
noncomputable def bq3:R2:=fun x y H Q=>∃ l b xs zs,x=.ref l/\y=.ref b/\H l=some (.lst xs)/\H b=some (.lst zs)/\xs.length+zs.length<=sizeLine /\ ∀ p,H p=none->Q (.ref p) (upd H p (.lst (xs++zs)))
theorem op_cat:OpR X (gn .Add) bq3:=by
 intro pins s σ H x y v u Q I rx ry h
 obtain⟨l,b,xs,zs,rfl,rfl,hH,hB,hz,q⟩:=h
 cases rx
 cases ry
 obtain⟨z,its,n,r,hl,e⟩:=I.lstM hH
 obtain⟨z2,its2,n2,r2,hl2,e2⟩:=I.lstM hB
 refine PySem.P.add_list e e2 ?_ (by rw [am,am];omega)
 have ea:its.toArray++its2.toArray=(its++its2).toArray:=by simp
 rw [ea]
 exact⟨.ref _,_,I.lnew (t':=s.toks) (r.append r2) (by rw [aI];omega),rfl,q _ I.fresh⟩
end
section
variable {prog:aK} {w:bt} {A:bg} {E:Value->ai->Prop} {s:ai}
set_option maxRecDepth 100000 in
end
section
variable {X:Cx}
end
end L2
namespace Att
open PySem PySem.W PySem.Calls PyProof.Rows
theorem Im {P:Params} {h:Heap}:∀ (ns:List Int) (vs:List Value),WellAll P h vs (ns.map WData.int)->np vs ns:=by
 intro ns
 induction ns with
 | nil=>
  intro vs w
  rw [hW] at w
  cases w
  exact .nil
 | cons n ns ih=>
  intro vs w
  rw [aP] at w
  cases w with
  | cons a b=>
   cases a
   exact .cons _ _ (ih _ b)
theorem W0 {l:OpenLaw} {n:Nat} (hn:l.most=some n) {P:Params} {h:Heap} {args:List WData} {vals:List Value}
  (hpre:l.row.toRowW.claim.pre args=true) (hwl:WellAll P h vals args) :
  ∃ a vs ns,vals=[aM a]/\args=[WData.list (ns.map WData.int)]/\h.get? a=some { cls:=.type "list", data:=.seq vs.toArray }/\np vs ns/\ns.length<=n:=by
 have hsh:WShape.hasAll [] args [.list .int]=true:=(pre_splitW hpre).1
 have hc:l.pre.holds [] { args:=args }=true:=(pre_splitW hpre).2
 obtain⟨d,r,rfl,h1,h2⟩:=hasAllW_cons hsh
 obtain rfl:=hasAllW_nil h2
 obtain⟨xs,rfl,h3⟩:=hasW_list h1
 obtain⟨ns,rfl⟩:=items_int h3
 have hlen:ns.length<=n:=by
  unfold OpenLaw.pre at hc
  have h4:(WTm.not (.lt (.lit (.int (n:Int))) (.len (.arg 0)))).holds [] { args:=[.list (ns.map .int)] }=true:=by
   have h4:=(holds_andW hc).1
   rw [hn] at h4
   exact h4
  have h5:=condW_of h4 (w_not (w_lt w_lit (w_len_list (w_arg rfl))))
  rw [ag] at h5
  refine Nat.le_of_not_lt fun q=>?_
  have q':(n:Int)<((ns.length:Nat):Int):=by omega
  first
   | (rw [decide_eq_true q'] at h5;exact absurd h5 (by decide))
   | (simp at h5;omega)
 cases hwl with
 | cons w1 w2=>
  cases w2
  cases w1 with
  | list ho hall=>exact⟨_,_,ns,rfl,rfl,ho,Im ns _ hall,hlen⟩
theorem Wu (l:OpenLaw) (args:List WData):l.row.toRowW.claim.post args (.bool true) args=true:=
 postW_of (r:=l.row.toRowW) (X:=(true==true))
  (show WShape.has [] (.bool true) .bool=true by first|rfl|decide|simp [WShape.has,WShape.arms,WShape.armsAll])
  (show (WTm.eq .res (.lit (.bool true))).value [] { args:=args,res:=some (.bool true),after:=args }=some (.bool (true==true)) from w_eq_bool (w_res rfl) w_lit) rfl
theorem attach_call {l:OpenLaw} {n:Nat} {q:aK} {loose:List Str} {XP:(Str->Option Value)->Heap->Prop} {YP:bt->Heap->Prop} {d:DefRec}
  (hn:l.most=some n) (hdf:d.params.defaults=[])
  (call:∀ (w:bt) (s₀ s₁:ai) (mg mb:Str->Option Value) (fa:Addr) (o:Obj) (pm cd doc:Value) (a:Addr) (vs:List Value) (ns:List Int),
   Ground q loose [] XP w s₀ mg mb s₁.heap->YP w s₁.heap ->
   s₁.heap.get? fa=some o->o.data=.func (docDef d.name d.params d.body d.scope pm cd doc)->s₁.heap.CodeRec cd d.name->mg d.name=some (.ref fa) ->
   s₁.heap.get? a=some { cls:=.type "list", data:=.seq vs.toArray }->np vs ns->ns.length<=n->s₁.gens = #[] ->
   eK (model l.prog w) mj (.call (.ref fa) ⟨[.ref a],[]⟩) (fun r s'=>r=.ok (.ret (.bool true))/\OldK s₁.heap s'.heap/\s'.os=s₁.os/\jz s'.gens) s₁) :
  WalkO q loose XP YP l.row.toRowW d [] (fun f vs=>PySem.call f vs):=by
 intro w s₀ s₁ mg mb G Y fa o pm cd doc dV kV ho hd hcd hD hmg hg args vals as hpre hlay hrd hwl hlo
 obtain rfl:dV=.none:=Dflts.none hD hdf
 obtain rfl:kV=.none:=Dflts.noKw hD
 obtain⟨a,vs,ns,rfl,rfl,hobj,hints,hlen⟩:=W0 hn hpre hwl
 refine enter_call (eU (call w s₀ s₁ mg mb fa o pm cd doc a vs ns G Y ho (fd_plain hd) hcd hmg hobj hints hlen hg) fun r s' hq=>?_)
 obtain⟨rfl,h2,h3,h4⟩:=hq
 exact⟨.inl ⟨.bool true,.bool true,[],rfl,fun _=>rfl,.bool true,Wu l _,fun _=>⟨List.Pairwise.nil,fun _ hm=>(nomatch hm)⟩⟩,h2,h3,h4⟩
section
variable {prog:aK} {w:bt} {A:bg} {E:Value->ai->Prop} {s:ai} {K:Frag}
end
end Att
namespace L2
open PySem PySem.Spec PyProof.Rows
theorem Mn:∀ {vs:List Value} {ns:List Int},np vs ns->Vals (ns.map V.int) vs
 | _,_,.nil=>.nil
 | _,_,.cons n t h=>.cons ⟨t,rfl⟩ (Mn h)
noncomputable def a14 (H:Hp):Prop:=∀ b,H b=none \/ ∃ o xs,H b=some (.frz o (.lst xs))
theorem Zr {P:aK} {w:bt} {K:aa} {mg mb:Str->Option Value} {CX:CXT} {k:Nat} {fa a:Addr} {fd:aH} {x:Str} {sp:Sp} {s₁:ai} {vs:List Value} {ns:List Int}
  (KX:K.In s₁.heap) (hns:s₁.heap.Ns br mg) (hb:s₁.heap.Ns builtinsNs mb) (hbb:∀ x:Str,x ≠ "__name__" -> mb x=cN x) (htk:Tc K s₁.toks) (hlim:s₁.heap.NoLimit) (hg:s₁.gens = #[])
  (ha:s₁.heap.get? a=some { cls:=.type "list", data:=.seq vs.toArray }) (hi:np vs ns) (hl:ns.length<=sizeLine) (hr:Room k mj)
  (F:∀ base:Heap,K.In base->base.Ns br mg->FnOk P w K mg base CX k fa fd [x] sp) (hbind:∀ (s:ai) (u:Value),mK s fd ⟨[u],[]⟩ [(x,u)])
  (hsp:∀ H:Hp,a14 H->SqL K H a (ns.map V.int)->sp [.ref a] H (fun v _=>v=.bl true) fun _ _ _=>False)
  (hCX:∀ H e s',CX [] H s₁ (fun _ _ _=>False) e s'->False) :
  eK (model P w) mj (.call (.ref fa) ⟨[.ref a],[]⟩) (fun r s'=>r=.ok (.ret (.bool true))/\OldK s₁.heap s'.heap/\s'.os=s₁.os/\jz s'.gens) s₁:=by
 have rv:=Mn hi
 have lenV:=hi.length
 have core:∀ H:Hp,a14 H->SqL K H a (ns.map V.int)->HOk P w H s₁.heap->(∀ b,H b≠none->b=a)->(H a≠none->K.lookup a=none) ->
   eK (model P w) mj (.call (.ref fa) ⟨[.ref a],[]⟩) (fun r s'=>r=.ok (.ret (.bool true))/\OldK s₁.heap s'.heap/\s'.os=s₁.os/\jz s'.gens) s₁:=by
  intro H hO hS hok hA hK
  have base_of:∀ {b:Addr} {o:Obj},s₁.heap.get? b=some o->H b=none->(M5 s₁.heap H).get? b=some o:=fun e n=>Zg e n
  have noA:∀ {b:Addr} {o:Obj} {es:Array DictEntry} {ep:Nat},s₁.heap.get? b=some o->o.data=.dict es ep->H b=none:=fun {b o es ep} e d=>by
   cases q:H b with
   | none=>rfl
   | some u=>
    have e':b=a:=hA b (by rw [q];simp)
    subst e'
    rw [ha] at e;cases e
    have d':Data.seq vs.toArray _=Data.dict es ep:=d
    cases d'
  have nsK:∀ {b:Addr} {m:Str->Option Value},s₁.heap.Ns b m->(M5 s₁.heap H).Ns b m:=fun {b m} ⟨o,es,ep,e,d,r⟩=>⟨o,es,ep,base_of e (noA e d),d,r⟩
  have hKb:K.In (M5 s₁.heap H):=fun b o e=>base_of (KX b o e) (by
   cases q:H b with
   | none=>rfl
   | some u=>
    have e':b=a:=hA b (by rw [q];simp)
    subst e'
    rw [hK (by rw [q];simp)] at e;cases e)
  have hM:Mod K mg (M5 s₁.heap H):=⟨hKb,nsK hns,⟨mb,nsK hb,hbb⟩,let ⟨mc,h1,h2⟩:=hlim;⟨mc,nsK h1,h2⟩⟩
  have e0:Env0 P w K mg (M5 s₁.heap H) mj [] s₁ H:=⟨rfl,hM,fun b o e=>ak8 e,ku (V4 _ _),trivial,fun b hb=>absurd (show b∈([]:List Addr) from hb) (by simp),hok,.of_eq hg,htk⟩
  refine eU ((F _ hKb (nsK hns)).run mj [] s₁ H ⟨[.ref a],[]⟩ [.ref a] [.ref a] _ _ hr e0 (hbind s₁ (.ref a)) (.cons rfl .nil) (hsp H hO hS)) fun r s' h=>?_
  cases r with
  | error e=>exact (hCX H e s' h).elim
  | ok fl=>
   cases fl with
   | next=>exact cA h
   | brk=>exact cA h
   | cont=>exact cA h
   | ret u=>
    obtain⟨v,H',os,bare,un,hok',r',q⟩:=h
    have q':v=.bl true:=q
    subst q'
    obtain rfl:u=iF true:=r'
    refine⟨rfl,OldK.of_keep fun b o e=>?_,os.1,bare⟩
    cases q:H b with
    | none=>exact un.keep b o e q (by intro z;exact absurd (show b∈([]:List Addr) from z) (by simp)) (by simp)
    | some u=>
     rcases hO b with z|⟨ob,xs,z⟩
     ·rw [q] at z;cases z
     ·have z2:=un.frzs b ob _ z
      obtain⟨e1,_⟩:=hok b _ z
      obtain⟨e2,_⟩:=hok' b _ z2
      rw [e] at e1;cases e1
      exact e2
 cases hk:K.lookup a with
 | some o=>
  have e:=KX a o hk
  rw [ha] at e
  cases e
  refine core (fun _=>none) (fun _=>.inl rfl) (.inr ⟨_,vs.toArray,_,hk,rfl,rfl,rfl,by rw [am,lenV];exact hl,by rw [cy];intro v hv;obtain⟨i,_,rfl⟩:=List.mem_map.mp hv;rfl,by simpa using rv⟩) (fun b u z=>by have z':(none:Option HO)=some u:=z;cases z') (fun b z=>absurd rfl z) fun z=>absurd rfl z
 | none=>
  refine core (fun b=>if b=a then some (.frz { cls:=.type "list", data:=.seq vs.toArray } (.lst (ns.map V.int))) else none) (fun b=>?_) (.inl (.inr ⟨{ cls:=.type "list", data:=.seq vs.toArray },if_pos rfl⟩)) (fun b u z=>?_) (fun b z=>?_) fun _=>hk
  ·by_cases hb:b=a
   ·exact .inr ⟨_,_,if_pos hb⟩
   ·exact .inl (if_neg hb)
  ·by_cases hb:b=a
   ·have z':=(if_pos hb).symm.trans z
    cases z'
    subst hb
    exact⟨ha,by rw [ag];exact hl,vs,_,rv,ha⟩
   ·have z':=(if_neg hb).symm.trans z
    cases z'
  ·by_cases hb:b=a
   ·exact hb
   ·exact absurd (if_neg hb) z
theorem walk_of {l:kA} {n k:Nat} {q:aK} {loose:List Str} {XP:(Str->Option Value)->Heap->Prop} {YP:bt->Heap->Prop} {d:DefRec} {K:Params->aa} {CX:bt->CXT} {sp:bt->Sp} {x:Str}
  (hT:∀ (w:bt) (m:Nat),Tc (K w.params) m) (hn:l.most=some n) (hn2:n<=sizeLine) (hdf:d.params.defaults=[]) (hr:Room k mj)
  (hY:∀ (w:bt) (h:Heap),YP w h->(K w.params).In h)
  (F:∀ (w:bt) (mg:Str->Option Value) (fa:Addr) (h:Heap),(K w.params).In h->h.Ns br mg->mg d.name=some (.ref fa) ->
   ∃ fd:aH,(∀ (s:ai) (u:Value),mK s fd ⟨[u],[]⟩ [(x,u)]) /\
    ∀ base:Heap,(K w.params).In base->base.Ns br mg->FnOk l.prog w (K w.params) mg base (CX w) k fa fd [x] (sp w))
  (hsp:∀ (w:bt) (H:Hp) (a:Addr) (ns:List Int),ns.length<=n->a14 H->SqL (K w.params) H a (ns.map V.int)->sp w [.ref a] H (fun v _=>v=.bl true) fun _ _ _=>False)
  (hCX:∀ (w:bt) (H:Hp) (s:ai) (e:Value) (s':ai),CX w [] H s (fun _ _ _=>False) e s'->False) :
  PySem.W.WalkO q loose XP YP l.row.toRowW d [] (fun f vs=>PySem.call f vs):=by
 refine Att.attach_call hn hdf fun w s₀ s₁ mg mb fa o pm cd doc a vs ns G Y ho hd hcd hmg hobj hints hlen hg=>?_
 have KX:=hY w _ Y
 obtain⟨fd,hb,hF⟩:=F w mg fa _ KX G.T.g hmg
 exact Zr KX G.T.g G.T.b G.T.builtins (hT _ _) G.T.nolimit hg hobj hints (aS hlen hn2) hr hF hb (fun H hO hS=>hsp w H a ns hlen hO hS) fun H e s'=>hCX w H s₁ e s'
end L2
namespace L2
open PySem PySem.Spec PyProof.Rows
noncomputable def A8 (s:Stmt) (j:Nat):Stmt:=match s with
 | .ClassDef _ _ _ body _ _ _ _ _ _ _=>body.getD j (.Pass ⟨0,0,0,0⟩)
 | _=>.Pass ⟨0,0,0,0⟩
noncomputable def Bq (s:Stmt):Arguments:=match s with
 | .FunctionDef _ a _ _ _ _ _ _ _ _=>a
 | _=>{ posonlyargs:=[],args:=[],vararg:=none,kwonlyargs:=[],kw_defaults:=[],kwarg:=none,defaults:=[] }
noncomputable def Aj (s:Stmt):List Stmt:=match s with
 | .FunctionDef _ _ b _ _ _ _ _ _ _=>b
 | _=>[]
noncomputable def Ac (s:Stmt):Scope:=match s with
 | .FunctionDef _ _ _ _ _ _ sc _ _ _=>sc
 | _=>{ kind:=.function,names:=[],isGenerator:=false,isCoroutine:=false }
noncomputable abbrev CX0:CXT:=fun _ _ _ _ _ _=>False
structure Fun (K:aa) (x qual:Str) (st:Stmt) (f:Addr) (fd:aH):Prop where
 ex:∃ (oc:Value) (od:Option Addr) (kV doc pm:Value) (an:Option Addr) (cdv ct:Value) (osl:Array (Option Value)),
  fd=cb x qual (Bq st) (Aj st) (Ac st) .none kV doc pm an cdv ct/\K.lookup f=some ⟨oc,od,.func fd,osl⟩/\dA K cdv qual=true
 kp:aV K (.ref f)=true
section
variable {P:aK} {w:bt} {K:aa} {mg:Str->Option Value} {base:Heap}
theorem Fun.binds {x qual:Str} {st:Stmt} {f:Addr} {fd:aH} {ps:List Str} (F:Fun K x qual st f fd)
  (h:∀ (kV doc pm:Value) (an:Option Addr) (cdv ct:Value) (us:List Value),us.length=ps.length->lU (cb x qual (Bq st) (Aj st) (Ac st) .none kV doc pm an cdv ct) ⟨us,[]⟩=pure (ps.zip us)):Binds K fd ps []:=by
 obtain⟨oc,od,kV,doc,pm,an,cdv,ct,osl,rfl,lk,hcd⟩:=F.ex
 exact .all (h kV doc pm an cdv ct)
theorem Qb {x qual:Str} {st:Stmt} {f:Addr} {oc:Value} {od an:Option Addr} {osl:Array (Option Value)} {kV doc pm cdv ct:Value} (l:K.lookup f=some ⟨oc,od,.func (cb x qual (Bq st) (Aj st) (Ac st) .none kV doc pm an cdv ct),osl⟩)
  (c:dA K cdv qual=true) (k:aV K (.ref f)=true):Fun K x qual st f (cb x qual (Bq st) (Aj st) (Ac st) .none kV doc pm an cdv ct):=⟨⟨oc,od,kV,doc,pm,an,cdv,ct,osl,rfl,l,c⟩,k⟩
end
section
variable {X:Cx}
end
theorem Wb {A B:Prop} (h:B):if false=true then A else B:=by
 rw [if_neg ak]
 exact h
theorem Wc {A B:Prop} (h:A):if true=true then A else B:=by
 rw [if_pos rfl]
 exact h
theorem Hm {c A B:Prop} [Decidable c] (h1:c->A) (h2:¬ c->B):if c then A else B:=by
 by_cases h:c
 ·rw [if_pos h]
  exact h1 h
 ·rw [if_neg h]
  exact h2 h
noncomputable def Same (H H':Hp):Prop:=∀ b o,H b=some o->H' b=some o
theorem Same.refl (H:Hp):Same H H:=fun _ _ h=>h
theorem Same.trans {H H1 H2:Hp} (a:Same H H1) (b:Same H1 H2):Same H H2:=fun c o h=>b c o (a c o h)
theorem Same.free {H H':Hp} (e:Same H H') {l:Addr} (h:H' l=Option.none):H l=Option.none:=by
 cases q:H l with
 | none=>rfl
 | some o=>
  rw [e l o q] at h
  cases h
noncomputable def Cx.comp (X:Cx) (N':List Str) (scope:Scope) (cl:List (Str×Addr)) (fp:List Addr) (C:Addr) (s:ai) (H:Hp) (xe:Value->ai->Prop):Cx:=
 {prog:=X.prog,w:=X.w,K:=X.K,mg:=X.mg,base:=X.base,A:=X.A,N:=N',s₀:=s,H₀:=H,env:=nt scope cl C X.env,outer:=X.stack,stack:=X.stack,
  ex:=fp,fn:=fun x=>(cl.lookup x).isNone,calm:=X.calm,pn:=[],xe:=xe }
noncomputable def Vm (srcs:List (Option Nat)) (σ:St):St:=srcs.map fun o=>o.bind fun j=>(σ[j]?).join
structure Ja (X:Cx) (N':List Str) (srcs:List (Option Nat)) (scope:Scope) (cl:List (Str×Addr)):Prop where
 clos:closureFor scope X.env=pure cl
 nocell:∀ y∈scope.names,y.2≠.cell
 kind:scope.kind=.function
 names:∀ y∈scope.names,y.2=.local->scope.names.lookup y.1=some .local
 sub:∀ x c,cl.lookup x=some c->X.env.cells.lookup x=some c
 has:∀ x,((je scope X.env).names.lookup x=some .cell\/(je scope X.env).names.lookup x=some .free) -> ∃ c,cl.lookup x=some c
 len:srcs.length=N'.length
 src:∀ (k j:Nat) (x:Str),N'[k]? = some x->srcs[k]? = some (some j)->X.N[j]? = some x/\(X.env.scope.names.lookup x=some .cell\/X.env.scope.names.lookup x=some .free) /\
  ((je scope X.env).names.lookup x=some .cell\/(je scope X.env).names.lookup x=some .free)
noncomputable def Vf (X:Cx) (ifs:List Expr) (t:TT):Prop:=
 ∀ (pins:List (Addr×Obj)) (s:ai) (σ:St) (H:Hp) (Q:Bool->Hp->Prop),Inv X pins σ H s->t σ H Q ->
  aG (model X.prog X.w) X.A (forIn ifs true fun c r=>if r=true then do let ok <- isTrue c X.env (eval c X.env);pure (fO ok) else pure (fO r)) (TP X pins σ Q) X.xe s
noncomputable def b47:TT:=fun _ H Q=>Q true H
theorem aa8 {X:Cx}:Vf X [] b47:=fun _ _ _ H _ I h=>wpAny_tests_nil ⟨H,I,h⟩
theorem aa9 {X:Cx} {c:Expr} {t:TT} (h:PT X c t):Vf X [c] t:=fun pins s σ H Q I q=>wpAny_tests_one (h pins s σ H Q I q)
noncomputable def af8 (srcs:List (Option Nat)) (wi:TI) (g:TG) (tc:TT) (te:TE):TE:=fun σ H Q=>wi σ H fun J H1=>∀ D,H1 D=none ->
 ∃ W:Nat->Nat->St->Hp->Prop,(∃ m,W 0 m (Vm srcs σ) (upd H1 D (.lst []))) /\ ∀ i m σ' H',W i m σ' H' ->
  (J.stop i H'/\Q (.ref D) H')\/(J.go i H' /\ ∃ N:St->Hp->Prop,(∀ σ2 H2,N σ2 H2 -> ∃ m',m'<m/\W (i+1) m' σ2 H2) /\ ∀ x H2,J.yld i H' x H2->g x σ' H2 fun σ3 H3=>tc σ3 H3 fun b H4=>if b=true then
    te σ3 H4 fun v H5=>∃ ys,H5 D=some (.lst ys)/\ys.length<sizeLine/\N σ3 (upd H5 D (.lst (ys++[v])))
   else N σ3 H4)
section
variable {g:TG} {tc:TT} {te:TE} {D:Addr} {R:Hp->Prop} {σ:St} {H:Hp}
end
section
variable {prog:aK} {w:bt} {A:bg} {E:Value->ai->Prop} {R:kY->ai->Prop} {s:ai}
theorem Mx {elt target iter:Expr} {ifs:List Expr} {scope:Scope} {pos:Pos} {it acc:Value} {env:Env} (I:Nat->ai->Prop)
  (turn:∀ n s,I n s->aG (model prog w) A (i7 it) (fun r s₁=>match r with
   | none=>R (.ok .next) s₁
   | some v=>aG (model prog w) A (iP target it v) (fun _ s₀=>aG (model prog w) A (mx target env v) (fun _ s₂=>
     aG (model prog w) A (forIn ifs true fun c r=>if r=true then do let ok <- isTrue c env (eval c env);pure (fO ok) else pure (fO r)) (fun ok s₃=>
      if ok=true then aG (model prog w) A (eval elt env) (fun x s₄=>
       aG (model prog w) A (call (.builtin "list.append") [acc,x]) (fun _ s₅=>∃ m,m<n/\I m s₅) (mk (model prog w) A env fun e s'=>R (.error e) s') s₄) (mk (model prog w) A env fun e s'=>R (.error e) s') s₃
      else ∃ m,m<n/\I m s₃) (mk (model prog w) A env fun e s'=>R (.error e) s') s₂) (mk (model prog w) A env fun e s'=>R (.error e) s') s₀) (mk (model prog w) A env fun e s'=>R (.error e) s') s₁) (mk (model prog w) A env fun e s'=>R (.error e) s') s)
  (n:Nat) (h:I n s) :
  eK (model prog w) A (.compLoop (.ListComp elt [⟨target,iter,ifs,0⟩] scope pos) 0 it acc env) R s:=by
 refine codeAny_loop rfl I (fun n s hI=>?_) n h
 show aG _ A ((compTurn (.ListComp elt [⟨target,iter,ifs,0⟩] scope pos) 0 it acc env).onRaise (fun x=>do lX x env;theTreesLotGoes x)) _ _ s
 refine wpAny_noted ?_
 rw [compTurn_list]
 refine ac (dS (ac (bL (turn n s hI) (fun r s₁ h₁=>?_) fun _ _ h'=>h')))
 cases r with
 | none=>exact ah h₁
 | some v=>
  refine ac (bL h₁ (fun _ s₀ h₀=>?_) fun _ _ h'=>h')
  refine ac (bL h₀ (fun _ s₂ h₂=>ac (bL h₂ (fun ok s₃ h₃=>?_) fun _ _ h'=>h')) fun _ _ h'=>h')
  cases ok with
  | false=>exact ah ⟨rfl,h₃⟩
  | true=>
   exact ac (ac (bL h₃ (fun x s₄ h₄=>ac (bL h₄ (fun _ s₅ h₅=>ah (ah ⟨rfl,h₅⟩)) fun _ _ h'=>h')) fun _ _ h'=>h'))
end
section
variable {X:Cx} {elt tg iter:Expr} {ifs:List Expr} {scope:Scope} {pos:Pos} {N':List Str} {srcs:List (Option Nat)} {cl:List (Str×Addr)} {wi:TI} {g:TG} {tc:TT} {te:TE}
theorem P2 {xe:Value->ai->Prop} {pins:List (Addr×Obj)} {σ:St} {H:Hp} {s:ai} {fp:List Addr} {C D:Addr} {h₁:Heap} {tk:Nat} (S:Ja X N' srcs scope cl) (I:Inv X pins σ H s) (f:∀ b∈fp,Cs X pins H b) (fo:∀ b∈fp,b<s.heap.objs.size)
  (hD:s.heap.objs.size<=D) (hC:s.heap.objs.size<=C) (hDC:C≠D) (hns:∃ m,h₁.Ns C m) (old:∀ b o,s.heap.get? b=some o->h₁.get? b=some o) (hacc:∃ n,h₁.get? D=some { cls:=.type "list", data:=.seq ([]:List Value).toArray n }) (ht:s.toks<=tk:=by first|exact ae _|exact bi _ _|assumption|omega|(dsimp only;omega)) :
  Inv (X.comp N' scope cl fp C s H xe) [] (Vm srcs σ) (upd H D (.lst [])) { s with heap:=h₁,toks:=tk }:=by
 have hfD:=I.hok.fresh hD
 have ok:(X.comp N' scope cl fp C s H xe).Ok:=by
  refine⟨I.ok.mod,S.kind,I.ok.glob,I.ok.blt,hC,fun x y c a b=>I.ok.inj x y c (S.sub x c a) (S.sub y c b),S.has,fun x c hf hl=>?_,I.ok.hd,I.ok.frames,.inl rfl,fun b hb=>⟨?_,fun x c hl=>?_⟩,I.bs,aS I.ok.bsz I.sz,fun b o e hb=>?_,fun b hb hfs=>?_,I.stack,I.stkFree,bH⟩
  ·have hl':cl.lookup x=some c:=hl
   have hf':(cl.lookup x).isNone=true:=hf
   rw [hl'] at hf'
   cases hf'
  ·exact aE (aO (fo b hb) hC)
  ·exact (f b hb).2.2.2.2.1 x c (S.sub x c hl)
  ·rcases (f b hb).2.2.2.1 with z|z
   ·exact I.ok.noex b o e z
   ·exact absurd (aO (au e) (aS I.ok.bsz z)) (eY _)
  ·rcases List.mem_cons.mp (I.stkSub b hfs) with z|z
   ·exact (f b hb).2.1 z
   ·exact (f b hb).2.2.1 z
 obtain⟨m0,hns⟩:=hns
 obtain⟨nn,hacc⟩:=hacc
 refine⟨ok,⟨rfl,ht⟩,I.bare,Un.laid old hD hfD,⟨m0,hns,fun k x v e1 e2 e3=>?_⟩,fun x c hl=>?_,?_,fun x c hl=>?_,fun p hp=>absurd (show p∈([]:List (Addr×Obj)) from hp) (by simp),I.hok.laid old hD ⟨bo _,[],nn,.nil,hacc⟩,?_⟩
 ·-- the captured names
  have e1:N'[k]? = some x:=e1
  have e2:(srcs.map fun o=>o.bind fun j=>(σ[j]?).join)[k]? = some (some v):=e2
  rw [aA] at e2
  cases hk:srcs[k]? with
  | none=>rw [hk] at e2;cases e2
  | some o=>
   rw [hk] at e2
   cases o with
   | none=>cases e2
   | some j=>
    have e2':(σ[j]?).join=some v:=aU e2
    have e3':σ[j]? = some (some v):=by
     cases hj:σ[j]? with
     | none=>rw [hj] at e2';cases e2'
     | some y=>rw [hj] at e2';exact congrArg some e2'
    obtain⟨a1,a2,a3⟩:=S.src k j x e1 hk
    obtain⟨m,hn,hl⟩:=I.loc
    obtain⟨u,r,l⟩:=hl j x v a1 e3' (a2.elim (fun z=>.inr (.inl z)) fun z=>.inr (.inr z))
    refine⟨u,r,.inr ⟨a3,?_⟩⟩
    obtain⟨c,hc⟩:=S.has x a3
    refine⟨c,hc,?_⟩
    rcases l with ⟨z,_⟩|⟨_,c',hc',o,ho,hd⟩
    ·have z':X.env.scope.names.lookup x=some .local:=z
     rcases a2 with q|q <;> rw [q] at z' <;> cases z'
    ·have e:=S.sub x c hc
     rw [hc'] at e
     cases e
     exact⟨o,old _ o ho,hd⟩
 ·obtain⟨v,o,ho,hd⟩:=I.cell x c (S.sub x c hl)
  exact⟨v,o,old _ o ho,hd⟩
 ·show upd H D (.lst []) C=none
  rw [Ah hDC]
  exact I.hok.fresh hC
 ·have hx:=S.sub x c hl
  obtain⟨v,o,ho,hd⟩:=I.cell x c hx
  rw [Ah (aE (aO (au ho) hD))]
  exact I.freeC x c hx
 ·show (Vm srcs σ).length=N'.length
  unfold Vm
  rw [ag,S.len]
noncomputable def Bj (X:Cx) (scope:Scope) (cl:List (Str×Addr)) (use:Option (Value->Sem Unit)) (Q2:Value->ai->Prop) (D C:Addr):Value->ai->Prop:=
 mk (model X.prog X.w) X.A (nt scope cl C X.env) fun e s'=>compPost (model X.prog X.w) X.A X.xe use Q2 (.ref D) C (.error e) s'
theorem Ls {pins:List (Addr×Obj)} {s:ai} {σ:St} {H:Hp} {Q:VK} {use:Option (Value->Sem Unit)} {Q2:Value->ai->Prop} (hc:X.calm=true) (S:Ja X N' srcs scope cl) (hi:PI X tg iter wi)
  (hb:∀ fp C D s2 H2,Inv X pins σ H2 s2->(∀ b∈fp,Cs X pins H2 b)->s2.heap.objs.size<=C->PG (X.comp N' scope cl fp C s2 H2 (Bj X scope cl use Q2 D C)) tg g/\Vf (X.comp N' scope cl fp C s2 H2 (Bj X scope cl use Q2 D C)) ifs tc/\PE (X.comp N' scope cl fp C s2 H2 (Bj X scope cl use Q2 D C)) elt te)
  (I:Inv X pins σ H s) (h:af8 srcs wi g tc te σ H Q)
  (fin:∀ (D C:Addr) (H':Hp) (s':ai),Inv X pins σ H' s'->(∃ m,s'.heap.Ns C m)->Cs X pins H' C->Q (.ref D) H'->compPost (model X.prog X.w) X.A X.xe use Q2 (.ref D) C (.ok .next) s')
  (hs:∀ x,fX iter X.env x=pure x) :
  aG (model X.prog X.w) X.A (comprehension (.ListComp elt [⟨tg,iter,ifs,0⟩] scope pos) scope X.env (firstIterPos [⟨tg,iter,ifs,0⟩] pos) (newList []) false (eval iter X.env) use) Q2 X.xe s:=by
 refine wpAny_comprehension_free rfl hs S.clos S.kind S.names (thn (hi pins s σ H _ I h) fun v s1 h1=>thn h1 fun itv s2 h2=>?_)
 obtain⟨it,fp,tn,J,H2,e,I2,T,st2,f2,q2⟩:=h2
 subst e
 refine b0 (wpAny_newFunctionEnv S.nocell (by intro y hy;simp at hy) (fun h₁ hns₁ hsb₁=>?_) S.kind)
 dsimp only at hns₁ hsb₁ ⊢
 generalize hH2:s2.heap.push { cls:=.type "list", dict:=none,data:=.seq ([]:List Value).toArray }=G2 at hns₁ hsb₁ ⊢
 have hCe:G2.objs.size=s2.heap.objs.size+1:=by rw [<- hH2,cx]
 have hDC:G2.objs.size≠s2.heap.objs.size:=by rw [hCe];exact dz (cT _)
 have hCle:s2.heap.objs.size<=G2.objs.size:=by rw [hCe];exact ce _
 have old:∀ b o,s2.heap.get? b=some o->h₁.get? b=some o:=fun b o e=>
  hsb₁.extBut b o (aE (aO (au e) hCle)) (af _ (hH2▸af _ e))
 have hacc:∃ n,h₁.get? s2.heap.objs.size=some { cls:=.type "list", data:=.seq ([]:List Value).toArray n }:=⟨_,hsb₁.extBut _ _ (bO hDC) (af _ (hH2▸aq _ rfl))⟩
 have fo:∀ b∈fp,b<s2.heap.objs.size:=fun b hb=>by
  obtain⟨o,ho,_⟩:=T.obj _ _ st2 b hb
  exact au ho
 have st3:tn 0 h₁:=T.keep _ _ _ st2 fun b _ o e=>old b o e
 obtain⟨hg,ht,he⟩:=hb fp G2.objs.size s2.heap.objs.size s2 H2 I2 f2 hCle
 obtain⟨W,⟨m0,w0⟩,turn⟩:=q2 s2.heap.objs.size (I2.hok.fresh (ae _))
 have loop:∀ s3:ai,s3={ s2 with heap:=h₁,toks:=s2.toks+([]:List (Str×Value)).length } ->
   eK (model X.prog X.w) X.A (.compLoop (.ListComp elt [⟨tg,iter,ifs,0⟩] scope pos) 0 (.ref it) (.ref s2.heap.objs.size) (nt scope cl G2.objs.size X.env))
    (compPost (model X.prog X.w) X.A X.xe use Q2 (.ref s2.heap.objs.size) G2.objs.size) s3:=by
  rintro s3 rfl
  have I3:Inv (X.comp N' scope cl fp G2.objs.size s2 H2 (Bj X scope cl use Q2 s2.heap.objs.size G2.objs.size)) [] (Vm srcs σ) (upd H2 s2.heap.objs.size (.lst [])) { s2 with heap:=h₁,toks:=s2.toks+([]:List (Str×Value)).length }:=
   P2 S I2 f2 fo (ae _) hCle hDC ⟨_,hns₁⟩ old hacc
  have stat:∀ {H':Hp},(∀ b∈fp,H' b=none) -> ∀ b∈fp,Cs (X.comp N' scope cl fp G2.objs.size s2 H2 (Bj X scope cl use Q2 s2.heap.objs.size G2.objs.size)) [] H' b:=fun hn b hb=>
   ⟨hn b hb,aE (aO (fo b hb) hCle),(fun z=>(List.mem_cons.mp (I2.stkSub b z)).elim (f2 b hb).2.1 (f2 b hb).2.2.1),.inl hb,fun x c hl=>(f2 b hb).2.2.2.2.1 x c (S.sub x c hl),fun p hp=>absurd (show p∈([]:List (Addr×Obj)) from hp) (by simp)⟩
  refine Mx (fun n s'=>∃ i σ' H',Inv (X.comp N' scope cl fp G2.objs.size s2 H2 (Bj X scope cl use Q2 s2.heap.objs.size G2.objs.size)) [] σ' H' s'/\tn i s'.heap/\(∀ b∈fp,H' b=none)/\W i n σ' H') ?_ m0
   ⟨0,_,_,I3,st3,fun b hb=>by rw [Ah (aE (fo b hb))];exact (f2 b hb).1,w0⟩
  rintro n s4 ⟨i,σ4,H4,I4,st4,fr4,w4⟩
  rcases turn i n σ4 H4 w4 with ⟨stop,qn⟩|⟨go,NN,hNN,step⟩
  ·refine thn (T.done (X.comp N' scope cl fp G2.objs.size s2 H2 (Bj X scope cl use Q2 s2.heap.objs.size G2.objs.size)) rfl rfl rfl hc i [] s4 σ4 H4 _ I4 (stat fr4) st4 stop) fun r s5 ⟨hr,I5⟩=>?_
   subst hr
   obtain⟨m5,hn5,_⟩:=id I5.loc
   have I6:Inv X pins σ H4 s5:=I2.call' (ch:=fp) I5.os I5.base I5.hok I5.bare fun b hb=>⟨(f2 b hb).2.2.2.1,(f2 b hb).2.1,(f2 b hb).2.2.2.2.1,(f2 b hb).2.2.2.2.2⟩
   exact fin _ _ H4 s5 I6 ⟨m5,hn5⟩ (I2.fpOk hCle I5.free) qn
  ·refine thn (T.item (X.comp N' scope cl fp G2.objs.size s2 H2 (Bj X scope cl use Q2 s2.heap.objs.size G2.objs.size)) rfl rfl rfl hc i [] s4 σ4 H4 _ I4 (stat fr4) st4 go) fun r s5 ⟨u,hr,h5⟩=>?_
   subst hr
   refine thn h5 fun _ s6 ⟨x,H6,I6,r6,y6,st6,fr6⟩=>?_
   have I6':=I6.pinned (stat fr6) (T.obj _ _ st6)
   refine thn (hg _ s6 σ4 H6 x u _ I6' r6 (step x H6 y6)) fun _ s7 ⟨σ7,H7,I7,q7⟩=>?_
   have again:∀ {s9:ai} {H9:Hp},Inv (X.comp N' scope cl fp G2.objs.size s2 H2 (Bj X scope cl use Q2 s2.heap.objs.size G2.objs.size)) ([]++Hw fp s6.heap) σ7 H9 s9->NN σ7 H9 ->
     ∃ m,m<n /\ ∃ i σ' H',Inv (X.comp N' scope cl fp G2.objs.size s2 H2 (Bj X scope cl use Q2 s2.heap.objs.size G2.objs.size)) [] σ' H' s9/\tn i s9.heap/\(∀ b∈fp,H' b=none)/\W i m σ' H':=fun {s9 H9} I9 n9=>by
    obtain⟨m',hm,w9⟩:=hNN σ7 H9 n9
    refine⟨m',hm,i+1,σ7,H9,I9.unpinned,T.keep _ _ _ st6 fun b hb o e=>(I9.pin (b,o) (bn _ (bn _ (Ej hb e)))).1,fun b hb=>?_,w9⟩
    obtain⟨o,e,d⟩:=T.obj _ _ st6 b hb
    exact (I9.pin (b,o) (bn _ (bn _ (Ej hb e)))).2.1
   refine thn (ht _ s7 σ7 H7 _ I7 q7) fun b s8 ⟨H8,I8,q8⟩=>?_
   cases b with
   | false=>
    rw [if_neg ak] at q8
    exact again I8 q8
   | true=>
    rw [if_pos rfl] at q8
    refine thn (he _ s8 σ7 H8 _ I8 q8) fun y s9 ⟨v9,H9,I9,r9,ys,hD,hlen,w9⟩=>?_
    refine thn (Ma (X:=X.comp N' scope cl fp G2.objs.size s2 H2 (Bj X scope cl use Q2 s2.heap.objs.size G2.objs.size)) ([]++Hw fp s6.heap) s9 σ7 H9 (.ref s2.heap.objs.size) [v9] (.ref s2.heap.objs.size) [y] (fun _ H'=>H'=upd H9 s2.heap.objs.size (.lst (ys++[v9]))) I9 rfl (.cons r9 .nil)
     ⟨_,ys,v9,rfl,rfl,hD,hlen,rfl⟩) fun _ s10 ⟨_,H10,I10,_,e10⟩=>?_
    subst e10
    exact again I10 w9
 exact codeAny_compStart_list (loop _ rfl) (T.self X.A 0 _ _ _ st3 (loop _ rfl))
theorem Yu {pins:List (Addr×Obj)} {s:ai} {σ:St} {H:Hp} {Q:VK} (hc:X.calm=true) (S:Ja X N' srcs scope cl) (hi:PI X tg iter wi)
  (hb:∀ Q2 fp C D s2 H2,Inv X pins σ H2 s2->(∀ b∈fp,Cs X pins H2 b)->s2.heap.objs.size<=C->PG (X.comp N' scope cl fp C s2 H2 (Bj X scope cl none Q2 D C)) tg g/\Vf (X.comp N' scope cl fp C s2 H2 (Bj X scope cl none Q2 D C)) ifs tc/\PE (X.comp N' scope cl fp C s2 H2 (Bj X scope cl none Q2 D C)) elt te)
  (I:Inv X pins σ H s) (h:af8 srcs wi g tc te σ H Q) (hs:∀ x,fX iter X.env x=pure x) :
  aG (model X.prog X.w) X.A (eval (.ListComp elt [⟨tg,iter,ifs,0⟩] scope pos) X.env) (EP X pins σ Q) X.xe s:=by
 rw [eval_ListComp]
 refine Ls (use:=none) hc S hi (fun fp C D s2 H2=>hb _ fp C D s2 H2) I h (fun D C H' s' I' ns fo q=>?_) hs
 obtain⟨m,hn⟩:=ns
 obtain⟨f0,f1,f2,f3,f4,f5⟩:=fo
 exact⟨m,hn,fun h' sb=>⟨.ref D,H',I'.turned (t':=s'.toks) (fun b o hb e=>(sb.2 b hb).trans e) f0 f1 f3 f4 f5,rfl,q⟩⟩
theorem Yt {i:Nat} {x:Str} {pos' spos:Pos} {pins:List (Addr×Obj)} {s:ai} {σ:St} {H:Hp} {D:K2} (hc:X.calm=true) (hN:X.N.Nodup) (hx:X.N[i]? = some x) (hl:X.env.scope.names.lookup x=some .local) (S:Ja X N' srcs scope cl) (hi:PI X tg iter wi)
  (hb:∀ us Q2 fp C D s2 H2,Inv X pins σ H2 s2->(∀ b∈fp,Cs X pins H2 b)->s2.heap.objs.size<=C->PG (X.comp N' scope cl fp C s2 H2 (Bj X scope cl us Q2 D C)) tg g/\Vf (X.comp N' scope cl fp C s2 H2 (Bj X scope cl us Q2 D C)) ifs tc/\PE (X.comp N' scope cl fp C s2 H2 (Bj X scope cl us Q2 D C)) elt te)
  (I:Inv X pins σ H s) (h:bf8 (af8 srcs wi g tc te) (Zb i) D σ H)
  (hsw:jx (.ListComp elt [⟨tg,iter,ifs,0⟩] scope pos) (some (.Name x pos')) spos.line X.env=pure true) (hs:∀ x,fX iter X.env x=pure x) :
  aG (model X.prog X.w) X.A (exec (.Assign [.Name x pos'] (.ListComp elt [⟨tg,iter,ifs,0⟩] scope pos) spos) X.env) (SP X pins D) X.xe s:=by
 rw [exec_Assign_Name_used _ _ _ _ hsw]
 refine ac (dS (ac ?_))
 show aG _ X.A (do let _ <- comprehension (.ListComp elt [⟨tg,iter,ifs,0⟩] scope pos) scope X.env _ (newList []) false (eval iter X.env) (some (mx (.Name x pos') X.env))) _ _ s
 refine ac (thn (Ls (use:=some (mx (.Name x pos') X.env)) (Q:=fun v H'=>D.nx (σ.set i (some v)) H') (Q2:=fun _ s'=>SP X pins D .next s') hc S hi (fun fp C D s2 H2=>hb _ _ fp C D s2 H2) I h (fun L C H' s' I' ns fo q=>?_) hs) fun _ s' hq=>ah (ah hq))
 obtain⟨m,hn⟩:=ns
 obtain⟨f0,f1,f2,f3,f4,f5⟩:=fo
 obtain⟨oC,es,ep,hoC,hd,hr⟩:=id hn
 have I2:Inv X (pins++[(C,oC)]) σ H' s':=I'.pins_of fun p hp=>(List.mem_append.mp hp).elim (fun z=>I'.pin p (bn _ z)) fun z=>by
  have z':p=(C,oC):=by simpa using z
  subst z'
  exact⟨hoC,f0,f1,f2,fun v e=>by rw [hd] at e;cases e⟩
 refine wpAny_assign_Name (G6 (i:=i) (v:=.ref L) I2 hN hx (.inl hl) rfl (fun s2 I3=>?_) (.inr hl))
 have hoC':=(I3.pin (C,oC) (bn _ (bn _ (by simp)))).1
 refine⟨m,⟨oC,es,ep,hoC',hd,hr⟩,fun h' sb=>?_⟩
 exact⟨_,H',(I3.unpinned).turned (t':=s2.toks) (fun b o hb e=>(sb.2 b hb).trans e) f0 f1 f3 f4 f5,q⟩
end
noncomputable def Its (x:Str):It:=⟨fun i _=>i<x.cps.size,fun i H v H'=>H'=H /\ ∃ c,x.cps[i]? = some c/\v=.str ⟨#[c]⟩,fun i _=>i=x.cps.size⟩
theorem ag3 {P:aK} {w:bt} {K:aa} {tg:Expr} (it:Addr) (x:Str) (t:Tok) (ty:String) (hty:ty = "str_ascii_iterator" \/ ty = "str_iterator") :
  K3 P w K tg (Its x) [it] it (fun i h=>h.IsStrIter it ty x t i) where
 mem:=by simp
 obj:=fun i h st b hb=>by
  have e:b=it:=by simpa using hb
  subst e
  obtain⟨o,e,c,d⟩:=st
  exact⟨o,e,fun v z=>by rw [d] at z;cases z⟩
 keep:=fun i h h' st k=>by
  obtain⟨o,e,r⟩:=st
  exact⟨o,k it (by simp) o e,r⟩
 item:=by
  intro X hP hw hK hc i pins s σ H E I hf st hg
  subst hP hw hK
  obtain⟨f0,f1,f2,f3,f4,f5⟩:=hf it (by simp)
  have W:ng X.prog X.w X.A it [it] [it] x.cps.size (SignAt x) (fun i h=>h.IsStrIter it ty x t i):=by
   rcases hty with rfl|rfl
   ·exact Walks.strAscii (I.ok.hd hc) it x t
   ·exact Walks.strWide (I.ok.hd hc) it x t
  refine bE (ae _) (W.item i s _ _ hg st fun v h' tk hv st' kk htk=>?_)
  obtain⟨c,u,hcp,rfl⟩:=hv
  have I1:Inv X pins σ H { s with heap:=h',toks:=tk }:=I.turned (fun b o hb e=>kk b o (by simpa using hb) e) f0 f1 f3 f4 f5
  obtain⟨o,e,cc,d⟩:=id st'
  exact⟨_,rfl,Ju (s:={ s with heap:=h',toks:=tk }) e cc d (by rcases hty with rfl|rfl <;> decide) ⟨.str ⟨#[c]⟩,H,I1,⟨_,rfl⟩,⟨rfl,c,hcp,rfl⟩,st',fun b hb=>(hf b hb).1⟩⟩
 done:=by
  intro X hP hw hK hc i pins s σ H E I hf st hg
  subst hP hw hK
  obtain⟨f0,f1,f2,f3,f4,f5⟩:=hf it (by simp)
  have hg:i=x.cps.size:=hg
  subst hg
  have W:ng X.prog X.w X.A it [it] [it] x.cps.size (SignAt x) (fun i h=>h.IsStrIter it ty x t i):=by
   rcases hty with rfl|rfl
   ·exact Walks.strAscii (I.ok.hd hc) it x t
   ·exact Walks.strWide (I.ok.hd hc) it x t
  exact bE (ae _) (W.done s _ _ st fun h' tk kk htk=>⟨rfl,I.turned (fun b o hb e=>kk b o (by simpa using hb) e) f0 f1 f3 f4 f5⟩)
 self:=by
  intro A i s Q E st h
  rcases hty with rfl|rfl
  ·exact wpAny_pyIter_striter_ascii st h
  ·exact wpAny_pyIter_striter_wide st h
section
variable {X:Cx} {tg:Expr}
end
section
variable {X:Cx} {pins:List (Addr×Obj)} {σ:St} {H:Hp} {s:ai} {h':Heap} {ch:List Addr} {t':Nat}
theorem Inv.turnedL (I:Inv X pins σ H s) (hf:∀ b∈ch,Cs X pins H b) (k:∀ b o,b∉ch->s.heap.get? b=some o->h'.get? b=some o) (ht:s.toks<=t':=by first|exact ae _|exact bi _ _|assumption|omega|(dsimp only;omega)):Inv X pins σ H { s with heap:=h',toks:=t' }:=by
 have tr:∀ b ob,H b=some ob->b∉ch:=fun b ob e hb=>by rw [(hf b hb).1] at e;cases e
 refine I.step (g':=s.gens) (d':=s.drawn) (ch:=ch) (fun b hb=>⟨(hf b hb).2.2.2.1,(hf b hb).2.1,(hf b hb).2.2.2.2.1,(hf b hb).2.2.2.2.2⟩) (fun b o _ _ hb e _=>k b o hb e) (fun b o _ _ hb e _=>⟨o.slots,k b o hb e⟩) (fun _ _ _ _ n=>n) (fun b o hb e=>⟨o,k b o hb e⟩)
  (fun _ _ e=>e) (fun _ _ _ e=>e) (fun b ps e=>⟨#[],by rw [e];simp⟩) (fun m hm=>?_) (fun b ob e=>?_) I.bare
 ·obtain⟨o,es,ep,ho,r⟩:=hm
  exact⟨o,es,ep,k _ o (fun z=>(hf _ z).2.1 rfl) ho,r⟩
 ·refine (I.hok b ob e).stay (fun b' w' hc' q=>k b' w' ?_ q) (fun _ q=>q) fun _ _ q=>q
  rcases hc' with rfl|hc'
  ·exact tr _ _ e
  ·exact tr _ _ hc'
theorem Inv.turnedN {T:Addr} {o:HO} (I:Inv X pins σ H s) (hf:∀ b∈ch,Cs X pins H b) (k:∀ b o,b∉ch->s.heap.get? b=some o->h'.get? b=some o) (hT:s.heap.objs.size<=T) (new:ObjOk X.prog X.w (upd H T o) h' T o) (ht:s.toks<=t':=by first|exact ae _|exact bi _ _|assumption|omega|(dsimp only;omega)) :
  Inv X pins σ (upd H T o) { s with heap:=h',toks:=t' }:=by
 have tr:∀ b ob,H b=some ob->b∉ch:=fun b ob e hb=>by rw [(hf b hb).1] at e;cases e
 have hn:=I.hok.fresh hT
 have nT:∀ {b o},s.heap.get? b=some o->b≠T:=fun e=>aE (aO (au e) hT)
 refine I.step (g':=s.gens) (d':=s.drawn) (ch:=ch) (fun b hb=>⟨(hf b hb).2.2.2.1,(hf b hb).2.1,(hf b hb).2.2.2.2.1,(hf b hb).2.2.2.2.2⟩) (fun b o _ _ hb e _=>k b o hb e) (fun b o _ _ hb e _=>⟨o.slots,k b o hb e⟩) (fun b o _ e n=>by rw [Ah (nT e)];exact n) (fun b o hb e=>⟨o,k b o hb e⟩)
  (fun b zs e=>by rw [Ah (A3 e hn)];exact e) (fun b o zs e=>by rw [Ah (A3 e hn)];exact e) (fun b ps e=>⟨#[],by rw [Ah (A3 e hn),e];simp⟩) (fun m hm=>?_) (fun b ob e=>?_) I.bare
 ·obtain⟨o,es,ep,ho,r⟩:=hm
  exact⟨o,es,ep,k _ o (fun z=>(hf _ z).2.1 rfl) ho,r⟩
 ·by_cases hb:b=T
  ·subst hb
   rw [Ad] at e
   cases e
   exact new
  ·rw [Ah hb] at e
   refine (I.hok b ob e).stay (fun b' w' hc' q=>k b' w' ?_ q) (fun b' q=>by rw [Ah (A3 q hn)];exact q) fun b' zs q=>by rw [Ah (A3 q hn)];exact q
   rcases hc' with rfl|hc'
   ·exact tr _ _ e
   ·exact tr _ _ hc'
end
section
variable {X:Cx}
theorem Yn:Cc X (.builtin "isinstance") (fun xs H Q=>∃ x T t b,xs=[x,.ty T]/\TyOf X.K H x t/\fz X.K t (.type T)=some b/\Q (.bl b) H):=by
 intro pins s σ H xs us Q I r h
 obtain⟨x,T,t,b,rfl,ty,e,q⟩:=h
 obtain⟨u,v,rfl,ru,rv⟩:=r.two
 cases rv
 exact bE (ae _) (L6 I ru ty e fun tk htk=>⟨.bl b,H,I.tok tk htk,rfl,q⟩)
theorem Wq:OpR X (cg .LtE) (fun x y H Q=>∃ i j,x=.str i/\y=.str j/\Q (.bl (!decide (j.cps.toList<i.cps.toList))) H):=by
 intro pins s σ H x y v u Q I rx ry h
 obtain⟨i,j,rfl,rfl,q⟩:=h
 obtain⟨t,rfl⟩:=rx
 obtain⟨t',rfl⟩:=ry
 exact PySem.P.le_str ⟨.bl _,H,I,rfl,q⟩
end
noncomputable def Oh (xs ys:List V):Bool:=decide (xs.length=ys.length)&&(cL xs.length).all fun j=>eqV (xs.getD j .non) (ys.getD j .non)
theorem Oi {xs ys:List V} (h:xs.length≠ys.length):Oh xs ys=false:=by
 unfold Oh
 rw [decide_eq_false h]
 rfl
noncomputable def bc0 (K:aa) (neg:Bool):R2:=fun x y H Q=>∃ a b xs ys,x=.ref a/\y=.ref b/\SqL K H a xs/\SqL K H b ys/\xs.all Cd=true/\ys.all Cd=true/\Q (.bl (if neg then !Oh xs ys else Oh xs ys)) H
section
variable {X:Cx}
theorem Jx {A:bg} {s:ai} {xs ys:List V} {us ws:List Value} (rx:Vals xs us) (ry:Vals ys ws) (fx:xs.all Cd=true) (fy:ys.all Cd=true) (j:Nat) (h1:j<us.toArray.size) (h2:j<ws.toArray.size) :
  bz A s us.toArray[j] ws.toArray[j] (eqV (xs.getD j .non) (ys.getD j .non)):=by
 have e1:=rx.length
 have e2:=ry.length
 have h1':j<us.length:=by simpa using h1
 have h2':j<ws.length:=by simpa using h2
 have a1:xs[j]? = some (xs[j]'(by omega)):=by simp
 have a2:ys[j]? = some (ys[j]'(by omega)):=by simp
 obtain⟨u,hu,ru⟩:=rx.get a1
 obtain⟨v,hv,rv⟩:=ry.get a2
 have b1:us.toArray[j]=u:=by
  have:us[j]? = some us[j]:=by simp
  rw [this] at hu
  simpa using aU hu
 have b2:ws.toArray[j]=v:=by
  have:ws[j]? = some ws[j]:=by simp
  rw [this] at hv
  simpa using aU hv
 have c1:xs.getD j .non=xs[j]'(by omega):=by rw [av,a1];rfl
 have c2:ys.getD j .non=ys[j]'(by omega):=by rw [av,a2];rfl
 rw [b1,b2,c1,c2]
 exact P8 ru rv (List.all_eq_true.mp fx _ (cR _)) (List.all_eq_true.mp fy _ (cR _))
theorem a61 (hu:X.A.units<cLine):OpR X (cg .Eq) (bc0 X.K false):=by
 intro pins s σ H x y v u Q I rx ry h
 obtain⟨a,b,xs,ys,rfl,rfl,qa,qb,fx,fy,q⟩:=h
 cases rx
 cases ry
 obtain⟨its,r,pl,hz⟩:=I.list qa
 obtain⟨its2,r2,pl2,hz2⟩:=I.list qb
 have e1:=r.length
 have e2:=r2.length
 by_cases hl:xs.length=ys.length
 ·refine SeqAt.eq_listAt (e:=fun j=>eqV (xs.getD j .non) (ys.getD j .non)) pl.isList pl2.isList (by simp;omega) hu (fun j h1 h2=>Jx r r2 fx fy j h1 h2) ⟨.bl _,H,I,rfl,?_⟩
  have e:Oh xs ys=(cL its.toArray.size).all fun j=>eqV (xs.getD j .non) (ys.getD j .non):=by
   unfold Oh
   rw [decide_eq_true hl,am,<- e1]
   rfl
  rw [<- e]
  exact q
 ·refine SeqAt.eq_list_lengthsAt pl.isList pl2.isList (by simp;omega) hu ⟨.bl _,H,I,rfl,?_⟩
  rw [Oi hl] at q
  exact q
theorem a66 (hu:X.A.units<cLine):OpR X (cg .NotEq) (bc0 X.K true):=by
 intro pins s σ H x y v u Q I rx ry h
 obtain⟨a,b,xs,ys,rfl,rfl,qa,qb,fx,fy,q⟩:=h
 cases rx
 cases ry
 obtain⟨its,r,pl,hz⟩:=I.list qa
 obtain⟨its2,r2,pl2,hz2⟩:=I.list qb
 have e1:=r.length
 have e2:=r2.length
 by_cases hl:xs.length=ys.length
 ·refine SeqAt.RcNeAt.lists (e:=fun j=>eqV (xs.getD j .non) (ys.getD j .non)) pl.isList pl2.isList (by simp;omega) hu (fun j h1 h2=>Jx r r2 fx fy j h1 h2) _ _ _ _ ⟨.bl _,H,I,rfl,?_⟩
  have e:Oh xs ys=(cL its.toArray.size).all fun j=>eqV (xs.getD j .non) (ys.getD j .non):=by
   unfold Oh
   rw [decide_eq_true hl,am,<- e1]
   rfl
  rw [<- e]
  exact q
 ·refine SeqAt.RcNeAt.lists_lengths pl.isList pl2.isList (by simp;omega) hu _ _ _ _ ⟨.bl _,H,I,rfl,?_⟩
  rw [Oi hl] at q
  exact q
end
theorem Zx {cl:List (Str×Addr)} {x:Str} (h:x∈cl.map (·.1)):∃ c,cl.lookup x=some c:=by
 induction cl with
 | nil=>simp at h
 | cons p r ih=>
  obtain⟨n,a⟩:=p
  rw [List.lookup_cons]
  cases e:x==n with
  | true=>exact⟨a,rfl⟩
  | false=>
   refine ih ?_
   rcases List.mem_cons.mp h with q|q
   ·rw [show x=n from q] at e;simp at e
   ·exact q
section
variable {X:Cx} {e:Expr} {te:TE} {lo hi:Option Expr} {tl th:TO} {pos p2:Pos}
theorem Sl {ys:List Str}:∀ {us:List Value},Vals (ys.map V.str) us->StrsAre us ys:=by
 induction ys with
 | nil=>intro us r;rw [hW] at r;cases r;exact .nil
 | cons y ys ih=>
  intro us r
  rw [aP] at r
  cases r with
  | cons r1 r2=>
   obtain⟨t,e⟩:=r1
   subst e
   exact .cons y t (ih r2)
theorem ak6:MtR X "str.join" (fun x xs H Q=>∃ z p ys,x=.str z/\xs=[.ref p]/\SqL X.K H p (ys.map V.str)/\(ys.map (·.length)).sum+ys.length * z.length<=16777216/\Q (.str (Txt.join z ys)) H):=by
 intro pins s σ H x xs v us Q I rx rs h
 obtain⟨z,p,ys,rfl,rfl,hq,hz,q⟩:=h
 obtain⟨t,rfl⟩:=rx
 obtain⟨u,rfl,ru⟩:=rs.one
 cases ru
 obtain⟨its,rv,pl,_⟩:=I.list hq
 exact bE (ae _) (PyProof.Rows.join_list pl.isList (by simpa using Sl rv) hz fun t' k htk=>⟨.str _,H,I.tok k htk,⟨_,rfl⟩,q⟩)
end
end L2
set_option maxHeartbeats 4000000
namespace L2
open PySem PySem.Spec PyProof.Rows
section
variable {κ:Type} [DecidableEq κ]
noncomputable def Bb (kvs:List (κ×V)) (k:κ):Option V:=(kvs.find? fun kv=>decide (kv.1=k)).map (·.2)
noncomputable def Dp (kvs:List (κ×V)) (k:κ) (v:V):List (κ×V):=
 if (kvs.any fun kv=>decide (kv.1=k))=true then kvs.map (fun kv=>if kv.1=k then (kv.1,v) else kv) else kvs++[(k,v)]
noncomputable def Jn (kvs:List (κ×V)) (k:κ):List (κ×V):=kvs.filter fun kv=>decide (kv.1≠k)
theorem Pj {k:κ}:Bb ([]:List (κ×V)) k=none:=rfl
theorem Bn {p:κ×V} {r:List (κ×V)} {k:κ} (e:p.1=k):Bb (p::r) k=some p.2:=by simp [Bb,c5,e]
theorem Bi {p:κ×V} {r:List (κ×V)} {k:κ} (e:¬ p.1=k):Bb (p::r) k=Bb r k:=by simp [Bb,c5,e]
theorem E9 (k:κ):∀ kvs:List (κ×V),(kvs.any fun kv=>decide (kv.1=k))=(Bb kvs k).isSome
 | []=>rfl
 | p::r=>by
  rw [gJ]
  by_cases e:p.1=k
  ·simp only [Bn e,decide_eq_true e,Bool.true_or,Option.isSome_some]
  ·rw [Bi e,decide_eq_false e,Bool.false_or];exact E9 k r
theorem Pi (k j:κ) (y:V):∀ kvs:List (κ×V),Bb (kvs.map fun kv=>if kv.1=k then (kv.1,y) else kv) j=(Bb kvs j).map fun x=>if j=k then y else x
 | []=>rfl
 | p::r=>by
  have ih:=Pi k j y r
  rw [aP]
  by_cases h:p.1=k
  ·rw [if_pos h]
   by_cases e:p.1=j
   ·rw [Bn (p:=(p.1,y)) e,Bn e,gK,if_pos (e.symm.trans h)]
   ·rw [Bi (p:=(p.1,y)) e,Bi e,ih]
  ·rw [if_neg h]
   by_cases e:p.1=j
   ·rw [Bn (p:=p) e,Bn e,gK,if_neg (fun z=>h (e.trans z))]
   ·rw [Bi (p:=p) e,Bi e,ih]
theorem Mm (k j:κ) (y:V):∀ kvs:List (κ×V),Bb kvs k=none->Bb (kvs++[(k,y)]) j=if j=k then some y else Bb kvs j
 | [],_=>by
  by_cases e:k=j
  ·rw [if_pos e.symm];exact Bn (p:=(k,y)) e
  ·rw [if_neg (fun z=>e z.symm)];exact Bi (p:=(k,y)) e
 | p::r,hn=>by
  rw [dM]
  have hk:¬ p.1=k:=fun z=>by rw [Bn z] at hn;cases hn
  rw [Bi hk] at hn
  have ih:=Mm k j y r hn
  by_cases e:p.1=j
  ·rw [Bn e,Bn e,if_neg (fun z=>hk (e.trans z))]
  ·rw [Bi e,Bi e,ih]
theorem K1 (kvs:List (κ×V)) (k j:κ) (y:V):Bb (Dp kvs k y) j=if j=k then some y else Bb kvs j:=by
 unfold Dp
 by_cases a:(kvs.any fun kv=>decide (kv.1=k))=true
 ·rw [if_pos a,Pi]
  rw [E9] at a
  by_cases e:j=k
  ·obtain⟨x,hx⟩:=Option.isSome_iff_exists.mp a
   rw [if_pos e,e,hx,gK,if_pos rfl]
  ·rw [if_neg e]
   cases Bb kvs j with
   | none=>rfl
   | some x=>rw [gK,if_neg e]
 ·rw [if_neg a]
  refine Mm k j y kvs ?_
  rw [E9] at a
  cases q:Bb kvs k with
  | none=>rfl
  | some x=>rw [q] at a;exact (a rfl).elim
theorem C5 (kvs:List (κ×V)) (k:κ) (v:V):(Dp kvs k v).length<=kvs.length+1:=by
 unfold Dp
 split
 ·rw [ag];omega
 ·rw [aI,aR,List.length_nil];omega
theorem RelO.isSome_eq {o:Option V} {u:Option Value} (r:RelO o u):o.isSome=u.isSome:=by
 cases o with
 | none=>cases u with
  | none=>rfl
  | some _=>exact (show False from r).elim
 | some _=>cases u with
  | none=>exact (show False from r).elim
  | some _=>rfl
theorem RelO.getD {o:Option V} {u:Option Value} {d:V} {d':Value} (r:RelO o u) (rd:RelV d d'):RelV (o.getD d) (u.getD d'):=by
 cases o with
 | none=>cases u with
  | none=>exact rd
  | some _=>exact (show False from r).elim
 | some _=>cases u with
  | none=>exact (show False from r).elim
  | some _=>exact r
theorem KV.val {kvs:List (κ×V)} {vs:List (κ×Value)} (r:KV kvs vs) (k:κ):RelO (Bb kvs k) (il vs k):=by
 unfold KV at r
 induction r with
 | nil=>exact bH
 | @cons p q ps qs h t ih=>
  obtain⟨h1,h2⟩:=h
  by_cases e:p.1=k
  ·have e':q.1=k:=h1.symm.trans e
   have b:il (q::qs) k=some q.2:=by simp [il,c5,e']
   rw [Bn e,b];exact h2
  ·have e':¬ q.1=k:=fun z=>e (h1.trans z)
   have b:il (q::qs) k=il qs k:=by simp [il,c5,e']
   rw [Bi e,b];exact ih
theorem KV.any {kvs:List (κ×V)} {vs:List (κ×Value)} (r:KV kvs vs) (k:κ):(kvs.any fun kv=>decide (kv.1=k))=vs.any fun kv=>decide (kv.1=k):=by
 unfold KV at r
 induction r with
 | nil=>rfl
 | cons h t ih=>rw [gJ,gJ,ih,h.1]
theorem KV.repl {kvs:List (κ×V)} {vs:List (κ×Value)} (r:KV kvs vs) (k:κ) {y:V} {u:Value} (ry:RelV y u) :
  KV (kvs.map fun kv=>if kv.1=k then (kv.1,y) else kv) (vs.map fun kv=>if kv.1=k then (kv.1,u) else kv):=by
 unfold KV at r ⊢
 induction r with
 | nil=>exact .nil
 | @cons p q ps qs h t ih=>
  rw [aP,aP]
  refine .cons ?_ ih
  obtain⟨h1,h2⟩:=h
  by_cases e:p.1=k
  ·rw [if_pos e,if_pos (h1.symm.trans e)];exact⟨h1,ry⟩
  ·rw [if_neg e,if_neg (fun z=>e (h1.trans z))];exact⟨h1,h2⟩
theorem KV.put {kvs:List (κ×V)} {vs:List (κ×Value)} (r:KV kvs vs) (k:κ) {y:V} {u:Value} (ry:RelV y u):KV (Dp kvs k y) (stored vs k u):=by
 unfold Dp stored
 rw [r.any k]
 by_cases e:(vs.any fun kv=>decide (kv.1=k))=true
 ·rw [if_pos e,if_pos e];exact r.repl k ry
 ·rw [if_neg e,if_neg e];exact Paired.snoc r ⟨rfl,ry⟩
theorem KV.drop {kvs:List (κ×V)} {vs:List (κ×Value)} (r:KV kvs vs) (k:κ):KV (Jn kvs k) (without vs k):=by
 unfold KV at r ⊢
 unfold Jn without
 induction r with
 | nil=>exact .nil
 | @cons p q ps qs h t ih=>
  obtain⟨h1,h2⟩:=h
  rw [List.filter_cons,List.filter_cons]
  by_cases e:p.1=k
  ·have a:¬ decide (p.1≠k)=true:=by simp [e]
   have b:¬ decide (q.1≠k)=true:=by simp [h1.symm.trans e]
   rw [if_neg a,if_neg b];exact ih
  ·have e':¬ q.1=k:=fun z=>e (h1.trans z)
   have a:decide (p.1≠k)=true:=by simp [e]
   have b:decide (q.1≠k)=true:=by simp [e']
   rw [if_pos a,if_pos b];exact .cons ⟨h1,h2⟩ ih
theorem KV.keys {kvs:List (κ×V)} {vs:List (κ×Value)} (r:KV kvs vs):kvs.map (·.1)=vs.map (·.1):=by
 unfold KV at r
 induction r with
 | nil=>rfl
 | cons h t ih=>rw [aP,aP,ih,h.1]
theorem KV.length {kvs:List (κ×V)} {vs:List (κ×Value)} (r:KV kvs vs):kvs.length=vs.length:=iC r
theorem Yz (kvs:List (κ×V)) (k:κ):(Jn kvs k).length<=kvs.length:=cm _ _
end
theorem En {P:aK} {w:bt} {k:Key} {u:Value} (r:RelV (kV k) u):(Ap P w).is k u=true:=by
 cases k with
 | inl i=>obtain⟨t,e⟩:=(show ∃ t,u=kD i t from r);subst e;exact Os P w i t
 | inr x=>obtain⟨t,e⟩:=(show ∃ t,u=ib x t from r);subst e;exact Ot P w x t
theorem L7 {P:aK} {w:bt}:∀ {ks:List Key} {us:List Value},Vals (ks.map kV) us->ItemsAre (Ap P w) ks us
 | [],_,r=>by rw [hW] at r;cases r;exact .nil
 | k::ks,_,r=>by
  rw [aP] at r
  cases r with
  | cons h t=>exact .cons (En h) (L7 t)
noncomputable abbrev KT (H:Hp):List (List Key×V)->List (List Key×Addr×Value)->Prop:=iw fun p q=>p.1=q.1/\H q.2.1=some (.tup (p.1.map kV))/\RelV p.2 q.2.2
theorem KT.val {H:Hp} {kvs:List (List Key×V)} {xs:List (List Key×Addr×Value)} (r:KT H kvs xs) (k:List Key):RelO (Bb kvs k) ((mH xs k).map (·.2)):=by
 induction r with
 | nil=>exact bH
 | @cons p q ps qs h t ih=>
  obtain⟨h1,_,h2⟩:=h
  by_cases e:p.1=k
  ·have e':q.1=k:=h1.symm.trans e
   have b:mH (q::qs) k=some q.2:=by simp [mH,c5,e']
   rw [Bn e,b];exact h2
  ·have e':¬ q.1=k:=fun z=>e (h1.trans z)
   have b:mH (q::qs) k=mH qs k:=by simp [mH,c5,e']
   rw [Bi e,b];exact ih
theorem KT.repl {H:Hp} {kvs:List (List Key×V)} {xs:List (List Key×Addr×Value)} (r:KT H kvs xs) (k:List Key) {y:V} {u:Value} (ry:RelV y u) :
  KT H (kvs.map fun kv=>if kv.1=k then (kv.1,y) else kv) (xs.map (putAt k u)):=by
 induction r with
 | nil=>exact .nil
 | @cons p q ps qs h t ih=>
  rw [aP,aP]
  refine .cons ?_ ih
  obtain⟨h1,h2,h3⟩:=h
  unfold putAt
  by_cases e:p.1=k
  ·rw [if_pos e,if_pos (h1.symm.trans e)];exact⟨h1,h2,ry⟩
  ·rw [if_neg e,if_neg (fun z=>e (h1.trans z))];exact⟨h1,h2,h3⟩
theorem KT.put {H:Hp} {kvs:List (List Key×V)} {xs:List (List Key×Addr×Value)} (r:KT H kvs xs) (k:List Key) {b:Addr} {y:V} {u:Value} (hb:H b=some (.tup (k.map kV))) (ry:RelV y u) :
  KT H (Dp kvs k y) (storedH xs k b u):=by
 have e:(kvs.any fun kv=>decide (kv.1=k))=(mH xs k).isSome:=by
  rw [E9,(r.val k).isSome_eq,jq]
 unfold Dp storedH
 rw [e]
 by_cases q:(mH xs k).isSome=true
 ·rw [if_pos q,if_pos q];exact r.repl k ry
 ·rw [if_neg q,if_neg q];exact Paired.snoc r ⟨rfl,hb,ry⟩
theorem KT.keeps {H H':Hp} {kvs:List (List Key×V)} {xs:List (List Key×Addr×Value)} (r:KT H kvs xs) (ht:∀ b ys,H b=some (.tup ys)->H' b=some (.tup ys)):KT H' kvs xs:=
 Paired.mapP r fun _ _ z=>⟨z.1,ht _ _ z.2.1,z.2.2⟩
section
variable {P:aK} {w:bt} {H:Hp} {h:Heap} {a:Addr}
theorem av1 {u:HO} (ok:HOk P w H h) (e:Rd H a u):ObjOk P w H h a u:=e.ok ok
theorem Cr {kvs:List (Key×V)} (ok:HOk P w H h) (e:Rd H a (.dK kvs)):kvs.length<=sizeLine/\(a==c4)=false /\ ∃ vs,KV kvs vs/\h.DictOf (Ap P w) a vs:=
 show ObjOk P w H h a (.dK kvs) from av1 ok e
theorem Tw {kvs:List (Key×V)} (ok:HOk P w H h) (e:H a=some (.dK kvs)):kvs.length<=sizeLine/\(a==c4)=false /\ ∃ vs,KV kvs vs/\h.DictOf (Ap P w) a vs:=Cr ok (.inl e)
theorem E2 {ks:List Key} (ok:HOk P w H h) (e:H a=some (.tup (ks.map kV))):(iR (Ap P w)).is h ks a:=by
 obtain⟨_,its,r,o,h1,h2,n,h3⟩:=(show ObjOk P w H h a (.tup (ks.map kV)) from ok a _ e)
 exact⟨o,its.toArray,n,h1,h2,h3,by simpa using L7 r⟩
theorem Jo {kvs:List (List Key×V)} (ok:HOk P w H h) (e:Rd H a (.dT kvs)):kvs.length<=sizeLine/\(a==c4)=false /\
  ∃ xs,KT H kvs xs/\h.DictOfH (iR (Ap P w)) a xs:=by
 obtain⟨z,y,xs,r,o,es,ep,h1,h2,h3,h4,h5⟩:=(show ObjOk P w H h a (.dT kvs) from av1 ok e)
 refine⟨z,y,xs,r,o,es,ep,h1,h2,h3,h4,fun x hx=>?_,h5⟩
 have all:∀ {l:List (List Key×V)} {m:List (List Key×Addr×Value)},KT H l m -> ∀ x∈m,(iR (Ap P w)).is h x.1 x.2.1:=by
  intro l m q
  induction q with
  | nil=>intro x hx;exact nomatch hx
  | @cons p q ps qs hq t ih=>
   intro x hx
   rcases List.mem_cons.mp hx with e|hx
   ·subst e
    exact E2 ok (by rw [<- hq.1];exact hq.2.1)
   ·exact ih x hx
 exact all r x hx
theorem ar6 {kvs:List (List Key×V)} (ok:HOk P w H h) (e:H a=some (.dT kvs)):kvs.length<=sizeLine/\(a==c4)=false /\
  ∃ xs,KT H kvs xs/\h.DictOfH (iR (Ap P w)) a xs:=Jo ok (.inl e)
end
noncomputable def Er (H:Hp) (a:Addr) (y:V) (r:Option V):Prop:=
 (∃ kvs k,Rd H a (.dK kvs)/\y=kV k/\r=Bb kvs k) \/ ∃ kvs k b,Rd H a (.dT kvs)/\y=.ref b/\H b=some (.tup (k.map kV))/\r=Bb kvs k
noncomputable def DPut (H:Hp) (a:Addr) (y v:V) (H':Hp):Prop:=
 (∃ kvs k,H a=some (.dK kvs)/\y=kV k/\kvs.length<sizeLine/\H'=upd H a (.dK (Dp kvs k v))) \/
 ∃ kvs k b,H a=some (.dT kvs)/\y=.ref b/\H b=some (.tup (k.map kV))/\kvs.length<sizeLine/\H'=upd H a (.dT (Dp kvs k v))
theorem DPut.k {H:Hp} {a:Addr} {kvs:List (Key×V)} {k:Key} {v:V} (e:H a=some (.dK kvs)) (hl:kvs.length<sizeLine):DPut H a (kV k) v (upd H a (.dK (Dp kvs k v))):=.inl ⟨kvs,k,e,rfl,hl,rfl⟩
section
variable {X:Cx} {pins:List (Addr×Obj)} {σ:St} {H:Hp} {s:ai} {a:Addr} {y v:V} {u r:Value} {o:Option V} {A:bg} {E:Value->ai->Prop}
theorem Inv.big (I:Inv X pins σ H s):c4<s.heap.objs.size:=by
 have h:br<s.heap.objs.size:=(I.mod.glob.keeps I.bk).lt
 exact i5 (by decide) h
theorem Vr {Q:Value->ai->Prop} (hu:A.units+1<cLine) (I:Inv X pins σ H s) (g:Er H a y (some v)) (ry:RelV y u) (h:∀ w' s',Inv X pins σ H s'->RelV v w'->Q w' s') :
  aG (model X.prog X.w) A (lF (.ref a) u) Q E s:=by
 rcases g with ⟨kvs,k,e,ey,l⟩|⟨kvs,k,b,e,ey,eb,l⟩
 ·subst ey
  obtain⟨z,hd,vs,rel,dd⟩:=Cr I.hok e
  obtain⟨w',hw,rw'⟩:=RelO.some_of (v:=v) (o:=il vs k) (by rw [l];exact rel.val k)
  exact wpAny_getItem_of (En ry) dd.mapOf hw (h w' _ (I.tok _) rw')
 ·subst ey
  cases (show u=aM b from ry)
  obtain⟨z,hd,xs,rel,dd⟩:=Jo I.hok e
  obtain⟨w',hw,rw'⟩:=RelO.some_of (v:=v) (o:=(mH xs k).map (·.2)) (by rw [l];exact rel.val k)
  obtain⟨p,hp,hp2⟩:=Option.map_eq_some_iff.mp hw
  refine wpAny_getItem_heap (dm hu) (E2 I.hok eb) dd hp ?_
  rw [hp2]
  exact h w' _ (I.tok _) rw'
theorem b15 {Q:Value->ai->Prop} (hu:A.units+1<cLine) (I:Inv X pins σ H s) (g:Er H a y o) (ry:RelV y u) (h:∀ s',Inv X pins σ H s'->Q (.bool o.isSome) s') :
  aG (model X.prog X.w) A (cg .In u (.ref a)) Q E s:=by
 rcases g with ⟨kvs,k,e,ey,l⟩|⟨kvs,k,b,e,ey,eb,l⟩
 ·subst ey
  obtain⟨z,hd,vs,rel,dd⟩:=Cr I.hok e
  refine mZ (En ry) hd dd.mapOf ?_
  rw [<- (rel.val k).isSome_eq,<- l]
  exact h _ (I.tok _)
 ·subst ey
  cases (show u=aM b from ry)
  obtain⟨z,hd,xs,rel,dd⟩:=Jo I.hok e
  refine wpAny_in_heap (dm hu) (E2 I.hok eb) hd dd ?_
  have q:=(rel.val k).isSome_eq
  rw [jq] at q
  rw [<- q,<- l]
  exact h _ (I.tok _)
theorem ai2 {Q:Value->ai->Prop} (hu:A.units+1<cLine) (I:Inv X pins σ H s) (g:Er H a y o) (ry:RelV y u) (h:∀ s',Inv X pins σ H s'->Q (.bool (!o.isSome)) s') :
  aG (model X.prog X.w) A (cg .NotIn u (.ref a)) Q E s:=by
 rcases g with ⟨kvs,k,e,ey,l⟩|⟨kvs,k,b,e,ey,eb,l⟩
 ·subst ey
  obtain⟨z,hd,vs,rel,dd⟩:=Cr I.hok e
  refine k4 (En ry) hd dd.mapOf ?_
  rw [<- (rel.val k).isSome_eq,<- l]
  exact h _ (I.tok _)
 ·subst ey
  cases (show u=aM b from ry)
  obtain⟨z,hd,xs,rel,dd⟩:=Jo I.hok e
  refine wpAny_notIn_heap (dm hu) (E2 I.hok eb) hd dd ?_
  have q:=(rel.val k).isSome_eq
  rw [jq] at q
  rw [<- q,<- l]
  exact h _ (I.tok _)
theorem Fe {h':Heap} {t':Nat} {ob:HO} (I:Inv X pins σ H s) (mu:Mut (H a)) (hs:a9 a s.heap h') (he:∃ q,h'.get? a=some q) (new:ObjOk X.prog X.w (upd H a ob) h' a ob) (ht:s.toks<=t':=by first|exact ae _|exact bi _ _|assumption|omega|(dsimp only;omega)) :
  Inv X pins σ (upd H a ob) { s with heap:=h',toks:=t' }:=
 I.write (x:=a) (e:=a) mu (.inl rfl) (fun b q hb z=>(hs.2 b hb).trans z) he new
theorem Jm {P:aK} {w:bt} {H':Hp} {h':Heap} {kvs:List (Key×V)} {vs:List (Key×Value)} (z:kvs.length<=sizeLine) (hd:(a==c4)=false) (rel:KV kvs vs) (dd:h'.DictOf (Ap P w) a vs) :
  ObjOk P w H' h' a (.dK kvs):=⟨z,hd,vs,rel,dd⟩
theorem Vs {H':Hp} {Q:Unit->ai->Prop} (hu:A.units+1<cLine) (I:Inv X pins σ H s) (g:DPut H a y v H') (ry:RelV y u) (rv:RelV v r) (h:∀ s',Inv X pins σ H' s'->Q () s') :
  aG (model X.prog X.w) A (setItem (.ref a) u r) Q E s:=by
 rcases g with ⟨kvs,k,e,ey,l,eH⟩|⟨kvs,k,b,e,ey,eb,l,eH⟩
 ·subst ey eH
  obtain⟨z,hd,vs,rel,dd⟩:=Tw I.hok e
  have hz:vs.length<=sizeLine:=by rw [<- rel.length];exact z
  have hl:(Dp kvs k v).length<=sizeLine:=by have:=C5 kvs k v;omega
  refine wpAny_setItem_pairs (hsz:=hz) (En ry) dd fun h' dd' hs=>h _ ?_
  have he:∃ q,h'.get? a=some q:=let ⟨q,_,_,hq,_⟩:=dd';⟨q,hq⟩
  exact Fe I (by rw [e];exact bH) hs he (Jm hl hd (rel.put k rv) dd')
 ·subst ey eH
  cases (show u=aM b from ry)
  obtain⟨z,hd,xs,rel,dd⟩:=ar6 I.hok e
  have hz:xs.length<=sizeLine:=by rw [<- iC rel];exact z
  have hl:(Dp kvs k v).length<=sizeLine:=by have:=C5 kvs k v;omega
  refine wpAny_setItem_heap (hsz:=hz) (dm hu) (E2 I.hok eb) dd fun h' dd' hs=>h _ ?_
  obtain⟨q,es,ep,hq,h2,h3,h4,_,h5⟩:=dd'
  refine Fe I (by rw [e];exact bH) hs ⟨q,hq⟩ ⟨hl,hd,_,(rel.put k eb rv).keeps fun c ys ec=>?_,q,es,ep,hq,h2,h3,h4,h5⟩
  rw [Ah (at9 ec e (fun z=>nomatch z))]
  exact ec
end
section
variable {X:Cx} {pins:List (Addr×Obj)} {σ:St} {H:Hp} {s:ai} {a:Addr} {kvs:List (Key×V)} {k:Key} {u:Value} {A:bg} {E:Value->ai->Prop}
theorem bj8 {v:V} {more:List Value} {Q:Value->ai->Prop} (I:Inv X pins σ H s) (e:H a=some (.dK kvs)) (ry:RelV (kV k) u) (l:Bb kvs k=some v) (hm:more=[] \/ ∃ x,more=[x])
  (h:∀ w' s',Inv X pins σ (upd H a (.dK (Jn kvs k))) s'->RelV v w'->Q w' s'):aG (model X.prog X.w) A (call (.builtin "dict.pop") (.ref a::u::more)) Q E s:=by
 obtain⟨z,hd,vs,rel,dd⟩:=Tw I.hok e
 obtain⟨w',hw,rw'⟩:=RelO.some_of (v:=v) (o:=il vs k) (by rw [<- l];exact rel.val k)
 have hp:(keyPart u).isSome=true:=by
  cases k with
  | inl i=>obtain⟨t,q⟩:=(show ∃ t,u=kD i t from ry);subst q;rfl
  | inr x=>obtain⟨t,q⟩:=(show ∃ t,u=ib x t from ry);subst q;rfl
 have ha:argsOk "dict.pop" ⟨.ref a::u::more,[]⟩:=by
  rcases hm with q|⟨x,q⟩
  ·subst q;exact PySem.F.args_dict_pop_2 _ _
  ·subst q;exact PySem.F.args_dict_pop_3 _ _ _
 refine fT ky dd.typeIs PySem.F.entry_dict_pop ha (meets_dict_pop_there (Ap X.prog X.w) a (En ry) more hm hp)
  ⟨vs,w',dd,by rw [<- rel.length];exact z,hw,fun h' dd' hs=>h w' _ ?_ rw'⟩
 have he:∃ q,h'.get? a=some q:=let ⟨q,_,_,hq,_⟩:=dd';⟨q,hq⟩
 exact Fe I (by rw [e];exact bH) hs he (Jm (aS (Yz kvs k) z) hd (rel.drop k) dd')
theorem ai1 {Q:Value->ai->Prop} (I:Inv X pins σ H s) (e:H a=some (.dK kvs)) (h:∀ s',Inv X pins σ (upd H a (.dK [])) s'->Q .none s'):aG (model X.prog X.w) A (call (.builtin "dict.clear") [.ref a]) Q E s:=by
 obtain⟨z,hd,vs,rel,dd⟩:=Tw I.hok e
 refine fT jH dd.typeIs PySem.F.entry_dict_clear (PySem.F.args_dict_clear_1 _) (meets_dict_clear (Ap X.prog X.w) a) ⟨vs,dd,by rw [<- rel.length];exact z,fun h' dd' hs=>h _ ?_⟩
 have he:∃ q,h'.get? a=some q:=let ⟨q,_,_,hq,_⟩:=dd';⟨q,hq⟩
 exact Fe (t':=s.toks) I (by rw [e];exact bH) hs he (Jm (bo _) hd .nil dd')
theorem bj7 {Q:Value->ai->Prop} (I:Inv X pins σ H s) (e:Rd H a (.dK kvs)) (h:∀ t s',Inv X pins σ H s'->Q (.int kvs.length t) s'):aG (model X.prog X.w) A (call (.builtin "len") [.ref a]) Q E s:=by
 obtain⟨z,hd,vs,rel,dd⟩:=Cr I.hok e
 refine call_len_dict hd dd (by rw [<- rel.length];rw [bv] at z;omega) ?_
 rw [<- rel.length]
 exact h _ _ (I.tok _)
end
theorem Og {X:Cx} {pins:List (Addr×Obj)} {σ:St} {H:Hp} {s:ai} {a:Addr} {y:V} {o:Option V} (I:Inv X pins σ H s) (g:Er H a y o):s.TypeIs (.ref a) "dict" := by
 rcases g with ⟨kvs,k,e,_,_⟩|⟨kvs,k,b,e,_,_,_⟩
 ·obtain⟨_,_,vs,_,dd⟩:=Cr I.hok e
  exact dd.typeIs
 ·obtain⟨_,_,xs,_,dd⟩:=Jo I.hok e
  exact dd.typeIs
section
variable {X:Cx} {o i e value:Expr} {pos pos' tpos:Pos} {td ty tv:TE}
end
theorem Yy {P:aK} {w:bt} {H:Hp} (h:Heap) (hb:c4<h.objs.size):ObjOk P w H (h.push { cls:=.type "dict", data:=.dict #[] }) h.objs.size (.dK []):=
 ⟨bo _,beq_eq_false_iff_ne.mpr (bO (aE hb)),[],.nil,Heap.DictOf.new h⟩
theorem Y0 {P:aK} {w:bt} {H:Hp} (h:Heap) (hb:c4<h.objs.size):ObjOk P w H (h.push { cls:=.type "dict", data:=.dict #[] }) h.objs.size (.dT []):=
 ⟨bo _,beq_eq_false_iff_ne.mpr (bO (aE hb)),[],.nil,_,#[],0,aq _ rfl,⟨rfl,rfl,rfl⟩,rfl,rfl,f_⟩
section
variable {X:Cx} {pos:Pos}
end
section
variable {X:Cx} {pins:List (Addr×Obj)} {σ:St} {H:Hp} {s:ai} {a:Addr} {y d:V} {u r:Value} {o:Option V} {A:bg} {E:Value->ai->Prop}
theorem a25 {Q:Value->ai->Prop} (hu:A.units+1<cLine) (I:Inv X pins σ H s) (g:Er H a y o) (ry:RelV y u) (h:∀ w' s',Inv X pins σ H s'->RelV (o.getD .non) w'->Q w' s') :
  aG (model X.prog X.w) A (call (.builtin "dict.get") [.ref a,u]) Q E s:=by
 rcases g with ⟨kvs,k,e,ey,l⟩|⟨kvs,k,b,e,ey,eb,l⟩
 ·subst ey
  obtain⟨z,hd,vs,rel,dd⟩:=Cr I.hok e
  refine fT dP dd.typeIs fE (jE _ _) (meets_dict_get (Ap X.prog X.w) a (En ry) hd) ⟨_,dd.mapOf,h _ _ (I.tok _) ?_⟩
  rw [l]
  exact (rel.val k).getD rfl
 ·subst ey
  cases (show u=aM b from ry)
  obtain⟨z,hd,xs,rel,dd⟩:=Jo I.hok e
  refine fT dP dd.typeIs fE (jE _ _) (meetsH_dict_get (iR (Ap X.prog X.w)) a b hd) ⟨dm hu,k,xs,E2 I.hok eb,dd,h _ _ (I.tok _) ?_⟩
  rw [l]
  exact (rel.val k).getD rfl
theorem a26 {Q:Value->ai->Prop} (hu:A.units+1<cLine) (I:Inv X pins σ H s) (g:Er H a y o) (ry:RelV y u) (rd:RelV d r) (h:∀ w' s',Inv X pins σ H s'->RelV (o.getD d) w'->Q w' s') :
  aG (model X.prog X.w) A (call (.builtin "dict.get") [.ref a,u,r]) Q E s:=by
 rcases g with ⟨kvs,k,e,ey,l⟩|⟨kvs,k,b,e,ey,eb,l⟩
 ·subst ey
  obtain⟨z,hd,vs,rel,dd⟩:=Cr I.hok e
  refine fT dP dd.typeIs fE (jF _ _ _) (meets_dict_get_default (Ap X.prog X.w) a (En ry) hd r) ⟨_,dd.mapOf,h _ _ (I.tok _) ?_⟩
  rw [l]
  exact (rel.val k).getD rd
 ·subst ey
  cases (show u=aM b from ry)
  obtain⟨z,hd,xs,rel,dd⟩:=Jo I.hok e
  refine fT dP dd.typeIs fE (jF _ _ _) (meetsH_dict_get_default (iR (Ap X.prog X.w)) a b hd r) ⟨dm hu,k,xs,E2 I.hok eb,dd,h _ _ (I.tok _) ?_⟩
  rw [l]
  exact (rel.val k).getD rd
end
section
variable {X:Cx} {o e f:Expr} {apos cpos:Pos} {td ty tx:TE}
end
section
variable {X:Cx} {pins:List (Addr×Obj)} {σ:St} {H:Hp} {s:ai} {a:Addr} {kvs:List (Key×V)} {A:bg} {E:Value->ai->Prop}
end
section
variable {X:Cx} {pins:List (Addr×Obj)} {σ:St} {H:Hp} {s:ai} {a:Addr} {y:V} {u:Value} {A:bg} {E:Value->ai->Prop}
end
noncomputable abbrev EK:=Addr->Hp->Prop
noncomputable abbrev DE:=St->Hp->VK->EK->Prop
noncomputable abbrev DT:=St->Hp->(Bool->Hp->Prop)->EK->Prop
noncomputable abbrev DA:=St->Hp->(List V->Hp->Prop)->EK->Prop
structure Mo where
 nx:St->Hp->Prop
 rt:VK
 bk:St->Hp->Prop
 ct:St->Hp->Prop
 ex:St->EK
noncomputable abbrev DS:=Mo->St->Hp->Prop
noncomputable abbrev Aq (C:Addr) (dx:Option Addr) (vs:Array Value):Obj:={ cls:=.ref C,dict:=dx,data:=.fields vs }
noncomputable def Ep (a C:Addr) (dx:Option Addr):HO:=.ext fun h=>∃ vs:Array Value,h.get? a=some (Aq C dx vs)/\vs.size=6/\vs[1]? = some .none/\vs[2]? = some .none
noncomputable def flO (a C:Addr) (dx:Option Addr):HO:=.ext fun h=>∃ vs:Array Value,h.get? a=some (Aq C dx vs)/\vs.size=6/\vs[2]? = some .none
noncomputable def fcO (a C:Addr) (dx:Option Addr):HO:=.ext fun h=>∃ vs:Array Value,h.get? a=some (Aq C dx vs)/\vs.size=6
noncomputable def FlO (H:Hp) (a C:Addr) (dx:Option Addr):Prop:=H a=some (flO a C dx)\/H a=some (fcO a C dx)
noncomputable def xdO (dx:Addr) (fs:List (Str×V)):HO:=.ext fun h=>fs.length<=1000 /\ ∃ mA,h.Ns1 dx mA/\(∀ f,RelO (fs.lookup f) (mA f))/\eT mA (fs.map (·.1))
noncomputable def Ft (X:Cx) (pins:List (Addr×Obj)) (H:Hp) (a:Addr) (s:ai):Prop:=
 ∃ (C:Addr) (dx:Option Addr) (vs:Array Value),FlO H a C dx/\s.heap.get? a=some (Aq C dx vs)/\vs.size=6 /\
  (vs[1]? = some .none \/ ∃ (T:Addr) (oT:Obj) (ts:Array Value),vs[1]? = some (.ref T)/\T≠a/\s.heap.get? T=some oT/\oT.data=.fields ts/\(∃ z,ts[3]? = some z)/\Cs X pins H T)
noncomputable def Meets (X:Cx) (Ex:St->EK):Prop:=
 ∀ (pins:List (Addr×Obj)) (σ:St) (H:Hp) (s:ai) (a:Addr),Inv X pins σ H s->Ft X pins H a s->Ex σ a H->X.xe (.ref a) s
noncomputable def QE (X:Cx) (e:Expr) (t:DE):Prop:=∀ Ex,Meets X Ex->PE X e (fun σ H Q=>t σ H Q (Ex σ))
noncomputable def QT (X:Cx) (e:Expr) (t:DT):Prop:=∀ Ex,Meets X Ex->PT X e (fun σ H Q=>t σ H Q (Ex σ))
noncomputable def QW (X:Cx) (e:Expr) (t:DT):Prop:=∀ Ex,Meets X Ex->PW X e (fun σ H Q=>t σ H Q (Ex σ))
noncomputable def QA (X:Cx) (es:List Expr) (t:DA):Prop:=∀ Ex,Meets X Ex->PA X es (fun σ H Q=>t σ H Q (Ex σ))
noncomputable def al4 (Ex:St->EK) (D:K2):Mo:=⟨D.nx,D.rt,D.bk,D.ct,Ex⟩
noncomputable def QS (X:Cx) (st:Stmt) (t:DS):Prop:=∀ Ex,Meets X Ex->PS X st (fun D σ H=>t (al4 Ex D) σ H)
noncomputable def QSs (X:Cx) (st:List Stmt) (t:DS):Prop:=∀ Ex,Meets X Ex->PSs X st (fun D σ H=>t (al4 Ex D) σ H)
noncomputable def dNo:DE:=fun _ _ _ _=>False
noncomputable def Ab (i:Nat):DE:=fun σ H Q _=>match σ[i]? with
 | some (some v)=>Q v H
 | _=>False
noncomputable def dC (v:V):DE:=fun _ H Q _=>Q v H
noncomputable def Ae (r:R2) (a b:DE):DE:=fun σ H Q E=>a σ H (fun x H1=>b σ H1 (fun y H2=>r x y H2 Q) E) E
noncomputable def dUn (r:V->Hp->VK->Prop) (a:DE):DE:=fun σ H Q E=>a σ H (fun x H1=>r x H1 Q) E
noncomputable def P3 (r r':R2) (a b c:DE):DE:=fun σ H Q E=>a σ H (fun x H1=>b σ H1 (fun y H2=>r x y H2 fun z H3=>match z with
 | .bl k=>if k=true then c σ H3 (fun w H4=>r' y w H4 Q) E else Q (.bl false) H3
 | _=>False) E) E
noncomputable def Vp (a b:DT):DT:=fun σ H Q E=>a σ H (fun k H1=>if k=true then b σ H1 Q E else Q false H1) E
noncomputable def dOr (a b:DT):DT:=fun σ H Q E=>a σ H (fun k H1=>if k=true then Q true H1 else b σ H1 Q E) E
noncomputable def Hd (a:DT):DT:=fun σ H Q E=>a σ H (fun k H1=>Q (!k) H1) E
noncomputable def bj5 (t:DT) (a b:DE):DE:=fun σ H Q E=>t σ H (fun k H1=>if k=true then a σ H1 Q E else b σ H1 Q E) E
noncomputable def ag1 (K:aa) (x:V) (H:Hp) (Q:Bool->Hp->Prop):Prop:=match x with
 | .bl k=>Q k H
 | .non=>Q false H
 | .int i=>Q (i != 0) H
 | .str y=>y.length<=sizeLine/\Q ((y.length:Int) != 0) H
 | .ref p=>∃ k,bj0 K (.ref p) H k/\Q k H
 | _=>False
noncomputable def D6 (K:aa) (a b:DE):DE:=fun σ H Q E=>a σ H (fun x H1=>ag1 K x H1 fun k H2=>if k=true then b σ H2 Q E else Q x H2) E
noncomputable def bj6 (K:aa) (a b:DE):DE:=fun σ H Q E=>a σ H (fun x H1=>ag1 K x H1 fun k H2=>if k=true then Q x H2 else b σ H2 Q E) E
noncomputable def ar3 (K:aa) (a:DE):DE:=fun σ H Q E=>a σ H (fun x H1=>ag1 K x H1 fun k H2=>Q (.bl (!k)) H2) E
noncomputable def He (K:aa) (a:DE):DT:=fun σ H Q E=>a σ H (fun x H1=>ag1 K x H1 Q) E
noncomputable def A7 (a:DE):DT:=fun σ H Q E=>a σ H (fun x H1=>match x with
 | .bl k=>Q k H1
 | _=>False) E
noncomputable def Af:DA:=fun _ H Q _=>Q [] H
noncomputable def Aa (a:DE) (r:DA):DA:=fun σ H Q E=>a σ H (fun x H1=>r σ H1 (fun xs H2=>Q (x::xs) H2) E) E
noncomputable def Ij (t:DA):DE:=fun σ H Q E=>t σ H (fun xs H1=>xs.length<=sizeLine /\ ∀ p,H1 p=none->Q (.ref p) (upd H1 p (.tup xs))) E
noncomputable def C6 (t:DA):DE:=fun σ H Q E=>t σ H (fun xs H1=>xs.length<=sizeLine /\ ∀ p,H1 p=none->Q (.ref p) (upd H1 p (.lst xs))) E
noncomputable def dFn (r:List V->Hp->VK->EK->Prop) (t:DA):DE:=fun σ H Q E=>t σ H (fun vs H1=>r vs H1 Q E) E
noncomputable def dMt (r:V->Hp->(Hp->(List V->Hp->Prop)->Prop)->VK->Prop) (o:DE) (t:DA):DE:=fun σ H Q E=>o σ H (fun x H1=>r x H1 (fun H2 R=>t σ H2 R E) Q) E
noncomputable def Ai:DS:=fun D σ H=>D.nx σ H
noncomputable def Ck:DS:=fun _ _ _=>False
noncomputable def Ag (t u:DS):DS:=fun D σ H=>t { D with nx:=u D } σ H
noncomputable def A5 (e:DE):DS:=fun D σ H=>e σ H D.rt (D.ex σ)
noncomputable def ar4:DS:=fun D _ H=>D.rt .non H
noncomputable def A9 (e:DE):DS:=fun D σ H=>e σ H (fun _ H1=>D.nx σ H1) (D.ex σ)
noncomputable def dIf (c:DT) (t u:DS):DS:=fun D σ H=>c σ H (fun b H1=>if b=true then t D σ H1 else u D σ H1) (D.ex σ)
noncomputable def bj2:DS:=fun D σ H=>D.bk σ H
noncomputable def bj4:DS:=fun D σ H=>D.ct σ H
noncomputable def Ax (i:Nat) (e:DE):DS:=fun D σ H=>e σ H (fun v H1=>D.nx (σ.set i (some v)) H1) (D.ex σ)
noncomputable abbrev DG:=TG
noncomputable def Hc (e:DE) (g:DG):DS:=fun D σ H=>e σ H (fun v H1=>g v σ H1 D.nx) (D.ex σ)
noncomputable abbrev DI:=St->Hp->(It->Hp->Prop)->EK->Prop
noncomputable def P4 (c:DT) (tb:DS):DS:=fun D σ H=>∃ W:Nat->St->Hp->Prop,(∃ m,W m σ H) /\ ∀ m σ H,W m σ H ->
 c σ H (fun b H1=>if b=true then ∃ N:St->Hp->Prop,(∀ σ' H',N σ' H' -> ∃ m',m'<m/\W m' σ' H')/\tb { D with nx:=N,ct:=N,bk:=D.nx } σ H1 else D.nx σ H1) (D.ex σ)
noncomputable def ay2 (J:It) (g:DG) (tb:DS) (D:Mo) (σ:St) (H:Hp):Prop:=∃ W:Nat->Nat->St->Hp->Prop,(∃ m,W 0 m σ H) /\ ∀ i m σ H,W i m σ H ->
 (J.stop i H/\D.nx σ H)\/(J.go i H /\ ∃ N:St->Hp->Prop,(∀ σ' H',N σ' H' -> ∃ m',m'<m/\W (i+1) m' σ' H') /\ ∀ x H',J.yld i H x H'->g x σ H' (fun σ2 H2=>tb { D with nx:=N,ct:=N,bk:=D.nx } σ2 H2))
noncomputable def Thaw (H0 H:Hp) (P:Hp->Prop):Prop:=P H \/ ∃ p o kvs,H0 p=some (.dK kvs)/\H p=some (.frz o (.dK kvs))/\P (upd H p (.dK kvs))
noncomputable def Eo (wi:DI) (g:DG) (tb:DS):DS:=fun D σ H=>wi σ H (fun J H1=>ay2 J g tb { D with nx:=fun σ' H'=>Thaw H H' (D.nx σ') } σ H1) (D.ex σ)
noncomputable def ah2 (J:It) (g:DG) (tc:DT) (te:DE) (D:Addr) (R:Hp->Prop) (σ:St) (H:Hp) (E:EK):Prop:=
 ∃ W:Nat->Nat->St->Hp->Prop,(∃ m,W 0 m σ H) /\ ∀ i m σ' H',W i m σ' H' ->
  (J.stop i H'/\R H')\/(J.go i H' /\ ∃ N:St->Hp->Prop,(∀ σ2 H2,N σ2 H2 -> ∃ m',m'<m/\W (i+1) m' σ2 H2) /\ ∀ x H2,J.yld i H' x H2->g x σ' H2 (fun σ3 H3=>tc σ3 H3 (fun b H4=>if b=true then
    te σ3 H4 (fun v H5=>∃ ys,H5 D=some (.lst ys)/\ys.length<sizeLine/\N σ3 (upd H5 D (.lst (ys++[v])))) E
   else N σ3 H4) E))
noncomputable def Dx (srcs:List (Option Nat)) (wi:DI) (g:DG) (tc:DT) (te:DE):DE:=fun σ H Q E=>wi σ H (fun J H1=>∀ D,H1 D=none->ah2 J g tc te D (fun H'=>Q (.ref D) H') (Vm srcs σ) (upd H1 D (.lst [])) E) E
noncomputable def Hf:DT:=fun _ H Q _=>Q true H
noncomputable def gdN (i:Nat):DG:=fun v σ H Q=>Q (σ.set i (some v)) H
end L2
namespace L2
open PySem PySem.Spec PyProof.Rows PySem.W
section
variable {prog:aK} {w:bt} {A:bg} {E:Value->ai->Prop} {s:ai} {K:aa} {x C:Addr} {ox:Obj} {od:Option Obj} {name:Str} {expr:Bool} {Q:Value->ai->Prop}
theorem Oc (self:Value):jJ (.builtin "BaseException.__getattribute__") self=pure (.builtin "BaseException.__getattribute__", [self]):=by
 have hop:withoutEnding? "BaseException.__getattribute__" "#opaque" = none:=by decide +kernel
 have hdat:withoutEnding? "BaseException.__getattribute__" "#data" = none:=by decide +kernel
 have hk:builtinKind "BaseException.__getattribute__" = some .slot:=by decide +kernel
 simp only [jJ,typeOf,builtinType,hop,hdat,hk];rfl
theorem ai9 {v:Value} (X:K.In s.heap) (I:gc s.heap x ox C od) (hga:ar K (.ref C) "__getattribute__" = some (some (.builtin "BaseException.__getattribute__"))) (hgt:ar K (.ref C) "__getattr__" = some none)
  (hB:gM K C (.type "BaseException")=some true) (hf:PySem.W.findObj K C od name=some (.value v)) (hh:gh v=true) (h:Q v { s with toks:=s.toks+1 }) :
  aG (model prog w) A (lE (.ref x) name expr) Q E s:=by
 obtain⟨hp,g,d,t,os⟩:=s
 have L0:=I.type (M:=model prog w)
 have L1:=du (M:=model prog w) X hga
 have L2:=du (M:=model prog w) X hgt
 have L3:=lP (M:=model prog w) X I hf
 have L4:=lg (M:=model prog w) X hB
 unfold lE getAttrBy
 refine ac (wpAny_mkText (bp (ac (L0.at (ac (L1.at ?_))))))
 have hx2:(dy "BaseException.__getattribute__" == dy "object.__getattribute__")=false:=by decide +kernel
 have hx1:(mS (aM C)&&dy "BaseException.__getattribute__" == dy "object.__getattribute__")=false:=by rw [hx2];rfl
 dsimp only
 rw [hx1,if_neg ak]
 unfold getAttrByItsOwn
 refine ac (show aG _ _ (fC (.ref C) "__getattr__") _ _ _ from L2.at ?_)
 refine ac (fq (bp ?_))
 have hx0:(expr&&mS (dy "BaseException.__getattribute__"))=false:=by cases expr <;> rfl
 unfold callGetattribute
 rw [hx0,if_neg ak]
 unfold boundAndCalled
 rw [Oc]
 refine ac (ah ?_)
 refine dN (dv (by decide +kernel) F.entry_bexc_ga (check_slot (i := "BaseException.__getattribute__") (owner := "BaseException") (n := "__getattribute__") (by decide +kernel) (by decide +kernel) (L0.andThen L4) (F.args_bexc_ga _ _) ?_))
 unfold aT.«object.__getattribute__»
 refine ac (ah (ac (ah (ac (L0.at (ac (L3.at ?_)))))))
 refine ah ?_
 show aG _ _ (handedOut v) _ _ _
 rw [kQ hh]
 exact ah h
end
end L2
namespace L2
open PySem PySem.Spec PyProof.Rows PySem.W Builtin Builtin.ObjectAttr
noncomputable def A4:List Value->Bool
 | [.type a,.type b,.type c,.type d]=>a == "ValueError" && b == "Exception" && c == "BaseException" && d == "object"
 | .ref _::r=>A4 r
 | _=>false
noncomputable def valTail:List Value:=[.type "ValueError", .type "Exception", .type "BaseException", .type "object"]
theorem Ra (self:Value):refuseLoop self "__setattr__" valTail=pure ():=by kernel_rfl
theorem Dh:∀ {l:List Value},A4 l=true -> ∃ rs:List Addr,l=rs.map aM++valTail
 | [.type a,.type b,.type c,.type d],e=>by
  have e:(a == "ValueError" && b == "Exception" && c == "BaseException" && d == "object")=true:=e
  simp only [aw,beq_iff_eq] at e
  obtain⟨⟨⟨rfl,rfl⟩,rfl⟩,rfl⟩:=e
  exact⟨[],rfl⟩
 | .ref a::r,e=>by
  have e:A4 r=true:=by cases r <;> first|exact e|cases e
  obtain⟨rs,h⟩:=Dh e
  exact⟨a::rs,by rw [h];rfl⟩
theorem Q9 (self:Value) (rs:List Addr):refuseLoop self "__setattr__" (rs.map aM++valTail)=pure ():=by
 induction rs with
 | nil=>exact Ra self
 | cons a r ih=>rw [aP,dM,refuseLoop_ref];exact ih
theorem Pg (rs:List Addr) {T:String} (h:valTail.contains (.type T)=true):(rs.map aM++valTail).contains (.type T)=true:=by
 induction rs with
 | nil=>exact h
 | cons a r ih=>rw [aP,dM,bM,ih,fK]
section
variable {prog:aK} {w:bt} {A:bg} {s:ai} {K:aa} {x C:Addr} {R:kY->ai->Prop}
theorem Mc {ox:Obj} {od:Option Obj} {name:Str} {tk:Tok} {v:Value} {cd:ClassData} (X:K.In s.heap) (I:gc s.heap x ox C od) (hc:mR K C=some cd) (hp:A4 cd.mro=true) (ht:findIn K (.ref C) name=some none)
  (h:aG (model prog w) A.in1 (storeInOwnDict (.ref x) (.ref C) (.str name tk) name v false)
   (fun fin s'=>match fin with | .done f=>R (.ok f) s' | .again c'=>c'.quiet=true/\eK (model prog w) A c' R s') (fun e s'=>R (.error e) s') s) :
  eK (model prog w) A (.call (.builtin "object.__setattr__") ⟨[.ref x,.str name tk,v],[]⟩) R s:=by
 have SF:=PySem.F.store_object
 obtain⟨rs,hm⟩:=Dh hp
 have ne:cd.mro.isEmpty=false:=by rw [hm];cases rs <;> rfl
 have sub:Looks (model prog w) s.heap (gZ (.ref x) (.type "object")) true:=I.type.andThen (looks_mroIn X (by unfold mroIn;rw [hc,cH,if_neg (by rw [ne];decide),hm,Pg rs (by decide +kernel)]))
 refine dv SF.slot.plain SF.entry (@check_slot (model prog w) _ _ s "object.__setattr__" "object" "__setattr__" (.ref x) [.str name tk,v] [] _ SF.kind SF.split sub (SF.args (.ref x) (.str name tk) v) ?_)
 have hmr:Looks (model prog w) s.heap (mroOf (.ref C)) cd.mro:=(looks_clsIn X hc).andThen .now
 rw [osa_eq,refuse_eq]
 refine ac (ac (I.type.here (ac (hmr.here ?_))))
 rw [hm,Q9]
 refine ah (ac (I.type.here (ac ((looks_findIn X ht).here (ac (ah ?_))))))
 exact h
end
section
variable {prog:aK} {w:bt} {A:bg} {E:Value->ai->Prop} {s:ai} {K:aa} {x dx C f:Addr} {mA:Str->Option Value} {name:Str} {v:Value} {vs:Array Value}
theorem ap0 {ns:List Str} {Q:Unit->ai->Prop} {cd:ClassData} (X:K.In s.heap) (hx:s.heap.get? x=some (Aq C (some dx) vs)) (hn:s.heap.Ns1 dx mA) (hne:dx≠x)
  (hs:findIn K (.ref C) "__setattr__" = some (some (.builtin "object.__setattr__"))) (hc:mR K C=some cd) (hp:A4 cd.mro=true) (hd':cd.hasDict=true) (ht:findIn K (.ref C) name=some none)
  (hw:eT mA ns) (hsz:ns.length<=sizeLine)
  (h:∀ h',h'.get? x=some (Aq C (some dx) vs)->h'.Ns1 dx (fun y=>if y=name then some v else mA y)->a9 dx s.heap h'->Q () { s with heap:=h',toks:=s.toks+2 }) :
  aG (model prog w) A (mX (.ref x) name v) Q E s:=by
 obtain⟨od,ho,hl⟩:=Hq hn
 have J:gc s.heap x (Aq C (some dx) vs) C (some od):=⟨hx,rfl,rfl,ho⟩
 refine set_plain X J hs (Mc (s:={ s with toks:=s.toks+1 }) X J hc hp ht ?_)
 refine ac (ah (ac (ac (ji hx (ac (Looks.here (s:={ s with toks:=s.toks+1 }) (looks_clsIn X hc) ?_))))))
 rw [hd']
 refine ah (a:=some dx) (ac (ah (ac ?_)))
 refine mG (s:={ s with toks:=s.toks+1 }) hn fun h' hn2 hs2=>?_
 obtain⟨oD,esD,epD,hoD,hdD,hcD⟩:=hn2.count (PySem.Within.cons name v hw)
 refine ac (jS hoD (by rw [hdD];exact jR (aS hcD (by rw [aR];omega))) ?_)
 exact ah (h _ ((hs2.2 _ (bO hne)).trans hx) hn2 hs2)
theorem ae4 {Q:Unit->ai->Prop} {cd:ClassData} (X:K.In s.heap) (hx:s.heap.get? x=some (Aq C none vs))
  (hs:findIn K (.ref C) "__setattr__" = some (some (.builtin "object.__setattr__"))) (hc:mR K C=some cd) (hp:A4 cd.mro=true) (hd':cd.hasDict=true) (ht:findIn K (.ref C) name=some none)
  (h:∀ h',h'.get? x=some (Aq C (some s.heap.objs.size) vs)->h'.Ns1 s.heap.objs.size (fun y=>if y=name then some v else none)->(∀ b o,b≠x->s.heap.get? b=some o->h'.get? b=some o)->Q () { s with heap:=h',toks:=s.toks+2 }) :
  aG (model prog w) A (mX (.ref x) name v) Q E s:=by
 have J:gc s.heap x (Aq C none vs) C none:=⟨hx,rfl,rfl,bH⟩
 refine set_plain X J hs (Mc (s:={ s with toks:=s.toks+1 }) X J hc hp ht ?_)
 refine ac (ah (ac (ac (ji hx (ac (Looks.here (s:={ s with toks:=s.toks+1 }) (looks_clsIn X hc) ?_))))))
 rw [hd']
 rw [if_neg (by decide)]
 refine ac (wpAny_alloc (ac (wpAny_update (af _ hx) ?_)))
 refine ah (a:=some s.heap.objs.size) (ac (ah (ac ?_)))
 have e1:(s.heap.push emptyDict).get? s.heap.objs.size=some emptyDict:=aq s.heap rfl
 have hne:x≠s.heap.objs.size:=aE (au hx)
 have e2:((s.heap.push emptyDict).update x fun o=>{ o with dict:=some s.heap.objs.size }).get? s.heap.objs.size=some emptyDict:=by rw [aN _ _ hne];exact e1
 have e3:((s.heap.push emptyDict).update x fun o=>{ o with dict:=some s.heap.objs.size }).get? x=some (Aq C (some s.heap.objs.size) vs):=aW _ (af _ hx) rfl
 have n0:((s.heap.push emptyDict).update x fun o=>{ o with dict:=some s.heap.objs.size }).Ns s.heap.objs.size (fun _=>none):=⟨emptyDict,#[],_,e2,rfl,(fun e he=>absurd he (by simp)),fun _=>rfl⟩
 refine mG (s:={ s with heap:=(s.heap.push emptyDict).update x fun o=>{ o with dict:=some s.heap.objs.size },toks:=s.toks+1 }) (Heap.Ns1.of_empty n0) fun h' hn2 hs2=>?_
 obtain⟨oD,esD,epD,hoD,hdD,hcD⟩:=hn2.count (ns:=[name]) (fun y hy=>by
  by_cases e:y=name
  ·rw [e];simp
  ·exact absurd (by rw [if_neg e]) hy)
 refine ac (jS hoD (by rw [hdD];exact jR (aS hcD (by show 1<=sizeLine+1;decide))) ?_)
 refine ah (h _ ((hs2.2 _ hne).trans e3) hn2 fun b o hb e=>?_)
 have hbs:b≠s.heap.objs.size:=aE (au e)
 refine (hs2.2 b hbs).trans ?_
 show ((s.heap.push emptyDict).update x _).get? b=some o
 rw [aN _ _ (bO hb)]
 exact af _ e
end
end L2
namespace L2
open PySem PySem.Spec PySem.W Builtin Builtin.ObjectAttr
open Sem (wp)
structure ECls (K:aa) (C:Addr):Prop where
 obj:∃ nm q N bs bm hdct sn sub ab col dd k0 k1 k2 k3 k5,K.lookup C=some (fj nm q C N bs bm hdct sn sub ab col dd k0 k1 k2 k3 k5 "ValueError.__new__")/\A4 bm=true/\hdct=true
 sa:findIn K (.ref C) "__setattr__" = some (some (.builtin "object.__setattr__"))
 ga:findIn K (.ref C) "__getattribute__" = some (some (.builtin "BaseException.__getattribute__"))
 gt:findIn K (.ref C) "__getattr__" = some none
 ca:findIn K (.ref C) "__class__" = some (some (.builtin "object.__class__"))
 hn:specialIn K (.builtin "object.__class__") "__get__" = some (some (.builtin "getset_descriptor.__get__"))
 htk:takesIn K (.builtin "object.__class__")=some true
theorem Bo {bm:List Value} (h:A4 bm=true) {T:String} {b:Bool} (hb:valTail.contains (.type T)=b):bm.contains (.type T)=b:=by
 obtain⟨rs,rfl⟩:=Dh h
 induction rs with
 | nil=>exact hb
 | cons a r ih=>
  have h':A4 (r.map aM++valTail)=true:=by
   cases r <;> exact h
  rw [aP,dM,bM,ih h']
  rfl
section
variable {M:nG} {A:bg} {E:Value->ai->Prop} {h:Heap} {g:Array i3} {d:Drawn} {t:Nat} {os:OsState}
variable {nm q:Str} {C N:Addr} {bs bm:List Value} {hdct:Bool} {sn:List Str} {sub:List Value} {ab:Bool} {col:Option Bool} {dd:Option Addr} {k0 k1 k2 k3 k5:Option Value}
theorem Dz (T:A4 bm=true) {rest:List Value} {Q:Unit->ai->Prop} (hC:h.get? C=some (fj nm q C N bs bm hdct sn sub ab col dd k0 k1 k2 k3 k5 "ValueError.__new__"))
  (hq:Q () ⟨h,g,d,t,os⟩):aG M A (gp "ValueError.__new__" ⟨.ref C::rest,[]⟩) Q E ⟨h,g,d,t,os⟩:=by
 have F:=dJ
 have hcont:(aM C::bm).contains (.type "ValueError")=true:=by rw [bM,Bo T (show valTail.contains (.type "ValueError")=true by decide +kernel),fK]
 have hstar:=F.noStar
 simp only [gp,F.newKind,F.newSplit,F.newRow]
 repeat (first|refine bu hC ?_|(refine cw hC ?_;rw [hcont])|refine wpAny_staticBase_exc hC ?_|refine jT hC ?_|simp only [bne_self_eq_false,cf,if_false] | wp_step)
 exact hq
end
section
variable {prog:aK} {w:bt} {A:bg} {R:kY->ai->Prop} {h:Heap} {g:Array i3} {d:Drawn} {t:Nat} {os:OsState}
variable {nm q:Str} {C N:Addr} {bs bm:List Value} {hdct:Bool} {sn:List Str} {sub:List Value} {ab:Bool} {col:Option Bool} {dd:Option Addr} {k0 k1 k2 k3 k5:Option Value}
theorem Dw (T:A4 bm=true) {rest:List Value} (hC:h.get? C=some (fj nm q C N bs bm hdct sn sub ab col dd k0 k1 k2 k3 k5 "ValueError.__new__"))
  (hq:R (.ok (.ret (.ref (h.objs.size+1)))) ⟨(h.push { cls:=.type "tuple", data:=.seq rest.toArray }).push
   {cls:=.ref C,data:=.fields #[.ref h.objs.size,.none,.none,.none,.bool false,.none] },g,d,t,os⟩) (hrest:rest.length<=sizeLine) :
  eK (model prog w) A (.builtin "ValueError.__new__" ⟨.ref C::rest,[]⟩) R ⟨h,g,d,t,os⟩:=by
 have F:=dJ
 have hends:=F.ends
 have hcB:(aM C::bm).contains (.type "ValueError")=true:=by rw [bM,Bo T (show valTail.contains (.type "ValueError")=true by decide +kernel),fK]
 have hcA:(aM C::bm).contains (.type "AttributeError")=false:=by rw [bM,Bo T (show valTail.contains (.type "AttributeError")=false by decide +kernel)];rfl
 have hcN:(aM C::bm).contains (.type "NameError")=false:=by rw [bM,Bo T (show valTail.contains (.type "NameError")=false by decide +kernel)];rfl
 refine codeAny_builtinAt F.entry ?_
 unfold aT.«BaseException.__new__»
 refine wpAt_bind ?_
 show wpAt _ _ _ (stack >>= _) _ _ _
 refine wpAt_bind (wpAt_stack fun p below=>wpAt_of_wpAny ?_)
 wp_walk
 refine wpAt_of_wpAny ?_
 rw [F.owner]
 repeat (first|with_reducible refine wpAny_madeHere_exc F.canon hC ?_|with_reducible refine bu hC ?_|(with_reducible refine cw hC ?_;first|rw [hcB] | rw [hcA] | rw [hcN])|wp_step)
 show R _ _
 rw [cx]
 exact hq
end
end L2
namespace L2
open PySem PySem.Spec PySem.W Builtin Builtin.ObjectAttr
open Sem (wp)
section
variable {prog:aK} {w:bt} {A:bg} {E:Value->ai->Prop} {h:Heap} {g:Array i3} {d:Drawn} {t:Nat} {os:OsState}
variable {nm q:Str} {C N f:Addr} {bs bm:List Value} {hdct:Bool} {sn:List Str} {sub:List Value} {ab:Bool} {col:Option Bool} {dd:Option Addr} {k0 k1 k2 k3 k5:Option Value}
noncomputable abbrev Cm (h:Heap) (C:Addr) (rest:List Value):Heap:=(h.push { cls:=.type "tuple", data:=.seq rest.toArray }).push { cls:=.ref C,data:=.fields #[.ref h.objs.size,.none,.none,.none,.bool false,.none] }
theorem G7 (T:A4 bm=true) {rest:List Value} {Q:Fin->ai->Prop}
  (hC:h.get? C=some (fj nm q C N bs bm hdct sn sub ab col dd k0 k1 k2 k3 k5 "ValueError.__new__"))
  (hi:Looks (model prog w) h (fC (.ref C) "__init__") (some (.ref f))) (hb:∀ self,Looks (model prog w) h (jJ (.ref f) self) (.ref f,[self]))
  (hq:aG (model prog w) A (call (.ref f) (.ref (h.objs.size+1)::rest)) (fun v s'=>v=.none/\Q (.done (.ret (.ref (h.objs.size+1)))) s') E ⟨Cm h C rest,g,d,t,os⟩) (hrest:rest.length<=sizeLine) :
  aG (model prog w) A (aT.«type.__call__» ⟨.ref C::rest,[]⟩) Q E ⟨h,g,d,t,os⟩:=by
 have F:=dJ
 repeat (first|with_reducible refine bu hC ?_|with_reducible refine jT hC ?_|wp_step)
 refine jb (c9 _ F.quiet) (Dz T hC ?_)
 refine Dw T hC ?_ hrest
 show aG _ _ _ _ _ _
 have kp:∀ b o,h.get? b=some o->(Cm h C rest).get? b=some o:=fun b o e=>af _ (af _ e)
 have hC₁:=kp _ _ hC
 have hget:(Cm h C rest).get? (h.objs.size+1)=some { cls:=.ref C,data:=.fields #[.ref h.objs.size,.none,.none,.none,.bool false,.none] }:=by heap_get
 have hcC:(aM C::bm).contains (.ref C)=true:=by simp
 unfold gZ
 repeat (first|with_reducible refine bu hget ?_|(with_reducible refine cw hC₁ ?_;rw [hcC])|wp_step)
 show aG _ _ (fC (.ref C) _) _ _ _
 refine (hi.keeps kp).at ?_
 refine bp (ac (((hb _).keeps kp).at ?_))
 refine ac (bL hq (fun v s' z=>?_) fun _ _ z=>z)
 obtain⟨rfl,z⟩:=z
 exact ah (ah z)
theorem Zv (T:A4 bm=true) {rest:List Value} {R:kY->ai->Prop}
  (hC:h.get? C=some (fj nm q C N bs bm hdct sn sub ab col dd k0 k1 k2 k3 k5 "ValueError.__new__"))
  (hi:Looks (model prog w) h (fC (.ref C) "__init__") (some (.ref f))) (hb:∀ self,Looks (model prog w) h (jJ (.ref f) self) (.ref f,[self]))
  (hq:eK (model prog w) (A.under (.builtin "type.__call__" ⟨.ref C::rest,[]⟩)) (.call (.ref f) ⟨.ref (h.objs.size+1)::rest,[]⟩) (InitBack (h.objs.size+1) R) ⟨Cm h C rest,g,d,t,os⟩) (hrest:rest.length<=sizeLine) :
  eK (model prog w) A (.call (.ref C) ⟨rest,[]⟩) R ⟨h,g,d,t,os⟩:=by
 have f1:=tc_lookup
 have f2:=tc_bind (.ref C)
 have hT:(⟨h,g,d,t,os⟩:ai).TypeIs (.ref C) "type" := ⟨_,hC,rfl⟩
 refine iN ?_
 show aG _ _ (callAny (.ref C) _) _ _ _
 repeat (any_goals (first|assumption|with_reducible refine bu hC ?_|wp_step))
 refine⟨rfl,?_⟩
 refine jK (c9 _ (by decide +kernel)) entry_typeCall (jg hC (G7 T hC hi hb (dN (eU hq fun r s' z=>?_)) hrest))
 rcases r with e|(v|_|_|_) <;> first|exact z|exact z.elim
theorem Gb (T:A4 bm=true) {rest:List Value} {Q:Fin->ai->Prop}
  (hC:h.get? C=some (fj nm q C N bs bm hdct sn sub ab col dd k0 k1 k2 k3 k5 "ValueError.__new__"))
  (hi:Looks (model prog w) h (fC (.ref C) "__init__") (some (.builtin "ValueError.__init__")))
  (hq:∀ h' e,Heap.MadeExcOf h h' e (.ref C) rest->e=h.objs.size+1->Q (.done (.ret (.ref e))) ⟨h',g,d,t,os⟩) (hrest:rest.length<=sizeLine) :
  aG (model prog w) A (aT.«type.__call__» ⟨.ref C::rest,[]⟩) Q E ⟨h,g,d,t,os⟩:=by
 have F:=dJ
 repeat (first|with_reducible refine bu hC ?_|with_reducible refine jT hC ?_|wp_step)
 refine jb (c9 _ F.quiet) (Dz T hC ?_)
 refine Dw T hC ?_ hrest
 show aG _ _ _ _ _ _
 have kp:∀ b o,h.get? b=some o->(Cm h C rest).get? b=some o:=fun b o e=>af _ (af _ e)
 have hC₁:=kp _ _ hC
 have hget:(Cm h C rest).get? (h.objs.size+1)=some { cls:=.ref C,data:=.fields #[.ref h.objs.size,.none,.none,.none,.bool false,.none] }:=by heap_get
 have hcC:(aM C::bm).contains (.ref C)=true:=by simp
 have hcB:(aM C::bm).contains (.type "ValueError")=true:=by rw [bM,Bo T (show valTail.contains (.type "ValueError")=true by decide +kernel),fK]
 unfold gZ
 repeat (first|with_reducible refine bu hget ?_|(with_reducible refine cw hC₁ ?_;rw [hcC])|wp_step)
 show aG _ _ (fC (.ref C) _) _ _ _
 refine (hi.keeps kp).at ?_
 refine bp (ac (lJ (F.init.bind _) ?_))
 have chk:∀ {Q':Unit->ai->Prop} {E':Value->ai->Prop} {A':bg},Q' () ⟨Cm h C rest,g,d,t,os⟩->aG (model prog w) A' (gp "ValueError.__init__" ⟨.ref (h.objs.size+1)::rest,[]⟩) Q' E' ⟨Cm h C rest,g,d,t,os⟩:=fun {Q' E' A'} hq'=>by
  have hshort:=F.noStar
  simp only [gp,F.initKind,F.initSplit,F.initRow]
  repeat (first|with_reducible refine bu hget ?_|with_reducible refine bu hC₁ ?_|(with_reducible refine cw hC₁ ?_;rw [hcB])|wp_step)
  refine wpAny_onRaise ?_
  rw [show ∀ (a b:String) (n:Nat),Bind.check ⟨.positional, "*", "ValueError", .self,[⟨"args", .varPos,false⟩]⟩ a b n (iA (fun x=>x.fst) ({ pos:=aM (h.objs.size+1)::rest }:Args).kw)=pure () from
   fun a b n=>check_star_args _ _ _ _ _ _]
  exact ah hq'
 refine ac (dN (dv F.init.plain F.initEntry (chk ?_)))
 wp_walk
 refine hq _ _ ⟨fun b o hb=>?_,iq (ce _),h.objs.size+2,?_,iq (by omega),?_⟩ rfl
 ·rw [aN _ _ (dz (cM (au hb)))]
  exact af _ (af _ (af _ hb))
 ·rw [aW _ (af _ hget) rfl]
  simp only [cx]
  rfl
 ·rw [aN _ _ (show h.objs.size+1≠h.objs.size+2 by omega)]
  exact Heap.get?_push_at (by simp only [cx]) rfl
theorem Wh (T:A4 bm=true) {rest:List Value} {R:kY->ai->Prop}
  (hC:h.get? C=some (fj nm q C N bs bm hdct sn sub ab col dd k0 k1 k2 k3 k5 "ValueError.__new__"))
  (hi:Looks (model prog w) h (fC (.ref C) "__init__") (some (.builtin "ValueError.__init__")))
  (hq:∀ h' e,Heap.MadeExcOf h h' e (.ref C) rest->e=h.objs.size+1->R (.ok (.ret (.ref e))) ⟨h',g,d,t,os⟩) (hrest:rest.length<=sizeLine) :
  eK (model prog w) A (.call (.ref C) ⟨rest,[]⟩) R ⟨h,g,d,t,os⟩:=by
 have f1:=tc_lookup
 have f2:=tc_bind (.ref C)
 have hT:(⟨h,g,d,t,os⟩:ai).TypeIs (.ref C) "type" := ⟨_,hC,rfl⟩
 refine iN ?_
 show aG _ _ (callAny (.ref C) _) _ _ _
 repeat (any_goals (first|assumption|with_reducible refine bu hC ?_|wp_step))
 refine⟨rfl,?_⟩
 exact jK (c9 _ (by decide +kernel)) entry_typeCall (jg hC (Gb T hC hi hq hrest))
end
end L2
namespace L2
open PySem PySem.Spec PySem.W PyProof.Rows
theorem ECls.cls {K:aa} {C:Addr} (c:ECls K C):∃ cd,mR K C=some cd/\A4 cd.mro=true/\cd.hasDict=true:=by
 obtain⟨nm,q,N,bs,bm,hdct,sn,sub,ab,col,dd,k0,k1,k2,k3,k5,hl,ht,hd⟩:=c.obj
 refine⟨_,by unfold mR;rw [hl],?_,hd⟩
 obtain⟨rs,e⟩:=Dh ht
 show A4 (aM C::bm)=true
 rw [e]
 clear e
 show A4 (iA aM (C::rs)++valTail)=true
 have:∀ l:List Addr,A4 (iA aM l++valTail)=true:=fun l=>by
  induction l with
  | nil=>decide +kernel
  | cons a r ih=>cases r <;> exact ih
 exact this _
theorem ECls.sub {K:aa} {C:Addr} (c:ECls K C) {T:String} (h:valTail.contains (.type T)=true):mroIn K C (.type T)=some true:=by
 obtain⟨cd,h1,h2,_⟩:=c.cls
 obtain⟨rs,e⟩:=Dh h2
 unfold mroIn
 rw [h1,cH,e,Pg rs h,if_neg]
 cases rs <;> exact ak
section
variable {prog:aK} {w:bt} {A:bg} {E:Value->ai->Prop} {s:ai} {K:aa} {x C:Addr} {ox:Obj} {od:Option Obj} {name:Str}
theorem Zd {g a v:Value} {Q:Option Value->ai->Prop} (X:K.In s.heap) (I:gc s.heap x ox C od) (hga:ar K (.ref C) "__getattribute__" = some (some (.builtin "BaseException.__getattribute__"))) (hgt:ar K (.ref C) "__getattr__" = some none)
  (hB:gM K C (.type "BaseException")=some true) (hf:PySem.W.findObj K C od name=some (.bind g a)) (hh:gh v=true)
  (h:∀ {A':bg} {R:kY->ai->Prop},R (.ok (.ret v)) { s with toks:=s.toks+1 }->eK (model prog w) A' (.call g ⟨[a,.ref x,.ref C],[]⟩) R { s with toks:=s.toks+1 }) (hq:Q (some v) { s with toks:=s.toks+1 }) :
  aG (model prog w) A (getAttr? (.ref x) name) Q E s:=by
 obtain⟨hp,gg,d,t,os⟩:=s
 have L0:=I.type (M:=model prog w)
 have L1:=du (M:=model prog w) X hga
 have L2:=du (M:=model prog w) X hgt
 have L3:=lP (M:=model prog w) X I hf
 have L4:=lg (M:=model prog w) X hB
 unfold getAttr? getAttrBy? getAttrBy
 refine ac (wpAny_mkText (ac (fq (bp (ac (L0.at (ac (L1.at ?_))))))))
 have hx2:(dy "BaseException.__getattribute__" == dy "object.__getattribute__")=false:=by decide +kernel
 have hx1:(mS (aM C)&&dy "BaseException.__getattribute__" == dy "object.__getattribute__")=false:=by rw [hx2];rfl
 dsimp only
 rw [hx1,if_neg ak]
 unfold getAttrByItsOwn
 refine ac (show aG _ _ (fC (.ref C) "__getattr__") _ _ _ from L2.at ?_)
 refine ac (fq (bp ?_))
 have hx0:(false&&mS (dy "BaseException.__getattribute__"))=false:=rfl
 unfold callGetattribute
 rw [hx0,if_neg ak]
 unfold boundAndCalled
 rw [Oc]
 refine ac (ah ?_)
 refine dN (dv (by decide +kernel) F.entry_bexc_ga (check_slot (i := "BaseException.__getattribute__") (owner := "BaseException") (n := "__getattribute__") (by decide +kernel) (by decide +kernel) (L0.andThen L4) (F.args_bexc_ga _ _) ?_))
 unfold aT.«object.__getattribute__»
 refine ac (ah (ac (ah (ac (L0.at (ac (L3.at ?_)))))))
 refine ac (bp (dN (h ?_)))
 refine ah ?_
 show aG _ _ (handedOut v) _ _ _
 rw [kQ hh]
 exact ah (ah hq)
theorem K8 {a g:Value} (hc:(mR K C).isSome=true) (ha:findIn K (.ref C) name=some (some a)) (hg:specialIn K a "__get__" = some (some g)) (ht:takesIn K a=some true):findObj K C od name=some (.bind g a):=by
 obtain⟨cd,hc⟩:=Option.isSome_iff_exists.mp hc
 unfold findObj
 rw [hc,cH,ha,cH]
 simp [hg,ht]
theorem Vw {Q:Option Value->ai->Prop} (c:ECls K C) (X:K.In s.heap) (I:InstAt s.heap x ox C od) (h:Q (some (.ref C)) { s with toks:=s.toks+1 }):aG (model prog w) A (getAttr? (.ref x) "__class__") Q E s:=by
 have hf:findObj K C od "__class__" = some (.bind (.builtin "getset_descriptor.__get__") (.builtin "object.__class__")):=K8 (by obtain⟨cd,hc,_⟩:=c.cls;rw [hc];rfl) c.ca c.hn c.htk
 exact Zd (v:=.ref C) X I c.ga c.gt (c.sub (by decide +kernel)) hf rfl (fun q=>class_get (s:={ s with toks:=s.toks+1 }) (ox:=ox) (od:=od) X I (c.sub (by decide +kernel)) q) h
end
theorem Zp {K:aa} {x D:Addr} (c:ECls K D):KitX K (.ref x) (.ref D) (fun h=>∃ ox od,InstAt h x ox D od) where
 ty:=fun _ _ _ ⟨_,_,I⟩=>I.type
 it:=fun _ _ X _=>by
  obtain⟨cdD,hcD,_⟩:=c.cls
  unfold mR at hcD
  split at hcD
  ·rename_i c' d' cd' sl' ho
   intro A' Q' E' s' k q
   unfold isType loadHead
   exact ac (ji (k _ _ (X _ _ ho)) (ah q))
  ·cases hcD
 ne:=fun h tp dd its n sl X htp=>by
  obtain⟨cdD,hcD,_⟩:=c.cls
  refine Bool.eq_false_iff.mpr fun q=>?_
  have e:D=tp:=Value.ref.inj (beq_iff_eq.mp q)
  subst e
  unfold mR at hcD
  split at hcD
  ·rename_i c' d' cd' sl' ho
   have z:=(X _ _ ho).symm.trans htp
   cases z
  ·cases hcD
 ca:=fun X ⟨_,_,I⟩ k=>Vw c X I k
noncomputable def ExcAt (H:Hp) (a C:Addr) (fs:List (Str×V)):Prop:=(fs=[]/\(H a=some (Ep a C none)\/FlO H a C none)) \/ ∃ dx,dx≠a/\(H a=some (Ep a C (some dx))\/FlO H a C (some dx))/\H dx=some (xdO dx fs)
inductive TyX (K:aa) (H:Hp) (x:V) (t:Value):Prop where
 | of (h:TyOf K H x t)
 | exc {a C:Addr} {fs:List (Str×V)} (ex:x=.ref a) (e:ExcAt H a C fs) (c:ECls K C) (et:t=.ref C)
 | sqT {a:Addr} {xs:List V} (ex:x=.ref a) (e:SqT K H a xs) (et:t=.type "tuple")
 | sqL {a:Addr} {xs:List V} (ex:x=.ref a) (e:SqL K H a xs) (et:t=.type "list")
section
variable {X:Cx} {pins:List (Addr×Obj)} {σ:St} {H:Hp} {s:ai} {A:bg} {E:Value->ai->Prop} {a C:Addr} {fs:List (Str×V)}
theorem Jq {dx:Option Addr} (I:Inv X pins σ H s) (e:H a=some (Ep a C dx)):∃ vs:Array Value,s.heap.get? a=some (Aq C dx vs)/\vs.size=6/\vs[1]? = some .none/\vs[2]? = some .none:=(I.hok a _ e).1
theorem Y9 {dx:Option Addr} (I:Inv X pins σ H s) (e:H a=some (flO a C dx)):∃ vs:Array Value,s.heap.get? a=some (Aq C dx vs)/\vs.size=6/\vs[2]? = some .none:=(I.hok a _ e).1
theorem Gn {dx:Option Addr} (I:Inv X pins σ H s) (e:H a=some (Ep a C dx)\/FlO H a C dx):∃ vs:Array Value,s.heap.get? a=some (Aq C dx vs)/\vs.size=6:=by
 rcases e with e|e|e
 ·obtain⟨vs,h1,h2,_⟩:=Jq I e;exact⟨vs,h1,h2⟩
 ·obtain⟨vs,h1,h2,_⟩:=Y9 I e;exact⟨vs,h1,h2⟩
 ·exact (I.hok a _ e).1
theorem ax9 {dx:Addr} (I:Inv X pins σ H s) (e:H dx=some (xdO dx fs)):fs.length<=1000 /\ ∃ mA,s.heap.Ns1 dx mA/\(∀ f,RelO (fs.lookup f) (mA f))/\eT mA (fs.map (·.1)):=(I.hok dx _ e).1
theorem ExcAt.inst (I:Inv X pins σ H s) (e:ExcAt H a C fs):∃ vs dx od,InstAt s.heap a (Aq C dx vs) C od/\(∀ o,od=some o -> ∀ name,∃ v,lookIn name o=some v/\RelO (fs.lookup name) v)/\(od=none->fs=[]):=by
 rcases e with ⟨rfl,e⟩|⟨dx,ne,e,ed⟩
 ·obtain⟨vs,h1,_⟩:=Gn I e
  exact⟨vs,none,none,⟨h1,rfl,rfl,bH⟩,fun o z=>(nomatch z),fun _=>rfl⟩
 ·obtain⟨vs,h1,_⟩:=Gn I e
  obtain⟨_,mA,hn,hr,_⟩:=ax9 I ed
  obtain⟨od,ho,hl⟩:=Hq hn
  refine⟨vs,some dx,some od,⟨h1,rfl,rfl,ho⟩,fun o z name=>?_,fun z=>nomatch z⟩
  cases z
  exact⟨_,hl name,hr name⟩
theorem Jw {Q:Value->ai->Prop} {c:Value} {b:Bool} {x:V} {u t:Value} (I:Inv X pins σ H s) (rx:RelV x u) (ty:TyX X.K H x t) (e:fz X.K t c=some b) (h:∀ tk,Q (.bool b) { s with toks:=tk }) :
  aG (model X.prog X.w) A (call (.builtin "isinstance") [u,c]) Q E s:=by
 cases ty with
 | of ty=>exact L6 I rx ty e h
 | @exc a C fs ex ea cl et=>
  subst ex et
  cases (show u=aM a from rx)
  obtain⟨vs,dx,od,J,_⟩:=ea.inst I
  exact bZ (Zp cl) I.kIn ⟨_,_,J⟩ e (fun z=>nomatch z) h
 | @sqT a xs ex q et=>
  subst ex et
  cases (show u=aM a from rx)
  obtain⟨_,_,⟨o,h1,h2,_⟩,_⟩:=I.tuple q
  exact bZ lO I.kIn ⟨o,h1,h2⟩ e (fun z=>nomatch z) h
 | @sqL a xs ex q et=>
  subst ex et
  cases (show u=aM a from rx)
  obtain⟨_,_,⟨o,_,h1,h2,_⟩,_⟩:=I.list q
  exact bZ js I.kIn ⟨o,h1,h2⟩ e (fun z=>nomatch z) h
theorem V1 {b:Bool} {f:Str} {v:V} {Q:Value->ai->Prop} (I:Inv X pins σ H s) (e:ExcAt H a C fs) (c:ECls X.K C) (n:NoAttr X.K C f) (l:fs.lookup f=some v)
  (h:∀ u s',Inv X pins σ H s'->RelV v u->Q u s'):aG (model X.prog X.w) A (lE (.ref a) f b) Q E s:=by
 obtain⟨vs,dx,od,J,hl,hn⟩:=e.inst I
 obtain⟨cd,hc,_,hd⟩:=c.cls
 cases od with
 | none=>rw [hn rfl] at l;cases l
 | some o=>
  obtain⟨u?,h1,h2⟩:=hl o rfl f
  rw [l] at h2
  obtain⟨u,hu,ru⟩:=RelO.some_of h2
  subst hu
  refine ai9 I.kIn J c.ga c.gt (c.sub (by decide +kernel)) (lc (by unfold hasDictIn;rw [hc];exact hd) n rfl h1) (Ly ru) (h u _ (I.tok _) ru)
noncomputable def bi7 (H:Hp) (a C:Addr) (f:Str) (y:V) (N:Hp->Prop):Prop:=
 (H a=some (Ep a C none) /\ ∀ dx,H dx=none->dx≠a->N (upd (upd H dx (xdO dx [(f,y)])) a (Ep a C (some dx)))) \/
 ∃ dx fs,dx≠a/\H a=some (Ep a C (some dx))/\H dx=some (xdO dx fs)/\fs.length<1000/\N (upd H dx (xdO dx (El f y fs)))
theorem M3 {P:aK} {w:bt} {H:Hp} {h:Heap} {dx:Option Addr} {vs:Array Value} (h1:h.get? a=some (Aq C dx vs)) (h2:vs.size=6) (h3:vs[1]? = some .none) (h4:vs[2]? = some .none):ObjOk P w H h a (Ep a C dx):=
 ⟨⟨vs,h1,h2,h3,h4⟩,⟨_,h1⟩,fun _ _ ⟨vs',q1,q2⟩ k=>⟨vs',k _ q1,q2⟩⟩
theorem Y8 {P:aK} {w:bt} {H:Hp} {h:Heap} {dx:Option Addr} {vs:Array Value} (h1:h.get? a=some (Aq C dx vs)) (h2:vs.size=6) (h4:vs[2]? = some .none):ObjOk P w H h a (flO a C dx):=
 ⟨⟨vs,h1,h2,h4⟩,⟨_,h1⟩,fun _ _ ⟨vs',q1,q2⟩ k=>⟨vs',k _ q1,q2⟩⟩
theorem Y7 {P:aK} {w:bt} {H:Hp} {h:Heap} {dx:Option Addr} {vs:Array Value} (h1:h.get? a=some (Aq C dx vs)) (h2:vs.size=6):ObjOk P w H h a (fcO a C dx):=
 ⟨⟨vs,h1,h2⟩,⟨_,h1⟩,fun _ _ ⟨vs',q1,q2⟩ k=>⟨vs',k _ q1,q2⟩⟩
theorem ah0 {P:aK} {w:bt} {H:Hp} {h:Heap} {dx:Addr} {mA:Str->Option Value} (z:fs.length<=1000) (h1:h.Ns1 dx mA) (h2:∀ f,RelO (fs.lookup f) (mA f)) (h3:eT mA (fs.map (·.1))):ObjOk P w H h dx (xdO dx fs):=
 ⟨⟨z,mA,h1,h2,h3⟩,(let ⟨o,_,_,e,_⟩:=h1;⟨o,e⟩),fun _ _ ⟨z',mB,q1,q2,q3⟩ k=>⟨z',mB,q1.at k,q2,q3⟩⟩
theorem W1 {f:Str} {y:V} {u:Value} {Q:Unit->ai->Prop} {N:Hp->Prop} (I:Inv X pins σ H s) (c:ECls X.K C) (n:NoAttr X.K C f) (ry:RelV y u) (h0:bi7 H a C f y N)
  (h:∀ H' s',Inv X pins σ H' s'->N H'->Q () s'):aG (model X.prog X.w) A (mX (.ref a) f u) Q E s:=by
 obtain⟨cd,hc,hp,hd⟩:=c.cls
 rcases h0 with ⟨e,hN⟩|⟨dx,fs,ne,e,ed,hz,hN⟩
 ·obtain⟨vs,h1,h2,h3,h4⟩:=Jq I e
  refine ae4 I.kIn h1 c.sa hc hp hd n fun h' q1 q2 q3=>?_
  have fr:H s.heap.objs.size=none:=I.hok.fresh (ae _)
  have ane:s.heap.objs.size≠a:=fun z=>by rw [z,e] at fr;cases fr
  refine h _ _ ?_ (hN _ fr ane)
  obtain⟨o,es,ep,eo,hrest⟩:=id q2
  have eo1:(s.heap.push o).get? s.heap.objs.size=some o:=aq s.heap (Heap.get?_some_iff.mp eo).2
  have I1:=I.laid (a:=s.heap.objs.size) (o:=xdO s.heap.objs.size [(f,y)]) (h':=s.heap.push o) (t':=s.toks+2) (fun b u e=>af _ e) (ae _)
   (ah0 (by simp) (q2.at fun o' e'=>by rw [eo] at e';cases e';exact eo1) (fun g=>by
    show RelO (eW g [(f,y)]) (if g=f then some u else none)
    by_cases q:g=f
    ·rw [if_pos q,q];simp only [eW,beq_self_eq_true];exact ry
    ·rw [if_neg q];simp only [eW,beq_eq_false_iff_ne.mpr q];exact bH) (fun g hg=>by
    by_cases q:g=f
    ·rw [q];simp
    ·exact absurd (by show (if g=f then some u else none)=none;rw [if_neg q]) hg))
  exact I1.write (x:=a) (e:=a) (t':=s.toks+2) (by rw [Ah (bO ane),e];exact bH) (.inl rfl) (fun b u hb eb=>by
   by_cases hs:b=s.heap.objs.size
   ·rw [hs] at eb ⊢
    rw [eo1] at eb
    cases eb
    exact eo
   ·refine q3 b u hb ?_
    rcases Heap.get?_push_cases eb with z|z
    ·exact absurd z.1 hs
    ·exact z) ⟨_,q1⟩ (M3 q1 h2 h3 h4)
 ·obtain⟨vs,h1,h2,h3⟩:=Jq I e
  obtain⟨z,mA,hn,hr,wi⟩:=ax9 I ed
  refine ap0 (ns:=fs.map (·.1)) I.kIn h1 hn ne c.sa hc hp hd n wi (by rw [ag,bv];omega) fun h' q1 q2 q3=>?_
  refine h _ _ ?_ hN
  refine I.write (x:=dx) (e:=dx) (by rw [ed];exact bH) (.inl rfl) (fun b q hb z=>(q3.2 b hb).trans z) (let ⟨o,_,_,e',_⟩:=q2;⟨o,e'⟩) ?_
  refine ah0 ?_ q2 (fun g=>?_) (fun g hg=>?_)
  ·have:=E3 f y fs;omega
  ·show RelO ((El f y fs).lookup g) (if g=f then some u else mA g)
   rw [E4]
   by_cases q:g=f
   ·rw [if_pos q,if_pos q];exact ry
   ·rw [if_neg q,if_neg q];exact hr g
  ·by_cases q:g=f
   ·rw [q];exact (D9 f y fs).1
   ·refine (D9 f y fs).2 g (wi g fun z=>hg ?_)
    show (if g=f then some u else mA g)=none
    rw [if_neg q];exact z
theorem Inv.madeX (I:Inv X pins σ H s) (C:Addr) (rest:List Value):Inv X pins σ (upd H (s.heap.objs.size+1) (Ep (s.heap.objs.size+1) C none)) { s with heap:=Cm s.heap C rest }:=by
 have hget:(Cm s.heap C rest).get? (s.heap.objs.size+1)=some (Aq C none #[.ref s.heap.objs.size,.none,.none,.none,.bool false,.none]):=by heap_get
 exact I.laid (t':=s.toks) (fun b u e=>af _ (af _ e)) (ce _) (M3 hget rfl rfl rfl)
variable {CX:CXT} {k:Nat} {f:Addr} {fd:aH} {ps:List Str} {sp:Sp} {dvs:List V} {ds us:List Value} {vs:List V} {Q:VK}
theorem Rb (c:ECls X.K C) (hi:findIn X.K (.ref C) "__init__" = some (some (.builtin "ValueError.__init__"))) (I:Inv X pins σ H s) (r:Vals vs us) (hl:vs.length<=1000) (h:∀ a,H a=none->Q (.ref a) (upd H a (Ep a C none))) :
  aG (model X.prog X.w) X.A (call (.ref C) us) (EP X pins σ Q) X.xe s:=by
 obtain⟨nm,q,N,bs,bm,hdct,sn,sub,ab,col,dd,k0,k1,k2,k3,k5,hC,ht,_⟩:=c.obj
 obtain⟨hh,g,d,t,os⟩:=s
 refine dN (Wh ht (I.kIn _ _ hC) (looks_findIn I.kIn hi) (fun h' e M ee=>?_) (by rw [<- r.length,bv];omega))
 subst ee
 obtain⟨kp,_,t0,q1,_,_⟩:=M
 refine⟨.ref (hh.objs.size+1),upd H (hh.objs.size+1) (Ep (hh.objs.size+1) C none),?_,rfl,h _ (I.hok.fresh (ce _))⟩
 exact I.laid (t':=t) kp (ce _) (M3 q1 rfl rfl rfl)
theorem Wz (c:ECls X.K C) (hi:findIn X.K (.ref C) "__init__" = some (some (.ref f))) (hf:isFn X.K (.ref f)=true) (F:FnOk X.prog X.w X.K X.mg X.base CX k f fd ps sp) (hr:Room (k+1) X.A) (hb:Binds X.K fd ps ds) (hd:Vals dvs ds)
  (I:Inv X pins σ H s) (r:Vals vs us) (hl:vs.length<=1000) {EX:XK} (hx:∀ e s1 s' H1,Inv X pins σ H1 s1->CX X.stack H1 s1 EX e s'->X.xe e s')
  (h:∀ a,H a=none->sp (.ref a::(vs++dvs)) (upd H a (Ep a C none)) (fun v H2=>v=.non/\Q (.ref a) H2) EX) :
  aG (model X.prog X.w) X.A (call (.ref C) us) (EP X pins σ Q) X.xe s:=by
 obtain⟨nm,q,N,bs,bm,hdct,sn,sub,ab,col,dd,k0,k1,k2,k3,k5,hC,ht,_⟩:=c.obj
 have hq:=h (s.heap.objs.size+1) (I.hok.fresh (ce _))
 have I2:=I.madeX C us
 have r2:Vals (V.ref (s.heap.objs.size+1)::(vs++dvs)) (aM (s.heap.objs.size+1)::(us++ds)):=.cons rfl (r.append hd)
 have hlen:(aM (s.heap.objs.size+1)::us++ds).length=ps.length:=by
  have e:=r2.length
  rw [F.len _ _ _ _ hq] at e
  exact e.symm
 refine dN (Zv (f:=f) ht (I.kIn _ _ hC) (looks_findIn I.kIn hi) (fun self=>PySem.W.bind_fn I.kIn self (beq_iff_eq.mp hf)) (eU (F.run _ X.stack { s with heap:=Cm s.heap C us } _ ⟨aM (s.heap.objs.size+1)::us,[]⟩ (aM (s.heap.objs.size+1)::(us++ds)) _ _ EX (hr.make C us [])
  (I2.env0.make C us []) (hb _ (aM (s.heap.objs.size+1)::us) I2.kIn hlen) r2 hq) fun r s' hq'=>?_) (by rw [<- r.length,bv];omega))
 cases r with
 | error e=>exact hx e _ s' _ I2 hq'
 | ok fl=>
  cases fl with
  | ret u=>
   obtain⟨v,H',I3,rv,ev,q3⟩:=I2.after hq'
   subst ev
   exact⟨rv,⟨V.ref (s.heap.objs.size+1),H',I3,rfl,q3⟩⟩
  | next=>exact cA hq'
  | brk=>exact cA hq'
  | cont=>exact cA hq'
end
end L2
namespace L2
open PySem PySem.Spec PyProof.Rows
noncomputable def Ite (K:aa) (l:Addr):It:=
  ⟨fun i H=>∃ xs x,SqL K H l xs/\xs[i]? = some x,
   fun i H v H'=>∃ T x,H T=none/\v=.ref T/\(∀ xs,SqL K H l xs->xs[i]? = some x)/\H'=upd H T (.tup [.int i,x]),
   fun i H=>∃ xs,SqL K H l xs/\xs.length<=i⟩
theorem Xa {P:aK} {w:bt} {K:aa} {elts:List Expr} {kt:Nat} {pt:Pos} {e it l:Addr} (ne:e≠it) :
  K3 P w K (.Tuple elts kt pt) (Ite K l) [e,it] e (fun i h=>(∃ old,ke h e it (i:Int) old)/\h.IsListIter it l i) where
 mem:=by simp
 obj:=fun i h st b hb=>by
  obtain⟨⟨old,he⟩,⟨o1,e1,c1,d1⟩⟩:=st
  have hb:b=e\/b=it:=by simpa using hb
  rcases hb with rfl|rfl
  ·exact⟨_,he,fun v q=>nomatch q⟩
  ·exact⟨o1,e1,fun v q=>by rw [d1] at q;cases q⟩
 keep:=fun i h h' st k=>by
  obtain⟨⟨old,he⟩,h1⟩:=st
  exact⟨⟨old,k e (by simp) _ he⟩,h1.at fun o q=>k it (by simp) o q⟩
 item:=by
  intro X hP hw hK hc i pins s σ H E I hf st hg
  subst hP hw hK
  obtain⟨xs,x,q1,hx⟩:=hg
  obtain⟨its1,r1,p1,z1⟩:=I.list q1
  obtain⟨u,hu,ru⟩:=r1.get hx
  obtain⟨⟨old,he⟩,h1⟩:=st
  refine wpAny_pyNext_enum_item he h1 p1.isList (x:=u) (by simpa using hu) ne fun h' a1 a2 a3 a4 hk=>?_
  refine⟨_,rfl,i0 a1 fun h'' hz' hs'=>?_⟩
  have hT:=I.hok.fresh (ae s.heap.objs.size)
  have up':∀ b o,b∉[e,it]->s.heap.get? b=some o->h''.get? b=some o:=fun b o hb q=>by
   have b1:b≠e:=by rintro rfl;exact hb (by simp)
   have b2:b≠it:=by rintro rfl;exact hb (by simp)
   exact hs'.extBut b o b1 (hk b o b1 b2 q)
  have nT:∀ {b o},s.heap.get? b=some o->b≠s.heap.objs.size:=fun q=>aE (au q)
  have Tnew:h''.get? s.heap.objs.size=some { cls:=.type "tuple", data:=.seq #[.int i s.toks,u] }:=hs'.extBut _ _ (bO (nT he)) a3
  have I1:Inv X pins σ (upd H s.heap.objs.size (.tup [.int i,x])) { s with heap:=h'',toks:=s.toks+1 }:=
   I.turnedN (t':=s.toks+1) (ch:=[e,it]) (fun b hb=>hf b hb) up' (ae _) ⟨by show 2<=sizeLine;decide,[.int i s.toks,u],.cons ⟨_,rfl⟩ (.cons ru .nil),⟨_,Tnew,rfl,_,rfl⟩⟩
  refine⟨.ref s.heap.objs.size,_,I1,rfl,⟨s.heap.objs.size,x,hT,rfl,fun xs' h'=>by rw [I.list_inj h' q1];exact hx,rfl⟩,⟨⟨_,hz'⟩,a2.at fun o q=>hs'.extBut _ o (bO ne) q⟩,fun b hb=>?_⟩
  have q:=(hf b hb).1
  rw [Ah ?_]
  ·exact q
  ·have hb:b=e\/b=it:=by simpa using hb
   rcases hb with rfl|rfl
   ·exact nT he
   ·obtain⟨_,q,_⟩:=h1;exact nT q
 done:=by
  intro X hP hw hK hc i pins s σ H E I hf st hg
  subst hP hw hK
  obtain⟨xs,q1,hx⟩:=hg
  obtain⟨its1,r1,p1,z1⟩:=I.list q1
  have e1:=r1.length
  obtain⟨⟨old,he⟩,h1⟩:=st
  refine wpAny_pyNext_enum_end (I.ok.hd hc) he h1 p1.isList (by simp;omega) fun h' hk=>⟨rfl,?_⟩
  refine I.turnedL (t':=s.toks) (ch:=[e,it]) (fun b hb=>hf b hb) fun b o hb q=>?_
  have b2:b≠it:=by rintro rfl;exact hb (by simp)
  exact hk b o b2 q
 self:=fun A i s Q E st h=>let ⟨_,he⟩:=st.1;g8 he h
section
variable {X:Cx} {pins:List (Addr×Obj)} {σ σ0:St} {H H0:Hp} {s s0:ai} {p:Addr} {kvs:List (Key×V)} {o:Obj}
noncomputable def Ve (o:Obj) (ep:Nat):Prop:=∃ es,o.data=.dict es ep
theorem Inv.froze (I:Inv X pins σ H s) (h:H p=some (.dK kvs)):∃ ob ep,s.heap.get? p=some ob/\Ve ob ep/\Inv X pins σ (upd H p (.frz ob (.dK kvs))) s:=by
 have K:=I.hok p _ h
 obtain⟨z,y,vs,r,ob,es,ep,e,c,d,q⟩:=id K
 refine⟨ob,ep,e,⟨es,d⟩,?_⟩
 exact I.write (x:=p) (e:=p) (t':=s.toks) (h':=s.heap) (by rw [h];trivial) (.inl rfl) (fun b u _ q=>q) ⟨ob,e⟩ ⟨e,K⟩
theorem Inv.thaw (I0:Inv X pins σ0 H0 s0) (h0:H0 p=some (.dK kvs)) (I:Inv X pins σ H s) (h:H p=some (.frz o (.dK kvs))):Inv X pins σ (upd H p (.dK kvs)) s:=by
 have ne:∀ b,H b=none->b≠p:=fun b e z=>by rw [z,h] at e;cases e
 have ntup:∀ b xs,H b=some (.tup xs)->b≠p:=fun b xs e z=>by rw [z,h] at e;cases e
 have nown:∀ b c,H b=some (.own c)->b≠p:=fun b c e z=>by rw [z,h] at e;cases e
 refine⟨I.ok,I.os,I.bare,⟨I.base.keep,I.base.slot,fun b ob e n hx=>?_,I.base.there,fun b xs e=>?_,fun b ob u e=>?_,fun b ps e=>?_⟩,I.loc,I.cell,?_,fun x c e=>?_,fun q hq=>?_,fun b u e=>?_,I.len⟩
 ·have q:=I.base.free b ob e n hx
  rw [Ah (ne b q)];exact q
 ·have q:=I.base.tups b xs e
  rw [Ah (ntup b xs q)];exact q
 ·have q:=I.base.frzs b ob u e
  have n:b≠p:=fun z=>by
   have q0:=I0.base.frzs b ob u e
   rw [z,h0] at q0;cases q0
  rw [Ah n];exact q
 ·obtain⟨more,q⟩:=I.base.tbls b ps e
  have n:b≠p:=fun z=>by rw [z,h] at q;cases q
  exact⟨more,by rw [Ah n];exact q⟩
 ·rw [Ah (ne _ I.free)];exact I.free
 ·have q:=I.freeC x c e
  rw [Ah (ne _ q)];exact q
 ·obtain⟨a,b,c⟩:=I.pin q hq
  exact⟨a,by rw [Ah (ne _ b)];exact b,c⟩
 ·by_cases z:b=p
  ·subst z
   rw [Ad] at e
   cases e
   exact (I.hok b _ h).2
  ·rw [Ah z] at e
   exact (I.hok b u e).stay (fun _ _ _ q=>q) (fun c q=>by rw [Ah (nown c b q)];exact q) fun c xs q=>by rw [Ah (ntup c xs q)];exact q
theorem Thaw.inv {P:Hp->Prop} (I0:Inv X pins σ0 H0 s0) (I:Inv X pins σ H s) (t:Thaw H0 H P):∃ H',Inv X pins σ H' s/\P H':=by
 rcases t with t|⟨p,o,kvs,h0,h,t⟩
 ·exact⟨H,I,t⟩
 ·exact⟨_,I0.thaw h0 I h,t⟩
theorem Inv.kdict (I:Inv X pins σ H s) (h:H p=some (.frz o (.dK kvs))) {ep:Nat} (he:Ve o ep):∃ vs,KV kvs vs/\s.heap.DictAt (Ap X.prog X.w) p vs ep/\(p==c4)=false:=by
 obtain⟨e1,z,y,vs,r,ob,es,ep',e,c,d,q⟩:=I.hok p _ h
 obtain⟨es',d'⟩:=he
 rw [e1] at e
 cases e
 have d2:=d
 rw [d'] at d2
 cases d2
 exact⟨vs,r,⟨o,_,e1,c,d,q⟩,y⟩
end
noncomputable def Itd (p:Addr) (o:Obj) (kvs:List (Key×V)):It:=
 ⟨fun i H=>H p=some (.frz o (.dK kvs))/\i<kvs.length,fun i H x H'=>H'=H /\ ∃ k v,kvs[i]? = some (k,v)/\x=kV k,fun i H=>H p=some (.frz o (.dK kvs))/\kvs.length<=i⟩
theorem Zq:∀ {kvs:List (Key×V)} {vs:List (Key×Value)} {i:Nat} {k:Key} {v:V},KV kvs vs->kvs[i]? = some (k,v) -> ∃ u,vs[i]? = some (k,u)/\RelV v u
 | _,_,0,k,v,.cons (b:=q) r _,e=>by
  simp only [dw,jr] at e
  subst e
  exact⟨q.2,congrArg some (Prod.ext r.1.symm rfl),r.2⟩
 | _,_,i+1,k,v,.cons r t,e=>by
  simp only [bD] at e ⊢
  exact Zq t e
theorem at6 {P:aK} {w:bt} {k:Key} {u:Value} (h:(Ap P w).is k u=true):RelV (kV k) u:=by
 cases k with
 | inl i=>obtain⟨t,rfl⟩:=Value.isInt_shape (show mQ i u=true from h);exact⟨t,rfl⟩
 | inr z=>obtain⟨t,rfl⟩:=gA (show iE z u=true from h);exact⟨t,rfl⟩
theorem W9 {P:aK} {w:bt} {K:aa} {tg:Expr} (p it:Addr) (o:Obj) (kvs:List (Key×V)) {ep:Nat} (he:Ve o ep):K3 P w K tg (Itd p o kvs) [it] it (fun i h=>h.IsKeyIter it p i kvs.length ep) where
 mem:=by simp
 obj:=fun i h st b hb=>by
  have e:b=it:=by simpa using hb
  subst e
  obtain⟨o,e,c,d⟩:=st
  exact⟨o,e,fun v z=>by rw [d] at z;cases z⟩
 keep:=fun i h h' st k=>st.at fun o e=>k it (by simp) o e
 item:=by
  intro X hP hw hK hc i pins s σ H E I hf st hg
  subst hP hw hK
  obtain⟨hH,hi⟩:=hg
  obtain⟨vs,rel,hd,hm⟩:=I.kdict hH he
  obtain⟨f0,f1,f2,f3,f4,f5⟩:=hf it (by simp)
  obtain⟨⟨k,v⟩,hx⟩:∃ q,kvs[i]? = some q:=⟨kvs[i],by simp [hi]⟩
  obtain⟨u,hu,_⟩:=Zq rel hx
  have hl:kvs.length=vs.length:=rel.length
  rw [hl] at st
  refine j8 st hd hu fun key h' hk st' sb=>?_
  have I1:Inv X pins σ H { s with heap:=h' }:=I.turned (t':=s.toks) (fun b o hb e=>sb.extBut b o hb e) f0 f1 f3 f4 f5
  obtain⟨o1,e,c,d⟩:=id st'
  exact⟨key,rfl,Ju (s:={ s with heap:=h' }) e c d (by decide) ⟨kV k,H,I1,at6 hk,⟨rfl,k,v,hx,rfl⟩,by rw [hl];exact st',fun b hb=>(hf b hb).1⟩⟩
 done:=by
  intro X hP hw hK hc i pins s σ H E I hf st hg
  subst hP hw hK
  obtain⟨hH,hi⟩:=hg
  obtain⟨vs,rel,hd,hm⟩:=I.kdict hH he
  obtain⟨f0,f1,f2,f3,f4,f5⟩:=hf it (by simp)
  have hl:kvs.length=vs.length:=rel.length
  rw [hl] at st
  exact wpAny_pyNext_dict_end (I.ok.hd hc) st hd (by simp;omega) fun h' eb=>⟨rfl,I.turned (t':=s.toks) (fun b o hb e=>eb b o hb e) f0 f1 f3 f4 f5⟩
 self:=fun _ _ _ _ _ st h=>wpAny_pyIter_keyiter st h
theorem ai3 {X:Cx} {tg:Expr} {pins:List (Addr×Obj)} {σ:St} {H:Hp} {s:ai} {R:It->Hp->Prop} {E:Value->ai->Prop} {p:Addr} {o:Obj} {kvs:List (Key×V)} (I:Inv X pins σ H s) (h:H p=some (.frz o (.dK kvs)))
  (q:R (Itd p o kvs) H):aG (model X.prog X.w) X.A (mT (.ref p)) (PIE X pins σ tg R) E s:=by
 have he:∃ ep,Ve o ep:=by
  obtain⟨e1,z,y,vs,r,ob,es,ep,e,c,d,_⟩:=I.hok p _ h
  rw [e1] at e;cases e
  exact⟨ep,es,d⟩
 obtain⟨ep,he⟩:=he
 obtain⟨vs,rel,hd,hm⟩:=I.kdict h he
 refine fZ hm hd ?_
 refine⟨s.heap.objs.size,[s.heap.objs.size],_,_,H,rfl,I.kept (t':=s.toks) fun b o e=>af _ e,W9 p _ o kvs he,⟨_,aq _ rfl,rfl,by rw [rel.length];rfl⟩,fun b hb=>?_,q⟩
 have e:b=s.heap.objs.size:=by simpa using hb
 subst e
 exact I.fpOk (ae _) (I.hok.fresh (ae _))
end L2
namespace PySem
theorem Sem.wp_never {α:Type} (M:nG) (Γ:Ctx):∀ (t:Sem α) (p:Pos) (s:ai),Sem.wp M Γ t (fun _ _ _=>False) (fun _ _ _=>False) p s->False:=by
 intro t
 induction t with
 | pure a=>intro p s h;exact h
 | raise e=>intro p s h;exact h
 | unsupported w=>intro p s h;exact h
 | finish e=>intro p s h;exact h
 | rule tag k ih=>intro p s h;exact ih () p s h
 | «at» q k ih=>intro p s h;exact ih () q s h
 | load a part k ih=>intro p s h;obtain⟨o,_,h⟩:=h;exact ih o p s h
 | update a part f k ih=>intro p s h;exact ih () p _ h.2
 | alloc o k ih=>intro p s h;exact ih _ p _ h
 | loadIfAlive a k ih=>intro p s h;exact ih _ p s h
 | point l k ih=>intro p s h;exact ih () p s h
 | register a k ih=>intro p s h;exact h
 | fresh k ih=>intro p s h;exact ih _ p _ h
 | ask k ih=>intro p s h;exact ih _ p s h
 | choose src n k ih=>intro p s h;exact ih _ p _ h.2
 | os q l k ih=>intro p s h;exact ih _ p _ h
 | call c hd g l k ih=>intro p s h;obtain⟨r,s',_,h⟩:=h;exact ih r p s' h
 | handled own k ih=>intro p s h;exact ih _ p s h
 | newGen c k ih=>intro p s h;exact ih _ p _ h
 | genState g k ih=>intro p s h;obtain⟨st,_,h⟩:=h;exact ih _ p s h
 | resume g r l k ih=>intro p s h;obtain⟨res,s',_,h⟩:=h;exact ih res p s' h
 | yield v g l k ih=>intro p s h;exact h
 | stack k ih=>intro p s h;exact ih _ p s h
 | fork c k ih=>intro p s h;exact h
 | thread k ih=>intro p s h;first|exact ih _ p s h|exact h
 | await a tk d l k ih=>intro p s h;first|exact h|exact ih _ p s h
section
variable {prog:aK} {w:bt} {A:bg} {E:Value->ai->Prop} {s:ai}
theorem Wo {v:Value} {P:Value->ai->Prop} (h:aG (model prog w) A (i7 v) (fun r s'=>∃ u,r=some u/\P u s') (fun _ _=>False) s):aG (model prog w) A (bK v) P E s:=by
 intro Γ p hΓ
 have h:=h Γ p hΓ
 unfold i7 Sem.attempt at h
 unfold bK
 rw [mw,Sem.wp_tryCatch,Sem.wp_bind] at h
 rw [mw]
 refine Sem.wp_mono _ _ _ (fun o p' s' q=>?_) (fun e p' s' q=>?_) p s h
 ·cases o with
  | none=>exact (show False from q).elim
  | some u=>
   obtain⟨u',e,q⟩:=q
   cases e
   exact q
 ·refine (Sem.wp_never (model prog w) Γ (gZ e (.type "StopIteration")) p' s' ?_).elim
  have q:Sem.wp (model prog w) Γ (gZ e (.type "StopIteration") >>= fun b=>if b=true then pure none else throw e) (fun r _ s'=>∃ u,r=some u/\P u s') (fun _ _ _=>False) p' s':=q
  rw [mw] at q
  refine Sem.wp_mono _ _ _ (fun b p2 s2 q=>?_) (fun _ _ _ z=>z) p' s' q
  cases b with
  | true=>obtain⟨u,z,_⟩:=q;cases z
  | false=>exact q
variable {κ:Type} [DecidableEq κ] {knd:KeyKind prog w κ} {d it:Addr} {ep i:Nat} {kvs:List (κ×Value)}
theorem Io {Q:Value->ai->Prop} (hh:A.handled=none) (hit:s.heap.IsKeyIter it d i kvs.length ep) (hm:s.heap.DictAt knd d kvs ep) (hx:kvs[i]? = none)
  (hE:∀ h' x,Heap.ExtBut it s.heap h'->(∃ o,h'.get? x=some o/\o.cls=.type "StopIteration")->E (.ref x) { s with heap:=h' }):aG (model prog w) A (bK (.ref it)) Q E s:=by
 have ⟨oi,ei,ci,di⟩:=hit
 have ⟨od,es,ed,_,dd,_,pr,_⟩:=hm
 have size:es.size=kvs.length:=pr.length▸(by simp)
 have past:es.size<=i:=by rw [size];simpa using hx
 have own:Builtin.Dict_items.ownsTuple "dict_keyiterator" = false:=by decide
 have nx:¬ ((i:Int)<0):=by omega
 have noNone:¬ ((aM d==bh)=true):=ak
 unfold bK
 refine ac (cE (name:=cr "__next__") hit.typeIs iz (cI iz hit.typeIs F.entry_dict_keyiterator_next ?_ (F.args_dict_keyiterator_next_1 _)))
 refine ac (ah (ac (ac ?_)))
 first|refine ac (ip hit.typeIs (ah (ac (jh ei di ?_))))|refine ac (jy hit.typeIs (ah (ac (jh ei di ?_))))
 simp only [own,cf,if_false]
 show aG _ _ (if (aM d==bh)=true then _ else _) _ _ s
 rw [if_neg noNone]
 refine ac (ah (ac (wpAny_dictEntries ed dd ?_)))
 rw [if_neg (show ¬ _ by rw [size];simp)]
 refine ac (ah (ac (wpAny_dictEpoch ed dd ?_)))
 rw [if_neg (show ¬ _ by simp)]
 refine ah ?_
 simp only [nx,if_false,bW,gP past]
 refine ac ?_
 first|refine ac (ip hit.typeIs (ah ?_))|refine ac (jy hit.typeIs (ah ?_))
 show aG _ _ (jL (.ref it) 0 .none >>= fun _=>newExc (.type "StopIteration") [] >>= _) _ _ s
 refine ac (cG ei di (by simp) (ac ?_))
 simp only [newExc,newTuple]
 refine ac (b0 (ac (m:=jc _ _) (lJ (a:=bh) (by first|rfl|(simp only [jc];rfl)) (b0 ?_ (by size_fits)))) (by size_fits))
 simp only [mJ]
 refine ac (md ?_)
 rw [show A.in1.handled=none from hh]
 refine ac (ah (lK ?_))
 exact hE _ _ (((bB ..).extBut.push _).push _) ⟨_,aq _ rfl,rfl⟩
theorem Ht {k:κ} {v:Value} {Q:Value->ai->Prop} (hit:s.heap.IsKeyIter it d i kvs.length ep) (hm:s.heap.DictAt knd d kvs ep) (hx:kvs[i]? = some (k,v))
  (hQ:∀ key h',knd.is k key=true->h'.IsKeyIter it d (i+1) kvs.length ep->a9 it s.heap h'->Q key { s with heap:=h' }):aG (model prog w) A (bK (.ref it)) Q E s:=
 Wo (j8 hit hm hx fun key h' a b c=>⟨key,rfl,hQ key h' a b c⟩)
theorem Vv {e:Addr} {old:Value} {J:Value->Heap->Prop} {Q:Value->ai->Prop} (he:ke s.heap e it i old) (hne:e≠it)
  (nx:∀ (A:bg) (P:Value->ai->Prop) (E:Value->ai->Prop),(∀ x h1,J x h1->a9 it s.heap h1->P x { s with heap:=h1 })->aG (model prog w) A (bK (.ref it)) P E s)
  (hJ:∀ x h1 h2,J x h1->(∀ o,h1.get? it=some o->h2.get? it=some o)->J x h2)
  (hQ:∀ x h',IsEnumOut h' e it ((i:Int)+1) x s.heap.objs.size->J x h'->h'.get? s.heap.objs.size=some { cls:=.type "tuple", data:=.seq #[.int i s.toks,x] } ->
   (∀ b o,b≠e->b≠it->s.heap.get? b=some o->h'.get? b=some o)->Q (.ref s.heap.objs.size) { s with heap:=h',toks:=s.toks+1 }) :
  aG (model prog w) A (aT.«enumerate.__next__» ⟨[.ref e],[]⟩) (fun fin s'=>∃ v,fin=.done (.ret v)/\Q v s') E s:=by
 have lt:e<s.heap.objs.size:=au he
 obtain⟨h0,gs,dr,tk,ops⟩:=s
 show aG _ _ (field (.ref e) 2 >>= fun z=>bK z >>= _) _ _ _
 refine ac (b_ he rfl (x:=.ref it) rfl (ac (nx _ _ _ fun x h1 j1 s1=>?_)))
 have k1:a9 it h0 h1:=s1
 have e1:ke h1 e it i old:=(k1.2 e hne).trans he
 refine ac (b_ (s:=⟨h1,gs,dr,tk,ops⟩) e1 rfl (x:=dZ i) rfl ?_)
 refine ac (m:=field (.ref e) 4) (b_ (s:=⟨h1,gs,dr,tk,ops⟩) e1 rfl (x:=.none) rfl ?_)
 show aG _ _ (mkInt i >>= _) _ _ ⟨h1,gs,dr,tk,ops⟩
 refine ac (wpAny_mkInt ?_)
 show aG _ _ (jL (.ref e) 3 (dZ ((i:Int)+1)) >>= fun _=>jL (.ref e) 4 .none >>= _) _ _ ⟨h1,gs,dr,tk+1,ops⟩
 refine ac (fI e1 (by simp) fun h2 e2 s2=>ac (fI (s:=⟨h2,gs,dr,tk+1,ops⟩) (show ke h2 e it ((i:Int)+1) old from e2) (by simp) fun h3 e3 s3=>?_))
 have k2:a9 e h1 h2:=s2
 have k3:a9 e h2 h3:=s3
 have e3:ke h3 e it ((i:Int)+1) old:=e3
 show aG _ _ (newTuple [.int i tk,x] >>= _) _ _ ⟨h3,gs,dr,tk+1,ops⟩
 refine ac (g9 ?_)
 have size:h3.objs.size=h0.objs.size:=by rw [k3.1,k2.1,k1.1]
 have up:∃ h4:Heap,h4=h3.push { cls:=.type "tuple", data:=.seq #[.int i tk,x] }:=⟨_,rfl⟩
 obtain⟨h4,eh4⟩:=up
 rw [<- eh4]
 have e4:ke h4 e it ((i:Int)+1) old:=by rw [eh4];exact af _ e3
 have t4:h4.get? h0.objs.size=some { cls:=.type "tuple", data:=.seq #[.int i tk,x] }:=by rw [eh4,<- size];exact aq _ rfl
 have j4:J x h4:=hJ x h1 h4 j1 fun o q=>by rw [eh4];exact af _ (k3.extBut it o (bO hne) (k2.extBut it o (bO hne) q))
 have all4:∀ b o,b≠e->b≠it->h0.get? b=some o->h4.get? b=some o:=fun b o b1 b2 q=>by
  rw [eh4]
  exact af _ (k3.extBut b o b1 (k2.extBut b o b1 (k1.extBut b o b2 q)))
 show aG _ _ (gq (.ref e) >>= _) _ _ ⟨h4,gs,dr,tk+1,ops⟩
 rw [size]
 refine ac ?_
 unfold gq
 refine ac (b_ e4 rfl (x:=.none) rfl (ah ?_))
 simp only [if_true]
 refine ac (gG (ac (b_ e4 rfl (x:=old) rfl (ac (fI e4 (by simp) fun h5 e5 s5=>?_)))))
 have e5:ke h5 e it ((i:Int)+1) x:=e5
 have k5:a9 e h4 h5:=s5
 show aG _ _ (f9 (.ref e) (.ref h0.objs.size) >>= _) _ _ ⟨h5,gs,dr,tk+1,ops⟩
 refine ac ?_
 unfold f9
 refine ac (fI e5 (by simp) fun h6 e6 s6=>fI (s:=⟨h6,gs,dr,tk+1,ops⟩) (show IsEnumOut h6 e it ((i:Int)+1) x h0.objs.size from e6) (by simp) fun h7 e7 s7=>?_)
 have k6:a9 e h5 h6:=s6
 have k7:a9 e h6 h7:=s7
 have on:∀ b o,b≠e->h4.get? b=some o->h7.get? b=some o:=fun b o n q=>k7.extBut b o n (k6.extBut b o n (k5.extBut b o n q))
 exact ac (m_ (ah ⟨_,rfl,hQ x h7 e7 (hJ x h4 h7 j4 fun o q=>on it o (bO hne) q) (on _ _ (dz lt) t4) fun b o b1 b2 q=>on b o b1 (all4 b o b1 b2 q)⟩))
theorem J9 {e:Addr} {old:Value} {J:Value->Heap->Prop} {Q:Option Value->ai->Prop} (he:ke s.heap e it i old) (hne:e≠it)
  (nx:∀ (A:bg) (P:Value->ai->Prop) (E:Value->ai->Prop),(∀ x h1,J x h1->a9 it s.heap h1->P x { s with heap:=h1 })->aG (model prog w) A (bK (.ref it)) P E s)
  (hJ:∀ x h1 h2,J x h1->(∀ o,h1.get? it=some o->h2.get? it=some o)->J x h2)
  (hQ:∀ x h',IsEnumOut h' e it ((i:Int)+1) x s.heap.objs.size->J x h'->h'.get? s.heap.objs.size=some { cls:=.type "tuple", data:=.seq #[.int i s.toks,x] } ->
   (∀ b o,b≠e->b≠it->s.heap.get? b=some o->h'.get? b=some o)->Q (some (.ref s.heap.objs.size)) { s with heap:=h',toks:=s.toks+1 }):aG (model prog w) A (i7 (.ref e)) Q E s:=by
 have ty:s.TypeIs (.ref e) "enumerate" := ⟨_,he,rfl⟩
 unfold i7
 exact ac (fq (cE (name:=cr "__next__") ty fN (cI fN ty jW (Vv he hne nx hJ fun x h' a b c d=>ah (hQ x h' a b c d)) (jA _))))
theorem Hy {e:Addr} {old:Value} {Q:Option Value->ai->Prop} (hh:A.handled=none) (he:ke s.heap e it i old) (hit:s.heap.IsKeyIter it d i kvs.length ep) (hm:s.heap.DictAt knd d kvs ep) (hx:kvs[i]? = none)
  (hQ:∀ h',Heap.ExtBut it s.heap h'->Q none { s with heap:=h' }):aG (model prog w) A (i7 (.ref e)) Q E s:=by
 have ty:s.TypeIs (.ref e) "enumerate" := ⟨_,he,rfl⟩
 unfold i7
 refine ac (fq (cE (name:=cr "__next__") ty fN (cI fN ty jW ?_ (jA _))))
 show aG _ _ (field (.ref e) 2 >>= fun z=>bK z >>= _) _ _ _
 refine ac (b_ he rfl (x:=.ref it) rfl (ac (Io hh hit hm hx fun h' x hk ⟨o,ho,hc⟩=>?_)))
 exact ac (im (T := "StopIteration") (b:=true) ⟨o,ho,hc⟩ isSubtype_stop (ah (hQ _ hk)))
theorem Pw {Q:Value->ai->Prop} (hd:(d==c4)=false) (hm:s.heap.DictAt knd d kvs ep)
  (h:∀ h',ke h' (s.heap.objs.size+1) s.heap.objs.size 0 .none->h'.IsKeyIter s.heap.objs.size d 0 kvs.length ep->(∀ b o,s.heap.get? b=some o->h'.get? b=some o)->Q (.ref (s.heap.objs.size+1)) { s with heap:=h' }) :
  aG (model prog w) A (call (.type "enumerate") [.ref d]) Q E s:=by
 have g:MeetsIn prog w (aT.«enumerate.__new__» ⟨[.type "enumerate", .ref d],[]⟩) (fun _ R s=>s.heap.DictAt knd d kvs ep /\
   R (.ok (.ret (.ref (s.heap.objs.size+1)))) { s with heap:=(s.heap.push { cls:=.type "dict_keyiterator", data:=.fields #[.ref d,.int 0 0,.int kvs.length 0,.int ep 0] }).push { cls:=.type "enumerate", data:=.fields #[.none,.bool false,.ref s.heap.objs.size,dZ 0,.none,.none] } }):=by
  refine .of_wp fun A R s h=>?_
  obtain⟨hp,g,d',tk,os⟩:=s
  obtain⟨hm,h⟩:=h
  have hsub:=sub_enumerate
  obtain⟨o,es,ho,hcl,hdat,q⟩:=id hm
  have hz:(hp.push { cls:=.type "dict_keyiterator", data:=.fields #[.ref d,.int 0 0,.int kvs.length 0,.int ep 0] }).objs.size=hp.objs.size+1:=cx ..
  wp_walk using fZ hd hm
  refine wpAny_stack_any fun st=>ah ?_
  have h2:R (.ok (.ret (.ref (hp.push { cls:=.type "dict_keyiterator", data:=.fields #[.ref d,.int 0 0,.int kvs.length 0,.int ep 0] }).objs.size))) ⟨(hp.push { cls:=.type "dict_keyiterator", data:=.fields #[.ref d,.int 0 0,.int kvs.length 0,.int ep 0] }).push { cls:=.type "enumerate", data:=.fields #[.none,.bool false,.ref hp.objs.size,dZ 0,.none,.none] },g,d',tk,os⟩:=by rw [hz];exact h
  split
  ·rename_i c _ _ _ _ _
   cases (c==cZ "enumerate")
   ·wp_walk using fZ hd hm
    exact⟨_,rfl,h2⟩
   ·wp_walk using fZ hd hm
    exact⟨_,rfl,h2⟩
  ·wp_walk using fZ hd hm
   exact⟨_,rfl,h2⟩
 refine callType_newIn F.called_enumerate (by decide) (F.typeCall_enumerate_1 _) (F.newCall_enumerate_1 _) (fun obj=>F.args_object_init_2 obj _) F.entry_enumerate_new g ⟨hm,?_⟩
 have hz:(s.heap.push { cls:=.type "dict_keyiterator", data:=.fields #[.ref d,.int 0 0,.int kvs.length 0,.int ep 0] }).objs.size=s.heap.objs.size+1:=cx ..
 have he:ke ((s.heap.push { cls:=.type "dict_keyiterator", data:=.fields #[.ref d,.int 0 0,.int kvs.length 0,.int ep 0] }).push { cls:=.type "enumerate", data:=.fields #[.none,.bool false,.ref s.heap.objs.size,dZ 0,.none,.none] }) (s.heap.objs.size+1) s.heap.objs.size 0 .none:=hz▸aq _ rfl
 exact⟨⟨_,he,rfl⟩,h _ he ⟨_,af _ (aq _ rfl),rfl,rfl⟩ fun b o x=>af _ (af _ x)⟩
end
end PySem
namespace L2
open PySem PySem.Spec PyProof.Rows
noncomputable def ay4 (p:Addr) (o:Obj) (kvs:List (Key×V)):It:=
  ⟨fun i H=>H p=some (.frz o (.dK kvs))/\i<kvs.length,
   fun i H x H'=>∃ T k v,H T=none/\x=.ref T/\kvs[i]? = some (k,v)/\H'=upd H T (.tup [.int i,kV k]),
   fun i H=>H p=some (.frz o (.dK kvs))/\kvs.length<=i⟩
theorem Sv {P:aK} {w:bt} {K:aa} {elts:List Expr} {kt:Nat} {pt:Pos} {e it p:Addr} {o:Obj} {kvs:List (Key×V)} {ep:Nat} (ne:e≠it) (he:Ve o ep) :
  K3 P w K (.Tuple elts kt pt) (ay4 p o kvs) [e,it] e (fun i h=>(∃ old,ke h e it (i:Int) old)/\h.IsKeyIter it p i kvs.length ep) where
 mem:=by simp
 obj:=fun i h st b hb=>by
  obtain⟨⟨old,he⟩,⟨o1,e1,c1,d1⟩⟩:=st
  rcases List.mem_cons.mp hb with rfl|hb
  ·exact⟨_,he,fun v q=>nomatch q⟩
  ·rw [List.mem_singleton.mp hb];exact⟨o1,e1,fun v q=>by rw [d1] at q;cases q⟩
 keep:=fun i h h' st k=>let ⟨⟨old,he⟩,h1⟩:=st;⟨⟨old,k e (by simp) _ he⟩,h1.at fun o q=>k it (by simp) o q⟩
 item:=by
  intro X hP hw hK hc i pins s σ H E I hf st hg
  subst hP hw hK
  obtain⟨hH,hi⟩:=hg
  obtain⟨vs,rel,hd,hm⟩:=I.kdict hH he
  obtain⟨⟨k,v⟩,hx⟩:∃ q,kvs[i]? = some q:=⟨kvs[i],by simp [hi]⟩
  obtain⟨u,hu,_⟩:=Zq rel hx
  have hl:kvs.length=vs.length:=rel.length
  obtain⟨⟨old,en⟩,h1⟩:=st
  rw [hl] at h1
  refine J9 en ne (J:=fun x h=>(Ap X.prog X.w).is k x=true/\h.IsKeyIter it p (i+1) vs.length ep) (fun A P E hQ=>Ht h1 hd hu fun key h' a b c=>hQ key h' ⟨a,b⟩ c) (fun x h1 h2 j k=>⟨j.1,j.2.at k⟩) fun key h' a1 ⟨hk,a2⟩ a3 hk'=>?_
  refine⟨_,rfl,i0 a1 fun h'' hz' hs'=>?_⟩
  have hT:=I.hok.fresh (ae s.heap.objs.size)
  have nT:∀ {b ob},s.heap.get? b=some ob->b≠s.heap.objs.size:=fun q=>aE (au q)
  have up:∀ b ob,b∉[e,it]->s.heap.get? b=some ob->h''.get? b=some ob:=fun b ob hb q=>by
   have b1:b≠e:=by rintro rfl;exact hb (by simp)
   have b2:b≠it:=by rintro rfl;exact hb (by simp)
   exact hs'.extBut b ob b1 (hk' b ob b1 b2 q)
  have Tnew:h''.get? s.heap.objs.size=some { cls:=.type "tuple", data:=.seq #[.int i s.toks,key] }:=hs'.extBut _ _ (bO (nT en)) a3
  have I1:Inv X pins σ (upd H s.heap.objs.size (.tup [.int i,kV k])) { s with heap:=h'',toks:=s.toks+1 }:=
   I.turnedN (t':=s.toks+1) (ch:=[e,it]) (fun b hb=>hf b hb) up (ae _) ⟨by show 2<=sizeLine;decide,[.int i s.toks,key],.cons ⟨_,rfl⟩ (.cons (at6 hk) .nil),⟨_,Tnew,rfl,_,rfl⟩⟩
  refine⟨.ref s.heap.objs.size,_,I1,rfl,⟨s.heap.objs.size,k,v,hT,rfl,hx,rfl⟩,⟨⟨_,hz'⟩,by rw [hl];exact a2.at fun o q=>hs'.extBut _ o (bO ne) q⟩,fun b hb=>?_⟩
  have q:=(hf b hb).1
  rw [Ah ?_]
  ·exact q
  ·rcases List.mem_cons.mp hb with rfl|hb
   ·exact nT en
   ·rw [List.mem_singleton.mp hb];obtain⟨_,q,_⟩:=h1;exact nT q
 done:=by
  intro X hP hw hK hc i pins s σ H E I hf st hg
  subst hP hw hK
  obtain⟨hH,hi⟩:=hg
  obtain⟨vs,rel,hd,hm⟩:=I.kdict hH he
  have hl:kvs.length=vs.length:=rel.length
  obtain⟨⟨old,en⟩,h1⟩:=st
  rw [hl] at h1
  refine Hy (I.ok.hd hc) en h1 hd (by simp;omega) fun h' hk=>⟨rfl,?_⟩
  refine I.turnedL (t':=s.toks) (ch:=[e,it]) (fun b hb=>hf b hb) fun b o hb q=>hk b o (by rintro rfl;exact hb (by simp)) q
 self:=fun A i s Q E st h=>let ⟨_,he⟩:=st.1;g8 he h
theorem Y2 {X:Cx} {elts:List Expr} {kt:Nat} {pt:Pos} {pins:List (Addr×Obj)} {σ:St} {H:Hp} {s:ai} {R:It->Hp->Prop} {E:Value->ai->Prop} {p:Addr} {o:Obj} {kvs:List (Key×V)} (I:Inv X pins σ H s) (h:H p=some (.frz o (.dK kvs)))
  (q:R (ay4 p o kvs) H):aG (model X.prog X.w) X.A (call (.type "enumerate") [.ref p]) (fun v s1=>aG (model X.prog X.w) X.A (mT v) (PIE X pins σ (.Tuple elts kt pt) R) E s1) E s:=by
 have he:∃ ep,Ve o ep:=by
  obtain⟨e1,z,y,vs,r,ob,es,ep,e,c,d,_⟩:=I.hok p _ h
  rw [e1] at e;cases e
  exact⟨ep,es,d⟩
 obtain⟨ep,he⟩:=he
 obtain⟨vs,rel,hd,hm⟩:=I.kdict h he
 refine Pw hm hd fun h' en hit hk=>g8 en ?_
 refine⟨_,_,_,_,H,rfl,I.kept (t':=s.toks) hk,Sv (jN _) he,⟨⟨_,en⟩,by rw [rel.length];exact hit⟩,fun b hb=>?_,q⟩
 have hb:b=s.heap.objs.size+1\/b=s.heap.objs.size:=by simpa using hb
 have le:s.heap.objs.size<=b:=hb.elim (fun e=>e▸bi _ 1) fun e=>e▸ae _
 exact I.fpOk le (I.hok.fresh le)
end L2
namespace PySem
open PyProof.Rows
section
variable {κ:Type} [DecidableEq κ]
noncomputable def Dr (xs:List κ):List κ:=xs.foldl (fun σ k=>if σ.any (fun j=>decide (j=k)) then σ else σ++[k]) []
theorem Hr (xs:List κ) (k:κ):Dr (xs++[k])=if (Dr xs).any (fun j=>decide (j=k)) then Dr xs else Dr xs++[k]:=by
 unfold Dr
 rw [List.foldl_append]
 rfl
theorem Zy (xs:List κ) (k j:κ):(Dr (xs++[k])).any (fun i=>decide (i=j))=((Dr xs).any (fun i=>decide (i=j))||decide (j=k)):=by
 rw [Hr]
 by_cases h:(Dr xs).any (fun i=>decide (i=k))=true
 ·rw [if_pos h]
  by_cases e:j=k
  ·subst e;rw [h];rfl
  ·simp [e]
 ·rw [if_neg h,List.any_append]
  congr 1
  simp [eq_comm]
theorem Oq (xs:List κ):(Dr xs).length<=xs.length:=by
 have:∀ (ys acc:List κ),(ys.foldl (fun σ k=>if σ.any (fun j=>decide (j=k)) then σ else σ++[k]) acc).length<=acc.length+ys.length:=by
  intro ys
  induction ys with
  | nil=>intro acc;exact ae _
  | cons y ys ih=>
   intro acc
   refine aS (ih _) ?_
   rw [aR]
   dsimp only
   split
   ·omega
   ·rw [aI,cq];omega
 exact aS (this xs []) (by simp)
end
section
variable {prog:aK} {w:bt} {A:bg} {R:kY->ai->Prop} {I:Addr} {fp wr:List Addr} {G:Array i3->Array i3->Prop} {P:Nat->Value->Prop} {St:Nat->ai->Prop} {κ:Type} [DecidableEq κ] {knd:KeyKind prog w κ} {ks:List κ}
end
section
variable {prog:aK} {w:bt} {A:bg} {E:Value->ai->Prop} {s:ai} {κ:Type} [DecidableEq κ] {knd:KeyKind prog w κ} {ks:List κ}
noncomputable abbrev Ch (led:Bool):Obj:={ cls:=.type "set", dict:=none,data:=.set #[] 0 (.fresh 0 0 led) }
end
end PySem
namespace L2
open PySem PySem.Spec PyProof.Rows
section
variable {X:Cx} {e:Expr} {de:DE} {p p2 pos pos2:Pos}
theorem U9:∀ {ys:List Str} {us:List Value} {i:Nat} {v:Value},Vals (ys.map V.str) us->us[i]? = some v -> ∃ k t,ys[i]? = some k/\v=.str k t
 | [],_,i,v,r,e=>by rw [hW] at r;cases r;simp at e
 | y::ys,_,i,v,r,e=>by
  rw [aP] at r
  cases r with
  | cons r1 r2=>
   obtain⟨t,rfl⟩:=r1
   cases i with
   | zero=>simp only [dw,jr] at e;exact⟨y,t,rfl,e.symm⟩
   | succ i=>simp only [bD] at e ⊢;exact U9 r2 e
end
section
variable {X:Cx}
noncomputable def au8 (K:aa):R2:=fun x y H Q=>∃ a b ys,x=.ref a/\y=.ref b/\SqT K H a []/\SqT K H b ys/\Q (.ref b) H
theorem al1:OpR X (gn .Add) (au8 X.K):=by
 intro pins s σ H x y v u Q I rx ry h
 obtain⟨a,b,ys,rfl,rfl,ha,hb,q⟩:=h
 cases rx
 cases ry
 obtain⟨its,r1,p1,_⟩:=I.tuple ha
 obtain⟨its2,r2,p2,_⟩:=I.tuple hb
 cases r1
 obtain⟨⟨c1,d1,da1,s1⟩,ho,hc,n,hd⟩:=id p1
 obtain⟨⟨c2,d2,da2,s2⟩,ho2,hc2,n2,hd2⟩:=id p2
 simp only at hc hd hc2 hd2
 subst hc hd hc2 hd2
 exact mD ⟨_,ho,rfl⟩ ⟨_,ho2,rfl⟩ jQ lY gU gL (gE _ _)
   (tuple_addW0 a b _ _ n n2 d1 d2 s1 s2 rfl) ⟨ho,ho2,⟨.ref b,H,I,rfl,q⟩⟩
theorem Ue (hu:X.A.units+64<cLine):IxR X (fun x y H Q=>∃ a v,x=.ref a/\Er H a y (some v)/\Q v H):=by
 intro value slice pins s σ H x y v u Q I rx ry h hs
 obtain⟨a,w',rfl,g,q⟩:=h
 cases rx
 exact nC (Og I g) PySem.F.slot_dict_getitem.lookup (Vr (by omega) I g ry fun w1 s' I' r'=>⟨w',H,I',r',q⟩) hs
theorem aq8 {ys:List V} {us:List Value} (r:Vals ys us):∀ {i:Nat} {u:Value},us[i]? = some u -> ∃ y,ys[i]? = some y/\RelV y u:=by
 induction r with
 | nil=>intro i u e;simp at e
 | @cons y v ys us h t ih=>
  intro i u e
  cases i with
  | zero=>rw [dw] at e;cases e;exact⟨y,rfl,h⟩
  | succ i=>rw [bD] at e;exact ih e
end
section
variable {prog:aK} {w:bt} {A:bg} {E:Value->ai->Prop} {s:ai}
theorem ak2:fC (.type "list_reverseiterator") "__len__" = pure none:=by rw [iS,fS];kernel_rfl
theorem Zu:fC (.type "list_reverseiterator") "__length_hint__" = pure (some (.builtin "list_reverseiterator.__length_hint__")):=by rw [iS,fS];kernel_rfl
theorem Zh {r:Addr} {Q:Bool->ai->Prop} (ty:s.TypeIs (.ref r) "list_reverseiterator") (h:Q false s):aG (model prog w) A (dG (.ref r)) Q E s:=by
 unfold dG
 refine ac (kK ty ak2 ?_)
 generalize eid:("list_reverseiterator.__length_hint__" : String)=name
 have lh:=Zu
 rw [eid] at lh
 wp_delta
 refine ac (kK ty lh ?_)
 wp_delta
 rw [show splitId name=some ("list_reverseiterator", "__length_hint__") from eid▸by decide +kernel]
 subst eid
 refine ac (im (T := "list_reverseiterator") (b:=true) ty (by rw [jd];kernel_rfl) (c8 (fun z=>absurd z (by decide)) fun _=>c8 (fun _=>?_) fun z=>absurd (by decide +kernel) z))
 exact c8 (fun z=>absurd z (by decide)) fun _=>ah h
theorem ae3 {l:Addr} {items:Array Value} {Q:Value->ai->Prop} (hh:A.handled=none) (hl:s.heap.IsList l items) (small:items.size<=sizeLine)
  (h:∀ h' tk acc c,(∀ b o,s.heap.get? b=some o->h'.get? b=some o)->h'.get? (s.heap.objs.size+1)=some { cls:=.type "list", dict:=none,data:=.seq acc c,slots:=#[] }->ItemsOf (fun i v=>items[items.size - 1 - i]? = some v) acc items.size->Q (.ref (s.heap.objs.size+1)) { s with heap:=h',toks:=tk }) :
  aG (model prog w) A (call (.type "reversed") [.ref l]) (fun v s1=>aG (model prog w) A (call (.type "list") [v]) Q E s1) E s:=by
 have lp:l<s.heap.objs.size:=by obtain⟨_,e,_⟩:=hl;exact au e
 refine lV hl ?_
 have zv:(s.heap.push (nj l ((items.size:Int) - 1))).objs.size=s.heap.objs.size+1:=cx ..
 have view:(s.heap.push (nj l ((items.size:Int) - 1))).get? s.heap.objs.size=some (nj l ((items.size:Int) - 1)):=aq _ rfl
 have on1:∀ b o,s.heap.get? b=some o->(s.heap.push (nj l ((items.size:Int) - 1))).get? b=some o:=fun b o q=>af _ q
 generalize s.heap.push (nj l ((items.size:Int) - 1))=h1 at zv view on1 ⊢
 refine callType_codes (s:={ s with heap:=h1 }) (Q₁:=fun obj s2=>obj=.ref (s.heap.objs.size+1)/\s2={ s with heap:=h1.push { cls:=.type "list", data:=.seq #[] } }) PySem.F.called_list (PySem.F.typeCall_list_1 _) PySem.F.entry_list_init
  (code_list_new _ ⟨by show aM h1.objs.size=_;rw [zv],rfl⟩) fun obj s2 hs=>?_
 obtain⟨rfl,rfl⟩:=hs
 have S2:(h1.push { cls:=.type "list", data:=.seq #[] }).get? (s.heap.objs.size+1)=some { cls:=.type "list", data:=.seq #[] }:=zv▸aq _ rfl
 have view2:=af { cls:=.type "list", data:=.seq #[] } view
 have on2:∀ b o,s.heap.get? b=some o->(h1.push { cls:=.type "list", data:=.seq #[] }).get? b=some o:=fun b o q=>af _ (on1 b o q)
 generalize h1.push { cls:=.type "list", data:=.seq #[] }=h2 at S2 view2 on2 ⊢
 refine⟨⟨_,S2,rfl⟩,PySem.F.args_list_init_2 _ _,?_⟩
 show aG _ _ (do let old <- jU (.ref (s.heap.objs.size+1));Builtin.List.listUpdate (.ref (s.heap.objs.size+1)) (fun _=>#[]);letGo old.toList.reverse;cj (.ref (s.heap.objs.size+1)) (.ref s.heap.objs.size) .none) _ _ { s with heap:=h2 }
 refine ac ?_
 unfold jU
 refine ac (wpAny_seqItems (s:={ s with heap:=h2 }) S2 rfl (ah ?_))
 show aG _ _ (ma (s.heap.objs.size+1) (fun _=>#[]) >>= fun _=>letGo (#[]:Array Value).toList.reverse >>= fun _=>cj (.ref (s.heap.objs.size+1)) (.ref s.heap.objs.size) .none) _ _ { s with heap:=h2 }
 refine ac (gO (s:={ s with heap:=h2 }) S2 rfl (ac (m_ ?_)))
 have S3:∃ c,(h2.update (s.heap.objs.size+1) (a0 (fun _=>(#[]:Array Value)))).get? (s.heap.objs.size+1)=some { cls:=.type "list", data:=.seq #[] c }:=⟨_,aW _ S2 rfl⟩
 have o3:∀ b o,b≠s.heap.objs.size+1->h2.get? b=some o->(h2.update (s.heap.objs.size+1) (a0 (fun _=>(#[]:Array Value)))).get? b=some o:=fun b o n q=>(aN _ _ (bO n)).trans q
 generalize h2.update (s.heap.objs.size+1) (a0 (fun _=>(#[]:Array Value)))=h3 at S3 o3 ⊢
 obtain⟨c3,S3⟩:=S3
 have view3:h3.get? s.heap.objs.size=some (nj l ((items.size:Int) - 1)):=o3 _ _ (aE (cT _)) view2
 have on3:∀ b o,s.heap.get? b=some o->h3.get? b=some o:=fun b o q=>o3 b o (aE (cM (au q))) (on2 b o q)
 have isr:h3.IsRevIter s.heap.objs.size l ((items.size:Int) - 1):=⟨_,view3,rfl,rfl⟩
 have isl:h3.IsList l items:=hl.at fun o q=>on3 l o q
 unfold cj
 refine ac (ic (s:={ s with heap:=h3 }) (T := "list_reverseiterator") (kc (s:={ s with heap:=h3 }) isr) ?_)
 have t1:d_ (.ref (s.heap.objs.size+1)) (.ref s.heap.objs.size)=false:=by simp [d_]
 have t2:(cZ "list_reverseiterator" == cZ "list")=false:=by decide
 have t3:(cZ "list_reverseiterator" == cZ "tuple")=false:=by decide
 simp only [t1,t2,t3,lL,cf,if_false]
 refine ac (iy (s:={ s with heap:=h3 }) isr ?_)
 refine ac (bp (Zh (s:={ s with heap:=h3 }) (kc (s:={ s with heap:=h3 }) isr) ?_))
 have nS:s.heap.objs.size+1∉[s.heap.objs.size,l]:=by
  simp only [aF,bN,or_false,not_or]
  exact⟨jN _,(aE (cM lp)).symm⟩
 have loop:∀ (h0:Heap) (c tk:Nat),(∀ b o,b≠s.heap.objs.size+1->h3.get? b=some o->h0.get? b=some o)->h0.get? (s.heap.objs.size+1)=some { cls:=.type "list", data:=.seq #[] c } ->
   eK (model prog w) A.in1 (.builtin "list.extend.loop" ⟨[.ref (s.heap.objs.size+1),.ref s.heap.objs.size,.none],[]⟩) (wants (fun r s₂=>r=.none/\Q (.ref (s.heap.objs.size+1)) s₂) E) { s with heap:=h0,toks:=tk }:=by
  intro h0 c tk k5 S5
  have n1:s.heap.objs.size≠s.heap.objs.size+1:=by omega
  have n2:l≠s.heap.objs.size+1:=aE (cM lp)
  have W:=Walks.listRev (prog:=prog) (w:=w) (A:=A.in1.in1) (by simpa using hh) s.heap.objs.size l (aE lp) items
  refine kR W.toS small _ nS .none items.size 0 _ #[] c rfl (bo _) ⟨bo _,?_,isl.at fun o q=>k5 l o n2 q⟩ S5 (ItemsOf.nil _) fun s' acc' c' hm hS' hacc=>?_
  ·have e:(items.size:Int) - 1 - ((0:Nat):Int)=(items.size:Int) - 1:=by omega
   rw [e]
   exact isr.at fun o q=>k5 _ o n1 q
  ·rw [Moved.eq_with hm]
   refine⟨rfl,h s'.heap s'.toks acc' c' (fun b o q=>hm.heap b o (fun hmem=>?_) (k5 b o (aE (cM (au q))) (on3 b o q))) hS' hacc⟩
   have hb:=au q
   simp only [aF,bN,or_false] at hmem
   rcases hmem with rfl|rfl
   ·exact absurd hb (Nat.not_lt.mpr (ce _))
   ·exact absurd hb (eY _)
 refine c8 (fun _=>?_) (fun _=>ah ⟨gN dY _,loop h3 c3 s.toks (fun b o _ q=>q) S3⟩)
 refine ac (gG (ac ?_))
 show aG _ _ (ma (s.heap.objs.size+1) (·.push .none) >>= fun _=>ma (s.heap.objs.size+1) (·.pop)) _ _ _
 have S5:=aW (a0 (·.push bh)) S3 rfl
 refine ac (gO (s:={ s with heap:=h3 }) S3 rfl (gO (hz:=by seq_fits) S5 rfl (ah ⟨gN dY _,loop _ _ s.toks (fun b o n q=>?_) (aW (a0 (·.pop)) S5 rfl)⟩)))
 exact (aN _ _ (bO n)).trans ((aN _ _ (bO n)).trans q)
end
section
variable {X:Cx} {pins:List (Addr×Obj)} {σ:St} {H:Hp} {s:ai} {Q:VK}
noncomputable def Ka (K:aa):V->Hp->VK->Prop:=fun x H Q=>match x with
 | .ref p=>∃ ys,SqL K H p ys /\ ∀ D,H D=none->Q (.ref D) (upd H D (.lst ys.reverse))
 | _=>False
theorem Vd:∀ {ys:List V} {us:List Value},ys.length=us.length->(∀ (i:Nat) y u,ys[i]? = some y->us[i]? = some u->RelV y u)->Vals ys us
 | [],[],_,_=>.nil
 | y::ys,u::us,hl,h=>.cons (h 0 y u rfl rfl) (Vd (by simpa using hl) fun i y u e1 e2=>h (i+1) y u (by rw [bD];exact e1) (by rw [bD];exact e2))
 | [],_::_,hl,_=>by simp at hl
 | _::_,[],hl,_=>by simp at hl
theorem Lg {ys:List V} {its:List Value} (r:Vals ys its) {acc:Array Value} (h:ItemsOf (fun i v=>its.toArray[its.toArray.size - 1 - i]? = some v) acc its.toArray.size):Vals ys.reverse acc.toList:=by
 have hl:=r.length
 have hs:its.toArray.size=its.length:=am
 have ha:acc.toList.length=its.length:=by rw [aZ,h.1,hs]
 refine Vd (by rw [b8,ha,hl]) fun i y u e1 e2=>?_
 rw [bJ] at e2
 have e3:=h.2 i u e2
 have hi:i<its.length:=by
  have:=(Array.getElem?_eq_some_iff.mp e2).1
  rw [h.1,hs] at this
  exact this
 rw [hs,hV] at e3
 obtain⟨y',g1,g2⟩:=aq8 r e3
 rw [kg (by omega),hl,g1] at e1
 cases e1
 exact g2
theorem Zs {p:Addr} {ys:List V} (hc:X.calm=true) (I:Inv X pins σ H s) (hq:SqL X.K H p ys) (q:∀ D,H D=none->Q (.ref D) (upd H D (.lst ys.reverse))) :
  aG (model X.prog X.w) X.A (call (.type "reversed") [.ref p]) (fun v s1=>aG (model X.prog X.w) X.A (call (.type "list") [v]) (EP X pins σ Q) X.xe s1) X.xe s:=by
 obtain⟨its,r,pl,hz⟩:=I.list hq
 have hl:=r.length
 refine bE (ae _) (bL (ae3 (Q:=fun a s'=>s.toks<=s'.toks->EP X pins σ Q a s') (E:=fun e s'=>s.toks<=s'.toks->X.xe e s') (I.ok.hd hc) pl.isList (by rw [am];omega) fun h' tk acc c k e it htk=>?_) (fun v s1 z htk=>bE htk z) fun e s' z=>z)
 exact⟨.ref (s.heap.objs.size+1),_,I.laid (t':=tk) (a:=s.heap.objs.size+1) k (ce _) (show ObjOk X.prog X.w _ h' _ (.lst ys.reverse) from⟨by rw [b8];exact hz,acc.toList,c,Lg r it,by simpa using e⟩),rfl,q _ (I.hok.fresh (ce _))⟩
end
open Sem (wp)
section
variable {M:nG} {A:bg} {E:Value->ai->Prop} {env:Env}
variable {nm q:Str} {C N:Addr} {bs bm:List Value} {hdct:Bool} {sn:List Str} {sub:List Value} {ab:Bool} {col:Option Bool} {dd:Option Addr} {k0 k1 k2 k3 k5:Option Value} {newId:String}
end
section
variable {X:Cx} {e:Expr} {te:TE} {pos:Pos}
noncomputable def Q7 (K:aa) (R:EK):VK:=fun x H=>match x with
 | .ref a=>∃ C dx,H a=some (Ep a C dx)/\ECls K C/\R a (upd H a (flO a C dx))
 | _=>False
theorem ab3 {Ex:St->EK} (m:Meets X Ex) (hh:X.A.handled=none) (he:PE X e te):PS X (.Raise (some e) none pos) (fun _ σ H=>te σ H (Q7 X.K (Ex σ))):=by
 intro pins s σ H D I h
 rw [arm_exec_Raise]
 show aG _ _ (do lH pos;mU X.env (some (do let v <- eval e X.env;lH pos;pure v)) none) _ _ s
 refine ac (dS ?_)
 unfold mU
 refine ac (ac (thn (he pins s σ H _ I h) fun v s1 ⟨x,H1,I1,r1,q1⟩=>ac (dS (ah ?_))))
 cases x with
 | ref a=>
  cases r1
  obtain⟨C,dx,ea,c,q⟩:=q1
  obtain⟨vs,g1,g2,g3,g4⟩:=Jq I1 ea
  obtain⟨nm,qn,N,bs,bm,hdct,sn,sub,ab,col,dd,k0,k1,k2,k3,k5,hl,ht,hd⟩:=c.obj
  have hC:=I1.kIn _ _ hl
  have hb:bm.contains (.type "BaseException")=true:=Bo ht (by decide +kernel)
  have I2:Inv X pins σ (upd H1 a (flO a C dx)) s1:=by
   have:=I1.write (x:=a) (e:=a) (h':=s1.heap) (t':=s1.toks) (o:=flO a C dx) (by rw [ea];exact bH) (.inl rfl) (fun b u _ z=>z) ⟨_,g1⟩ (Y8 g1 g2 g4)
   exact this
  have hx:=m pins σ _ s1 a I2 ⟨C,dx,vs,.inl Ad,g1,g2,.inl g3⟩ q
  have hcB:(aM C::bm).contains (.type "BaseException")=true:=by rw [bM,hb,fK]
  obtain⟨hp,g,d,tk,os⟩:=s1
  repeat (first|with_reducible refine b_ g1 rfl g3 ?_|with_reducible refine bu g1 ?_|with_reducible refine bu hC ?_|(with_reducible refine cw hC ?_;rw [hcB])|wp_step)
  exact wpAny_raiseNew_none hh hx
 | _=>exact (show False from q1).elim
end
end L2
namespace L2
open PySem PySem.Spec PyProof.Rows
inductive Dt where
 | at_ (v:V)
 | lst (l:List Dt)
 | tup (l:List Dt)
mutual
noncomputable def deq:Dt->Dt->Bool
 | .at_ v,.at_ w=>eqV v w
 | .lst xs,.lst ys=>Ei xs ys
 | .tup xs,.tup ys=>Ei xs ys
 | _,_=>false
noncomputable def Ei:List Dt->List Dt->Bool
 | [],[]=>true
 | x::xs,y::ys=>deq x y&&Ei xs ys
 | _,_=>false
end
mutual
noncomputable def dep:Dt->Nat
 | .at_ _=>0
 | .lst l=>Bv l+1
 | .tup l=>Bv l+1
noncomputable def Bv:List Dt->Nat
 | []=>0
 | x::xs=>Nat.max (dep x) (Bv xs)
end
mutual
noncomputable def At (K:aa) (H:Hp):Dt->V->Prop
 | .at_ v,x=>x=v/\Cd v=true
 | .lst ds,x=>∃ a xs,x=.ref a/\SqL K H a xs/\AtL K H ds xs
 | .tup ds,x=>∃ a xs,x=.ref a/\SqT K H a xs/\AtL K H ds xs
noncomputable def AtL (K:aa) (H:Hp):List Dt->List V->Prop
 | [],xs=>xs=[]
 | d::ds,xs=>∃ y ys,xs=y::ys/\At K H d y/\AtL K H ds ys
end
theorem AtL.length {K:aa} {H:Hp}:∀ {ds:List Dt} {xs:List V},AtL K H ds xs->xs.length=ds.length
 | [],xs,h=>by unfold AtL at h;subst h;rfl
 | d::ds,xs,h=>by
  unfold AtL at h
  obtain⟨y,ys,rfl,_,h2⟩:=h
  rw [aR,aR,AtL.length h2]
theorem Y6 {v:V} (h:Cd v=true):eqV v v=true:=by
 cases v <;> first|rfl|(exact beq_self_eq_true _)|exact absurd (show false=true from h) ak
mutual
theorem Ew {K:aa} {H:Hp}:∀ {d:Dt} {x:V},At K H d x->deq d d=true
 | .at_ v,x,h=>by unfold At at h;unfold deq;exact Y6 h.2
 | .lst l,x,h=>by unfold At at h;obtain⟨a,xs,_,_,h⟩:=h;unfold deq;exact Hg h
 | .tup l,x,h=>by unfold At at h;obtain⟨a,xs,_,_,h⟩:=h;unfold deq;exact Hg h
theorem Hg {K:aa} {H:Hp}:∀ {ds:List Dt} {xs:List V},AtL K H ds xs->Ei ds ds=true
 | [],xs,h=>by unfold Ei;rfl
 | d::ds,xs,h=>by
  unfold AtL at h
  obtain⟨y,ys,rfl,h1,h2⟩:=h
  unfold Ei
  rw [Ew h1,Hg h2]
  rfl
end
theorem Ey:∀ {xs ys:List Dt},xs.length≠ys.length->Ei xs ys=false
 | [],[],h=>absurd rfl h
 | [],_::_,_=>by unfold Ei;rfl
 | _::_,[],_=>by unfold Ei;rfl
 | x::xs,y::ys,h=>by
  unfold Ei
  rw [Ey (xs:=xs) (ys:=ys) (fun e=>h (by rw [aR,aR,e])),fw]
theorem Dg (z:Dt):∀ {xs ys:List Dt},xs.length=ys.length->Ei xs ys=(cL xs.length).all fun j=>deq (xs.getD j z) (ys.getD j z)
 | [],[],_=>by unfold Ei;rfl
 | [],_::_,h=>by simp at h
 | _::_,[],h=>by simp at h
 | x::xs,y::ys,h=>by
  unfold Ei
  rw [aR,List.range_succ_eq_map,bF,List.all_map,Dg z (xs:=xs) (ys:=ys) (by simpa using h)]
  rfl
section
variable {X:Cx} {pins:List (Addr×Obj)} {σ:St} {H:Hp} {s:ai}
theorem Ox {a:Addr} {xs ys:List V} (I:Inv X pins σ H s) (h:SqL X.K H a xs) (h':SqT X.K H a ys):False:=by
 obtain⟨its,r,⟨o,n,e,c,_,d⟩,_⟩:=I.list h
 obtain⟨its',r',⟨o',e',c',n',d'⟩,_⟩:=I.tuple h'
 rw [e] at e';cases e'
 rw [c] at c'
 injection c' with c'
 exact absurd c' (by decide)
mutual
theorem Pq (I:Inv X pins σ H s):∀ {d d':Dt} {x:V},At X.K H d x->At X.K H d' x->d=d'
 | .at_ v,.at_ w,x,h,h'=>by unfold At at h h';rw [<- h.1,<- h'.1]
 | .at_ v,.lst l,x,h,h'=>by
  unfold At at h h'
  obtain⟨a,xs,rfl,_⟩:=h'
  rw [<- h.1] at h
  exact absurd (show false=true from h.2) ak
 | .at_ v,.tup l,x,h,h'=>by
  unfold At at h h'
  obtain⟨a,xs,rfl,_⟩:=h'
  rw [<- h.1] at h
  exact absurd (show false=true from h.2) ak
 | .lst l,.at_ v,x,h,h'=>by
  unfold At at h h'
  obtain⟨a,xs,rfl,_⟩:=h
  rw [<- h'.1] at h'
  exact absurd (show false=true from h'.2) ak
 | .tup l,.at_ v,x,h,h'=>by
  unfold At at h h'
  obtain⟨a,xs,rfl,_⟩:=h
  rw [<- h'.1] at h'
  exact absurd (show false=true from h'.2) ak
 | .lst l,.lst l',x,h,h'=>by
  unfold At at h h'
  obtain⟨a,xs,rfl,q,h⟩:=h
  obtain⟨a',xs',e,q',h'⟩:=h'
  cases e
  rw [I.list_inj q q'] at h
  rw [Ms I h h']
 | .tup l,.tup l',x,h,h'=>by
  unfold At at h h'
  obtain⟨a,xs,rfl,q,h⟩:=h
  obtain⟨a',xs',e,q',h'⟩:=h'
  cases e
  rw [I.tuple_inj q q'] at h
  rw [Ms I h h']
 | .lst l,.tup l',x,h,h'=>by
  unfold At at h h'
  obtain⟨a,xs,rfl,q,h⟩:=h
  obtain⟨a',xs',e,q',h'⟩:=h'
  cases e
  exact (Ox I q q').elim
 | .tup l,.lst l',x,h,h'=>by
  unfold At at h h'
  obtain⟨a,xs,rfl,q,h⟩:=h
  obtain⟨a',xs',e,q',h'⟩:=h'
  cases e
  exact (Ox I q' q).elim
theorem Ms (I:Inv X pins σ H s):∀ {ds ds':List Dt} {xs:List V},AtL X.K H ds xs->AtL X.K H ds' xs->ds=ds'
 | [],[],_,_,_=>rfl
 | [],_::_,_,h,h'=>by unfold AtL at h h';obtain⟨y,ys,e,_⟩:=h';rw [h] at e;cases e
 | _::_,[],_,h,h'=>by unfold AtL at h h';obtain⟨y,ys,e,_⟩:=h;rw [h'] at e;cases e
 | d::ds,d'::ds',xs,h,h'=>by
  unfold AtL at h h'
  obtain⟨y,ys,rfl,h1,h2⟩:=h
  obtain⟨y',ys',e,h1',h2'⟩:=h'
  cases e
  rw [Pq I h1 h1',Ms I h2 h2']
end
theorem Lw {A:bg} {v:V} {u:Value} {a:Addr} {its:Array Value} (f:Cd v=true) (r:RelV v u) (hl:s.heap.IsList a its) (hu:A.units<cLine):bz A s u (.ref a) false/\bz A s (.ref a) u false:=by
 cases v with
 | non=>cases r;exact⟨.none_list hl hu,.list_none hl hu⟩
 | bl b=>cases r;exact⟨.bool_list b hl hu,.list_bool b hl hu⟩
 | int i=>obtain⟨t,rfl⟩:=r;exact⟨.int_list i t hl hu,.list_int i t hl hu⟩
 | str i=>obtain⟨t,rfl⟩:=r;exact⟨.str_list i t hl hu,.list_str i t hl hu⟩
 | _=>exact absurd (show false=true from f) ak
theorem Jr {A:bg} {v:V} {u:Value} {a:Addr} {its:Array Value} (f:Cd v=true) (r:RelV v u) (hl:s.heap.IsTuple a its) (hu:A.units<cLine):bz A s u (.ref a) false/\bz A s (.ref a) u false:=by
 cases v with
 | non=>cases r;exact⟨.none_tuple hl hu,.tuple_none hl hu⟩
 | bl b=>cases r;exact⟨.bool_tuple b hl hu,.tuple_bool b hl hu⟩
 | int i=>obtain⟨t,rfl⟩:=r;exact⟨.int_tuple i t hl hu,.tuple_int i t hl hu⟩
 | str i=>obtain⟨t,rfl⟩:=r;exact⟨.str_tuple i t hl hu,.tuple_str i t hl hu⟩
 | _=>exact absurd (show false=true from f) ak
mutual
theorem Y3 (I:Inv X pins σ H s):∀ (d d':Dt) (A:bg) (x y:V) (u v:Value),At X.K H d x->At X.K H d' y->RelV x u->RelV y v->A.units+dep d<cLine->bz A s u v (deq d d')
 | .at_ p,.at_ q,A,x,y,u,v,h,h',r,r',hu=>by
  unfold At at h h';unfold deq
  obtain⟨rfl,f⟩:=h
  obtain⟨rfl,f'⟩:=h'
  exact P8 r r' f f'
 | .at_ p,.lst l,A,x,y,u,v,h,h',r,r',hu=>by
  unfold At at h h';unfold deq
  obtain⟨rfl,f⟩:=h
  obtain⟨a,xs,rfl,q,_⟩:=h'
  obtain⟨its,_,pl,_⟩:=I.list q
  cases r'
  exact (Lw f r pl.isList (by omega)).1
 | .at_ p,.tup l,A,x,y,u,v,h,h',r,r',hu=>by
  unfold At at h h';unfold deq
  obtain⟨rfl,f⟩:=h
  obtain⟨a,xs,rfl,q,_⟩:=h'
  obtain⟨its,_,pl,_⟩:=I.tuple q
  cases r'
  exact (Jr f r pl (by omega)).1
 | .lst l,.at_ p,A,x,y,u,v,h,h',r,r',hu=>by
  unfold At at h h';unfold deq
  obtain⟨rfl,f⟩:=h'
  obtain⟨a,xs,rfl,q,_⟩:=h
  obtain⟨its,_,pl,_⟩:=I.list q
  cases r
  exact (Lw f r' pl.isList (by omega)).2
 | .tup l,.at_ p,A,x,y,u,v,h,h',r,r',hu=>by
  unfold At at h h';unfold deq
  obtain⟨rfl,f⟩:=h'
  obtain⟨a,xs,rfl,q,_⟩:=h
  obtain⟨its,_,pl,_⟩:=I.tuple q
  cases r
  exact (Jr f r' pl (by omega)).2
 | .lst l,.tup l',A,x,y,u,v,h,h',r,r',hu=>by
  unfold At at h h';unfold deq
  obtain⟨a,xs,rfl,q,_⟩:=h
  obtain⟨b,ys,rfl,q',_⟩:=h'
  obtain⟨its,_,pl,_⟩:=I.list q
  obtain⟨its',_,pl',_⟩:=I.tuple q'
  cases r;cases r'
  exact .list_tuple pl.isList pl' (by omega)
 | .tup l,.lst l',A,x,y,u,v,h,h',r,r',hu=>by
  unfold At at h h';unfold deq
  obtain⟨a,xs,rfl,q,_⟩:=h
  obtain⟨b,ys,rfl,q',_⟩:=h'
  obtain⟨its,_,pl,_⟩:=I.tuple q
  obtain⟨its',_,pl',_⟩:=I.list q'
  cases r;cases r'
  exact .tuple_list pl pl'.isList (by omega)
 | .lst l,.lst l',A,x,y,u,v,h,h',r,r',hu=>by
  by_cases e:x=y
  ·subst e
   have:=Pq I h h'
   rw [<- this,Ew h]
   have hx:∃ a,x=.ref a:=by unfold At at h;obtain⟨a,_,e,_⟩:=h;exact⟨a,e⟩
   obtain⟨a,rfl⟩:=hx
   cases r;cases r'
   exact .same _
  ·unfold At at h h';unfold deq
   unfold dep at hu
   obtain⟨a,xs,rfl,q,h⟩:=h
   obtain⟨b,ys,rfl,q',h'⟩:=h'
   obtain⟨its,ri,pl,_⟩:=I.list q
   obtain⟨its',ri',pl',_⟩:=I.list q'
   cases r;cases r'
   have ne:a≠b:=fun z=>e (by rw [z])
   have e1:=h.length
   have e2:=h'.length
   have e3:=ri.length
   have e4:=ri'.length
   refine .of_refs ne ?_
   by_cases hl:l.length=l'.length
   ·rw [Dg (.lst []) hl]
    have hsz:its.toArray.size=l.length:=by simp;omega
    rw [<- hsz]
    exact .lists pl.isList pl'.isList (by simp;omega) (by omega) fun j h1 h2=>by
     have:=Gm I l l' A.in1 xs ys its its' h h' ri ri' (by show A.units+1+Bv l<cLine;omega) j (by simpa using h1) (by simpa using h2)
     simpa using this
   ·rw [Ey hl]
    exact .lists_lengths pl.isList pl'.isList (by simp;omega) (by omega)
 | .tup l,.tup l',A,x,y,u,v,h,h',r,r',hu=>by
  by_cases e:x=y
  ·subst e
   have:=Pq I h h'
   rw [<- this,Ew h]
   have hx:∃ a,x=.ref a:=by unfold At at h;obtain⟨a,_,e,_⟩:=h;exact⟨a,e⟩
   obtain⟨a,rfl⟩:=hx
   cases r;cases r'
   exact .same _
  ·unfold At at h h';unfold deq
   unfold dep at hu
   obtain⟨a,xs,rfl,q,h⟩:=h
   obtain⟨b,ys,rfl,q',h'⟩:=h'
   obtain⟨its,ri,pl,_⟩:=I.tuple q
   obtain⟨its',ri',pl',_⟩:=I.tuple q'
   cases r;cases r'
   have ne:a≠b:=fun z=>e (by rw [z])
   have e1:=h.length
   have e2:=h'.length
   have e3:=ri.length
   have e4:=ri'.length
   refine .of_refs ne ?_
   have T:=SeqAt.RcAt.tuples (A:=A) (s:=s) (e:=fun j=>deq (l.getD j (.lst [])) (l'.getD j (.lst []))) pl pl' (by omega) fun j h1 h2=>by
     have:=Gm I l l' A.in1 xs ys its its' h h' ri ri' (by show A.units+1+Bv l<cLine;omega) j (by simpa using h1) (by simpa using h2)
     simpa using this
   by_cases hl:l.length=l'.length
   ·rw [Dg (.lst []) hl]
    have hsz:its.toArray.size=l.length:=by simp;omega
    have hsz':its'.toArray.size=l.length:=by simp;omega
    rw [hsz,hsz',Nat.min_self,beq_self_eq_true,Bool.and_true] at T
    exact T
   ·rw [Ey hl]
    have hne:(its.toArray.size==its'.toArray.size)=false:=by
     rw [beq_eq_false_iff_ne];simp;omega
    rw [hne,fw] at T
    exact T
theorem Gm (I:Inv X pins σ H s):∀ (ds ds':List Dt) (A:bg) (xs ys:List V) (us vs:List Value),AtL X.K H ds xs->AtL X.K H ds' ys->Vals xs us->Vals ys vs->A.units+Bv ds<cLine ->
  ∀ (j:Nat) (h1:j<us.length) (h2:j<vs.length),bz A s us[j] vs[j] (deq (ds.getD j (.lst [])) (ds'.getD j (.lst [])))
 | [],_,A,xs,ys,us,vs,h,h',r,r',hu=>fun j h1 h2=>by
  unfold AtL at h
  subst h
  cases r
  cases h1
 | _::_,[],A,xs,ys,us,vs,h,h',r,r',hu=>fun j h1 h2=>by
  unfold AtL at h'
  subst h'
  cases r'
  cases h2
 | d::ds,d'::ds',A,xs,ys,us,vs,h,h',r,r',hu=>fun j h1 h2=>by
  unfold AtL at h h'
  obtain⟨y,ys,rfl,q1,q2⟩:=h
  obtain⟨z,zs,rfl,q1',q2'⟩:=h'
  cases r with
  | cons r1 r2=>
   cases r' with
   | cons r1' r2'=>
    unfold Bv at hu
    have m1:dep d<=Nat.max (dep d) (Bv ds):=Nat.le_max_left _ _
    have m2:Bv ds<=Nat.max (dep d) (Bv ds):=Nat.le_max_right _ _
    cases j with
    | zero=>exact Y3 I d d' A _ _ _ _ q1 q1' r1 r1' (by omega)
    | succ j=>exact Gm I ds ds' A _ _ _ _ q2 q2' r2 r2' (by omega) j (by simpa using h1) (by simpa using h2)
end
theorem Fi {K:aa} {d:Dt} {a:Addr} (h:At K H d (.ref a)):(∃ l xs,d=.lst l/\SqL K H a xs/\AtL K H l xs)\/(∃ l xs,d=.tup l/\SqT K H a xs/\AtL K H l xs):=by
 cases d with
 | at_ v=>
  unfold At at h
  rw [<- h.1] at h
  exact absurd (show false=true from h.2) ak
 | lst l=>unfold At at h;obtain⟨b,xs,e,q,h⟩:=h;cases e;exact .inl ⟨l,xs,rfl,q,h⟩
 | tup l=>unfold At at h;obtain⟨b,xs,e,q,h⟩:=h;cases e;exact .inr ⟨l,xs,rfl,q,h⟩
theorem Ow {K:aa} {d:Dt} {x:V} (h:At K H d x) (f:∀ a,x≠.ref a):d=.at_ x/\Cd x=true:=by
 cases d with
 | at_ v=>unfold At at h;rw [h.1];exact⟨rfl,h.2⟩
 | lst l=>unfold At at h;obtain⟨b,xs,e,_⟩:=h;exact absurd e (f b)
 | tup l=>unfold At at h;obtain⟨b,xs,e,_⟩:=h;exact absurd e (f b)
theorem b36 (I:Inv X pins σ H s) {A:bg} {d d':Dt} {a b:Addr} (h:At X.K H d (.ref a)) (h':At X.K H d' (.ref b)) (hu:A.units+dep d<cLine):ju A s (.ref a) (.ref b) (deq d d')/\gF A s (.ref a) (.ref b) (!deq d d'):=by
 rcases Fi h with ⟨l,xs,rfl,q,h⟩|⟨l,xs,rfl,q,h⟩
 ·rcases Fi h' with ⟨l',ys,rfl,q',h'⟩|⟨l',ys,rfl,q',h'⟩
  ·unfold deq
   unfold dep at hu
   obtain⟨its,ri,pl,_⟩:=I.list q
   obtain⟨its',ri',pl',_⟩:=I.list q'
   have e1:=h.length
   have e2:=h'.length
   have e3:=ri.length
   have e4:=ri'.length
   have it:∀ j (h1:j<its.toArray.size) (h2:j<its'.toArray.size),bz A.in1 s its.toArray[j] its'.toArray[j] (deq (l.getD j (.lst [])) (l'.getD j (.lst []))):=fun j h1 h2=>by
    have:=Gm I l l' A.in1 xs ys its its' h h' ri ri' (by show A.units+1+Bv l<cLine;omega) j (by simpa using h1) (by simpa using h2)
    simpa using this
   by_cases hl:l.length=l'.length
   ·rw [Dg (.lst []) hl]
    have hsz:its.toArray.size=l.length:=by simp;omega
    rw [<- hsz]
    exact⟨.lists pl.isList pl'.isList (by simp;omega) (by omega) it,.lists pl.isList pl'.isList (by simp;omega) (by omega) it⟩
   ·rw [Ey hl]
    exact⟨.lists_lengths pl.isList pl'.isList (by simp;omega) (by omega),.lists_lengths pl.isList pl'.isList (by simp;omega) (by omega)⟩
  ·unfold deq
   obtain⟨its,ri,pl,_⟩:=I.list q
   obtain⟨its',ri',pl',_⟩:=I.tuple q'
   exact⟨.list_tuple pl.isList pl' (by omega),.list_tuple pl.isList pl' (by omega)⟩
 ·rcases Fi h' with ⟨l',ys,rfl,q',h'⟩|⟨l',ys,rfl,q',h'⟩
  ·unfold deq
   obtain⟨its,ri,pl,_⟩:=I.tuple q
   obtain⟨its',ri',pl',_⟩:=I.list q'
   exact⟨.tuple_list pl pl'.isList (by omega),.tuple_list pl pl'.isList (by omega)⟩
  ·unfold deq
   unfold dep at hu
   obtain⟨its,ri,pl,_⟩:=I.tuple q
   obtain⟨its',ri',pl',_⟩:=I.tuple q'
   have e1:=h.length
   have e2:=h'.length
   have e3:=ri.length
   have e4:=ri'.length
   have it:∀ j (h1:j<its.toArray.size) (h2:j<its'.toArray.size),bz A.in1 s its.toArray[j] its'.toArray[j] (deq (l.getD j (.lst [])) (l'.getD j (.lst []))):=fun j h1 h2=>by
    have:=Gm I l l' A.in1 xs ys its its' h h' ri ri' (by show A.units+1+Bv l<cLine;omega) j (by simpa using h1) (by simpa using h2)
    simpa using this
   have T:=SeqAt.RcAt.tuples pl pl' (by omega) it
   have T':=SeqAt.RcNeAt.tuples pl pl' (by omega) it
   by_cases hl:l.length=l'.length
   ·rw [Dg (.lst []) hl]
    have hsz:its.toArray.size=l.length:=by simp;omega
    have hsz':its'.toArray.size=l.length:=by simp;omega
    rw [hsz,hsz',Nat.min_self,beq_self_eq_true,Bool.and_true] at T T'
    exact⟨T,T'⟩
   ·rw [Ey hl]
    have hne:(its.toArray.size==its'.toArray.size)=false:=by
     rw [beq_eq_false_iff_ne];simp;omega
    rw [hne,fw] at T T'
    exact⟨T,T'⟩
theorem Ux (I:Inv X pins σ H s) {A:bg} {d:Dt} {a:Addr} {v:V} {u:Value} (h:At X.K H d (.ref a)) (f:Cd v=true) (r:RelV v u) (hu:A.units<cLine) :
  ju A s (.ref a) u false/\gF A s (.ref a) u true/\ju A s u (.ref a) false/\gF A s u (.ref a) true:=by
 rcases Fi h with ⟨l,xs,rfl,q,h⟩|⟨l,xs,rfl,q,h⟩
 ·obtain⟨its,ri,pl,_⟩:=I.list q
  cases v with
  | non=>cases r;exact⟨.list_none pl.isList hu,.list_none pl.isList hu,.none_list pl.isList hu,.none_list pl.isList hu⟩
  | bl b=>cases r;exact⟨.list_bool b pl.isList hu,.list_bool b pl.isList hu,.bool_list b pl.isList hu,.bool_list b pl.isList hu⟩
  | int b=>obtain⟨t,rfl⟩:=r;exact⟨.list_int b t pl.isList hu,.list_int b t pl.isList hu,.int_list b t pl.isList hu,.int_list b t pl.isList hu⟩
  | str b=>obtain⟨t,rfl⟩:=r;exact⟨.list_str b t pl.isList hu,.list_str b t pl.isList hu,.str_list b t pl.isList hu,.str_list b t pl.isList hu⟩
  | _=>exact absurd (show false=true from f) ak
 ·obtain⟨its,ri,pl,_⟩:=I.tuple q
  cases v with
  | non=>cases r;exact⟨.tuple_none pl hu,.tuple_none pl hu,.none_tuple pl hu,.none_tuple pl hu⟩
  | bl b=>cases r;exact⟨.tuple_bool b pl hu,.tuple_bool b pl hu,.bool_tuple b pl hu,.bool_tuple b pl hu⟩
  | int b=>obtain⟨t,rfl⟩:=r;exact⟨.tuple_int b t pl hu,.tuple_int b t pl hu,.int_tuple b t pl hu,.int_tuple b t pl hu⟩
  | str b=>obtain⟨t,rfl⟩:=r;exact⟨.tuple_str b t pl hu,.tuple_str b t pl hu,.str_tuple b t pl hu,.str_tuple b t pl hu⟩
  | _=>exact absurd (show false=true from f) ak
noncomputable def ac9 (K:aa) (neg:Bool):R2:=fun x y H Q=>∃ d d',At K H d x/\At K H d' y/\dep d<=40/\Q (.bl (if neg then !deq d d' else deq d d')) H
theorem ae2 (I:Inv X pins σ H s) {A:bg} {d d':Dt} {x y:V} {u v:Value} (h:At X.K H d x) (h':At X.K H d' y) (r:RelV x u) (r':RelV y v) (hr:(∃ a,x=.ref a) \/ ∃ b,y=.ref b) (hu:A.units+dep d<cLine) :
  ju A s u v (deq d d')/\gF A s u v (!deq d d'):=by
 by_cases hx:∃ a,x=.ref a
 ·obtain⟨a,rfl⟩:=hx
  cases r
  by_cases hy:∃ b,y=.ref b
  ·obtain⟨b,rfl⟩:=hy
   cases r'
   exact b36 I h h' hu
  ·obtain⟨rfl,f⟩:=Ow h' (fun b e=>hy ⟨b,e⟩)
   obtain⟨q1,q2,_⟩:=Ux I h f r' (show A.units<cLine by omega)
   have e:deq d (.at_ y)=false:=by
    rcases Fi h with ⟨l,xs,rfl,_⟩|⟨l,xs,rfl,_⟩ <;> (unfold deq;rfl)
   rw [e]
   exact⟨q1,q2⟩
 ·have hy:∃ b,y=.ref b:=hr.resolve_left hx
  obtain⟨b,rfl⟩:=hy
  cases r'
  obtain⟨rfl,f⟩:=Ow h (fun b e=>hx ⟨b,e⟩)
  obtain⟨_,_,q1,q2⟩:=Ux I h' f r (show A.units<cLine by omega)
  have e:deq (.at_ x) d'=false:=by
   rcases Fi h' with ⟨l,xs,rfl,_⟩|⟨l,xs,rfl,_⟩ <;> (unfold deq;rfl)
  rw [e]
  exact⟨q1,q2⟩
theorem Qv (hu:X.A.units+64<cLine) {x y:V} {u v:Value} {Q:VK} (I:Inv X pins σ H s) (rx:RelV x u) (ry:RelV y v) (hr:(∃ a,x=.ref a) \/ ∃ b,y=.ref b) (h:ac9 X.K false x y H Q):aG (model X.prog X.w) X.A (cg .Eq u v) (EP X pins σ Q) X.xe s:=by
 obtain⟨d,d',h1,h2,hd,q⟩:=h
 exact (ae2 I h1 h2 rx ry hr (A:=X.A) (by omega)).1 _ _ _ _ ⟨.bl _,H,I,rfl,q⟩
theorem Qw (hu:X.A.units+64<cLine) {x y:V} {u v:Value} {Q:VK} (I:Inv X pins σ H s) (rx:RelV x u) (ry:RelV y v) (hr:(∃ a,x=.ref a) \/ ∃ b,y=.ref b) (h:ac9 X.K true x y H Q):aG (model X.prog X.w) X.A (cg .NotEq u v) (EP X pins σ Q) X.xe s:=by
 obtain⟨d,d',h1,h2,hd,q⟩:=h
 exact (ae2 I h1 h2 rx ry hr (A:=X.A) (by omega)).2 _ _ _ _ ⟨.bl _,H,I,rfl,q⟩
end
end L2
set_option maxHeartbeats 1000000
namespace L2
open PySem PySem.Spec PyProof.Rows
theorem V3 {prog:aK} {w:bt} {A:bg} {E:Value->ai->Prop} {s:ai} {Q:Int->ai->Prop} (h:Q (reduceHash 4238894112) { s with toks:=s.toks+1 }):aG (model prog w) A (pyHash .none) Q E s:=by
 show aG (model prog w) A (pyHashByItsType .none) Q E s
 refine PySem.W.pyHash_slot (T := "NoneType") rfl PySem.F.slot_NoneType_hash PySem.F.entry_NoneType_hash (PySem.F.args_NoneType_hash_1 _) rfl (.inl rfl) ?_
 unfold aT.«NoneType.__hash__»
 refine ac (m:=slotArgs "__hash__" 0 _) (ah ?_)
 unfold retInt
 exact ac (wpAny_mkInt (ah ⟨_,_,rfl,h⟩))
noncomputable def bl8:Option Key->Value->Bool
 | none,v=>v==.none
 | some k,v=>Gs k v
theorem Cn {k:Option Key} {v:Value} (h:bl8 k v=true):(k=none/\v=.none) \/ ∃ k',k=some k'/\Gs k' v=true:=by
 cases k with
 | none=>exact .inl ⟨rfl,cv h⟩
 | some k=>exact .inr ⟨k,rfl,h⟩
noncomputable def Ix (prog:aK) (w:bt):PySem.KeyKind prog w (Option Key) where
 is:=bl8
 hash:=fun k=>match k with
  | none=>reduceHash 4238894112
  | some k=>bl6 w k
 inj:=fun v a b ha hb=>by
  rcases Cn ha with ⟨rfl,rfl⟩|⟨k,rfl,ha⟩
  ·rcases Cn hb with ⟨rfl,_⟩|⟨k',rfl,hb⟩
   ·rfl
   ·rcases Az hb with ⟨_,_,_,e⟩|⟨_,_,_,e⟩ <;> cases e
  ·rcases Cn hb with ⟨rfl,rfl⟩|⟨k',rfl,hb⟩
   ·rcases Az ha with ⟨_,_,_,e⟩|⟨_,_,_,e⟩ <;> cases e
   ·rw [(Ap prog w).inj v k k' ha hb]
 byValue:=fun k v h=>by
  rcases Cn h with ⟨rfl,rfl⟩|⟨k,rfl,h⟩
  ·rfl
  ·exact (Ap prog w).byValue k v h
 pyHash:=fun hv h=>by
  rcases Cn hv with ⟨rfl,rfl⟩|⟨k,rfl,hv⟩
  ·exact V3 h
  ·exact (Ap prog w).pyHash hv h
 eqBool:=fun hu hv h=>by
  rcases Cn hu with ⟨rfl,rfl⟩|⟨k,rfl,hu⟩
  ·rcases Cn hv with ⟨rfl,rfl⟩|⟨k',rfl,hv⟩
   ·exact SeqAt.EqAt.same _ _ _ _ _ (by simpa using h)
   ·rcases Az hv with ⟨i,t,rfl,rfl⟩|⟨x,t,rfl,rfl⟩
    ·exact lm _ _ _ _ _ _ (by simpa using h)
    ·exact lq _ _ _ _ _ _ (by simpa using h)
  ·rcases Cn hv with ⟨rfl,rfl⟩|⟨k',rfl,hv⟩
   ·rcases Az hu with ⟨i,t,rfl,rfl⟩|⟨x,t,rfl,rfl⟩
    ·exact lj _ _ _ _ _ _ (by simpa using h)
    ·exact lv _ _ _ _ _ _ (by simpa using h)
   ·exact (Ap prog w).eqBool hu hv (by
     have e:decide (some k=some k')=decide (k=k'):=by by_cases q:k=k' <;> simp [q]
     rwa [e] at h)
 «strs»:=fun k x t v h=>by
  rcases Cn h with ⟨rfl,e⟩|⟨k,rfl,h⟩
  ·cases e
  ·exact (Ap prog w).strs k x t v h
section
variable {X:Cx} {pins:List (Addr×Obj)} {σ:St} {H:Hp} {s:ai} {A:bg} {E:Value->ai->Prop}
theorem Md {prog:aK} {w:bt}:∀ {es:List DictEntry} {kvs:List (Key×Value)},Pairs (Ap prog w) es kvs->Pairs (Ix prog w) es (kvs.map fun kv=>(some kv.1,kv.2))
 | _,_,.nil=>.nil
 | _,_,.cons h1 h2 h3=>.cons (kv:=(some _,_)) h1 h2 (Md h3)
theorem Of {prog:aK} {w:bt} {h:Heap} {a:Addr} {kvs:List (Key×Value)} (d:h.DictOf (Ap prog w) a kvs):h.DictOf (Ix prog w) a (kvs.map fun kv=>(some kv.1,kv.2)):=by
 obtain⟨o,es,ep,h1,h2,h3,h4,h5,h6⟩:=d
 refine⟨o,es,ep,h1,h2,h3,fun e he=>?_,Md h5,?_⟩
 ·obtain⟨k,q1,q2⟩:=h4 e he
  exact⟨some k,q1,q2⟩
 ·rw [cS]
  have e:(iA ((fun x=>x.1)∘fun kv:Key×Value=>(some kv.1,kv.2)) kvs)=(kvs.map (·.1)).map some:=by rw [cS];rfl
  rw [e]
  exact List.pairwise_map.mpr (h6.imp fun n e=>n (aU e))
theorem Qr:∀ kvs:List (Key×Value),il (kvs.map fun kv=>(some kv.1,kv.2)) none=none
 | []=>rfl
 | kv::r=>by
  have:=Qr r
  unfold il at *
  rw [aP,c5]
  simpa using this
theorem b23 {a:Addr} {kvs:List (Key×V)} {Q:Value->ai->Prop} (I:Inv X pins σ H s) (e:Rd H a (.dK kvs)) (h:∀ s',Inv X pins σ H s'->Q (.bool false) s'):aG (model X.prog X.w) A (cg .In .none (.ref a)) Q E s:=by
 obtain⟨z,hd,vs,rel,dd⟩:=Cr I.hok e
 refine mZ (knd:=Ix X.prog X.w) (k:=none) rfl hd (Of dd).mapOf ?_
 rw [Qr]
 exact h _ (I.tok _)
theorem ak7 {a:Addr} {kvs:List (Key×V)} {Q:Value->ai->Prop} (I:Inv X pins σ H s) (e:Rd H a (.dK kvs)) (h:∀ s',Inv X pins σ H s'->Q (.bool true) s'):aG (model X.prog X.w) A (cg .NotIn .none (.ref a)) Q E s:=by
 obtain⟨z,hd,vs,rel,dd⟩:=Cr I.hok e
 refine k4 (knd:=Ix X.prog X.w) (k:=none) rfl hd (Of dd).mapOf ?_
 rw [Qr]
 exact h _ (I.tok _)
end
end L2
set_option maxHeartbeats 400000
namespace L2
open PySem PySem.Spec PyProof.Rows
section
variable {X:Cx} {pins:List (Addr×Obj)} {σ:St} {H:Hp} {s:ai}
noncomputable def Nl:List V->Hp->VK->Prop:=fun xs H Q=>∃ p kvs,xs=[.ref p]/\Rd H p (.dK kvs) /\ ∀ q,H q=none->Q (.ref q) (upd H q (.dK kvs))
theorem Pu:Cc X (.type "dict") Nl:=by
 intro pins s σ H xs us Q I r h
 obtain⟨p,kvs,rfl,e,q⟩:=h
 obtain⟨u,rfl,rx⟩:=Dq r
 cases rx
 obtain⟨z,hd,vs,rel,dd⟩:=Cr I.hok e
 refine kt_call_dict hd dd (by rw [<- rel.length];exact z) fun h' hm hs=>?_
 have kp:∀ b o',s.heap.get? b=some o'->h'.get? b=some o':=fun b o' hb=>by
  have hlt:=au hb
  rw [hs.2 b (aE hlt)]
  exact af _ hb
 exact⟨.ref s.heap.objs.size,_,I.laid (t':=s.toks) kp (ae _) (Jm z (by rw [beq_eq_false_iff_ne];exact bO (aE I.big)) rel hm),rfl,q _ (I.hok.fresh (ae _))⟩
theorem boot_dict:cN "dict" = some (.type "dict"):=by decide +kernel
noncomputable def bi4 (K:aa) (H:Hp) (p:Addr) (ks:List Key) (ds:List Dt):Prop:=∃ kvs,Rd H p (.dK kvs)/\kvs.map (·.1)=ks/\AtL K H ds (kvs.map (·.2))/\Bv ds<=40
noncomputable def D5:List Key->List Dt->Key->Option Dt
 | k::ks,d::ds,x=>if k=x then some d else D5 ks ds x
 | _,_,_=>none
noncomputable def Jk (ks':List Key) (ds':List Dt):List Key->List Dt->Bool
 | k::ks,d::ds=>(match D5 ks' ds' k with
  | none=>false
  | some d'=>deq d d')&&Jk ks' ds' ks ds
 | _,_=>true
noncomputable def P5 (ks:List Key) (ds:List Dt) (ks':List Key) (ds':List Dt):Bool:=ks.length==ks'.length&&Jk ks' ds' ks ds
noncomputable def bc1 (K:aa) (neg:Bool):R2:=fun x y H Q=>∃ a b ks ds ks' ds',x=.ref a/\y=.ref b/\bi4 K H a ks ds/\bi4 K H b ks' ds'/\Q (.bl (if neg then !P5 ks ds ks' ds' else P5 ks ds ks' ds')) H
theorem Kz {K:aa} {k:Key}:∀ {kvs:List (Key×V)} {ds:List Dt},AtL K H ds (kvs.map (·.2))->match D5 (kvs.map (·.1)) ds k with
  | none=>Bb kvs k=none
  | some d=>d∈ds /\ ∃ x,Bb kvs k=some x/\At K H d x
 | [],ds,h=>by
  cases ds <;> exact Pj
 | (k',v)::kvs,ds,h=>by
  rw [aP] at h
  cases ds with
  | nil=>unfold AtL at h;cases h
  | cons d ds=>
   unfold AtL at h
   obtain⟨y,ys,e,h1,h2⟩:=h
   cases e
   by_cases c:k'=k
   ·have:D5 (((k',v)::kvs).map (·.1)) (d::ds) k=some d:=if_pos c
    rw [this]
    exact⟨bx,v,Bn c,h1⟩
   ·have:D5 (((k',v)::kvs).map (·.1)) (d::ds) k=D5 (kvs.map (·.1)) ds k:=if_neg c
    rw [this]
    have ih:=Kz (k:=k) h2
    split at ih
    ·exact (Bi c).trans ih
    ·obtain⟨m,x,e1,e2⟩:=ih
     exact⟨aJ _ m,x,(Bi c).trans e1,e2⟩
theorem Tt:∀ {ds:List Dt} {d:Dt} {n:Nat},d∈ds->Bv ds<=n->dep d<=n
 | [],_,_,h,_=>by cases h
 | e::ds,d,n,h,g=>by
  unfold Bv at g
  obtain⟨g1,g2⟩:=Nat.max_le.mp g
  rcases List.mem_cons.mp h with rfl|h
  ·exact g1
  ·exact Tt h g2
theorem Qg {A:bg} {kvs':List (Key×V)} {kb:List (Key×Value)} {ds':List Dt} (I:Inv X pins σ H s) (r':KV kvs' kb) (t':AtL X.K H ds' (kvs'.map (·.2))) (hu:A.units+40<cLine) :
  ∀ {kvs:List (Key×V)} {ka:List (Key×Value)} {ds:List Dt},KV kvs ka->AtL X.K H ds (kvs.map (·.2))->Bv ds<=40->PySem.W.KeqHits A s kb ka (Jk (kvs'.map (·.1)) ds' (kvs.map (·.1)) ds)
 | [],_,ds,.nil,h,_=>by
  have:Jk (kvs'.map (·.1)) ds' (([]:List (Key×V)).map (·.1)) ds=true:=by cases ds <;> rfl
  rw [this]
  exact .nil
 | (k,v)::kvs,_,ds,.cons (b:=q) r rs,h,hd=>by
  rw [aP] at h
  cases ds with
  | nil=>unfold AtL at h;cases h
  | cons d ds=>
   unfold AtL at h
   obtain⟨y,ys,e,h1,h2⟩:=h
   cases e
   have hd1:=Tt bx hd
   have hd2:Bv ds<=40:=by unfold Bv at hd;exact (Nat.max_le.mp hd).2
   have ih:=Qg I r' t' hu rs h2 hd2
   obtain⟨k2,u⟩:=q
   obtain⟨ek,ru⟩:=r
   have ek:k=k2:=ek
   subst ek
   have hv:=r'.val k
   have ht:=Kz (k:=k) t'
   show PySem.W.KeqHits A s kb ((k,u)::_) ((match D5 (kvs'.map (·.1)) ds' k with
    | none=>false
    | some d'=>deq d d')&&Jk (kvs'.map (·.1)) ds' (kvs.map (·.1)) ds)
   split at ht
   ·rw [ht] at hv
    refine .miss ?_
    cases c:il kb k with
    | none=>rfl
    | some y=>rw [c] at hv;cases hv
   ·rename_i d' e
    obtain⟨m,x,e1,e2⟩:=ht
    rw [e1] at hv
    cases c:il kb k with
    | none=>rw [c] at hv;cases hv
    | some y=>
     rw [c] at hv
     exact .hit c (Y3 I d d' A v x u y h1 e2 ru hv (by omega)) ih
theorem a62 (hu:X.A.units+64<cLine) {x y:V} {u v:Value} {Q:VK} (I:Inv X pins σ H s) (rx:RelV x u) (ry:RelV y v) (h:bc1 X.K false x y H Q):aG (model X.prog X.w) X.A (cg .Eq u v) (EP X pins σ Q) X.xe s:=by
 obtain⟨a,b,ks,ds,ks',ds',rfl,rfl,⟨kvs,e,rfl,t,hd⟩,⟨kvs',e',rfl,t',hd'⟩,q⟩:=h
 cases rx;cases ry
 obtain⟨_,z1,ka,r1,d1⟩:=Cr I.hok e
 obtain⟨_,z2,kb,r2,d2⟩:=Cr I.hok e'
 refine PySem.W.keq_eq z1 z2 d1 d2 (by omega) (fun _=>Qg I r2 t' (by show X.A.units+1+40<cLine;omega) r1 t hd) ?_
 rw [<- r1.length,<- r2.length]
 unfold P5 at q
 rw [ag,ag] at q
 exact⟨.bl _,H,I,rfl,q⟩
theorem a67 (hu:X.A.units+64<cLine) {x y:V} {u v:Value} {Q:VK} (I:Inv X pins σ H s) (rx:RelV x u) (ry:RelV y v) (h:bc1 X.K true x y H Q):aG (model X.prog X.w) X.A (cg .NotEq u v) (EP X pins σ Q) X.xe s:=by
 obtain⟨a,b,ks,ds,ks',ds',rfl,rfl,⟨kvs,e,rfl,t,hd⟩,⟨kvs',e',rfl,t',hd'⟩,q⟩:=h
 cases rx;cases ry
 obtain⟨_,z1,ka,r1,d1⟩:=Cr I.hok e
 obtain⟨_,z2,kb,r2,d2⟩:=Cr I.hok e'
 refine PySem.W.keq_ne z1 z2 d1 d2 (by omega) (fun _=>Qg I r2 t' (by show X.A.units+1+40<cLine;omega) r1 t hd) ?_
 rw [<- r1.length,<- r2.length]
 unfold P5 at q
 rw [ag,ag] at q
 exact⟨.bl _,H,I,rfl,q⟩
end
end L2
set_option maxHeartbeats 4000000
namespace L2
open PySem PySem.Spec PyProof.Rows
noncomputable def rNo:R2:=fun _ _ _ _=>False
noncomputable def A0 (K:aa):R2:=fun x y H Q=>match x,y with
 | .int i,.int j=>Q (.int (i+j)) H
 | .str a,.str b=>a.length+b.length<=sizeLine/\Q (.str (a++b)) H
 | .ref a,.ref b=>bq3 (.ref a) (.ref b) H Q\/au9 K (.ref a) (.ref b) H Q\/au8 K (.ref a) (.ref b) H Q
 | _,_=>False
noncomputable def bq7:R2:=fun x y H Q=>match x,y with
 | .int i,.int j=>Q (.int (i - j)) H
 | _,_=>False
noncomputable def Fu (K:aa):R2:=fun x y H Q=>match x,y with
 | .int i,.int j=>CMul i j/\Q (.int (i * j)) H
 | _,_=>False
noncomputable def Bc:R2:=fun x y H Q=>match x,y with
 | .int i,.int j=>bi2 i j/\Q (.int (i / j)) H
 | _,_=>False
noncomputable def Av:R2:=fun x y H Q=>match x,y with
 | .int i,.int j=>0<j/\Q (.int (i % j)) H
 | _,_=>False
noncomputable def Mf:R2:=fun x y H Q=>match x,y with
 | .int i,.int j=>ay1 i j/\Q (.int (i ^ j.toNat)) H
 | _,_=>False
noncomputable def rOp (K:aa):nq->R2
 | .Add=>A0 K
 | .Sub=>bq7
 | .Mult=>Fu K
 | .FloorDiv=>Bc
 | .Mod=>Av
 | .Pow=>Mf
 | _=>rNo
section
variable {X:Cx}
theorem b24 (op:nq):OpR X (gn op) (rOp X.K op):=by
 intro pins s σ H x y v u Q I rx ry h
 cases op with
 | Add=>
  cases x <;> cases y <;> first
   | exact (show False from h).elim
   | exact a60 pins s σ H _ _ v u Q I rx ry ⟨_,_,rfl,rfl,h⟩
   | exact Qu pins s σ H _ _ v u Q I rx ry ⟨_,_,rfl,rfl,h⟩
   | exact (op_cat.or (op_catT.or al1)) pins s σ H _ _ v u Q I rx ry h
 | Sub=>cases x <;> cases y <;> first|exact (show False from h).elim|exact a69 pins s σ H _ _ v u Q I rx ry ⟨_,_,rfl,rfl,h⟩
 | Mult=>cases x <;> cases y <;> first|exact (show False from h).elim|exact a65 pins s σ H _ _ v u Q I rx ry ⟨_,_,rfl,rfl,h⟩
 | FloorDiv=>cases x <;> cases y <;> first|exact (show False from h).elim|exact al2 pins s σ H _ _ v u Q I rx ry ⟨_,_,rfl,rfl,h⟩
 | Mod=>cases x <;> cases y <;> first|exact (show False from h).elim|exact a64 pins s σ H _ _ v u Q I rx ry ⟨_,_,rfl,rfl,h⟩
 | Pow=>cases x <;> cases y <;> first|exact (show False from h).elim|exact a68 pins s σ H _ _ v u Q I rx ry ⟨_,_,rfl,rfl,h⟩
 | _=>exact (show False from h).elim
end
noncomputable def Be (K:aa) (neg:Bool):R2:=fun x y H Q=>match x,y with
 | .ref a,.ref b=>bc0 K neg (.ref a) (.ref b) H Q\/ac9 K neg (.ref a) (.ref b) H Q\/False\/False\/bc1 K neg (.ref a) (.ref b) H Q
 | .ref a,y=>ac9 K neg (.ref a) y H Q\/False
 | x,.ref b=>ac9 K neg x (.ref b) H Q
 | .int i,.int j=>Q (.bl (if neg then !decide (i=j) else decide (i=j))) H
 | .str i,.str j=>Q (.bl (if neg then !decide (i=j) else decide (i=j))) H
 | .bl i,.bl j=>Q (.bl (if neg then !(i==j) else (i==j))) H
 | x,y=>bf0 x y=true/\Q (.bl (if neg then !decide (x=y) else decide (x=y))) H
noncomputable def bq4:R2:=fun x y H Q=>match x,y with
 | .int i,.int j=>Q (.bl (decide (i<j))) H
 | .str i,.str j=>Q (.bl (decide (i.cps.toList<j.cps.toList))) H
 | _,_=>False
noncomputable def b31:R2:=fun x y H Q=>match x,y with
 | .int i,.int j=>Q (.bl (decide (i<=j))) H
 | .str i,.str j=>Q (.bl (!decide (j.cps.toList<i.cps.toList))) H
 | _,_=>False
noncomputable def b27:R2:=fun x y H Q=>match x,y with
 | .int i,.int j=>Q (.bl (decide (j<i))) H
 | _,_=>False
noncomputable def b26:R2:=fun x y H Q=>match x,y with
 | .int i,.int j=>Q (.bl (decide (j<=i))) H
 | _,_=>False
noncomputable def O4 (K:aa) (neg:Bool):R2:=fun x y H Q=>match x,y with
 | .non,.ref p=>rIn K neg .non (.ref p) H Q \/ ∃ kvs,Rd H p (.dK kvs)/\Q (.bl neg) H
 | x,.ref p=>rIn K neg x (.ref p) H Q \/ ∃ o,Er H p x o/\Q (.bl (if neg then !o.isSome else o.isSome)) H
 | _,_=>False
noncomputable def Ds (neg:Bool):R2:=fun x y H Q=>match y with
 | .non=>Q (.bl (if neg then !decide (x=.non) else decide (x=.non))) H
 | .bl d=>(match x with
  | .bl c=>Q (.bl (if neg then !(c==d) else (c==d))) H
  | _=>False)
 | _=>False
noncomputable def Ld (K:aa):mL->R2
 | .Eq=>Be K false
 | .NotEq=>Be K true
 | .Lt=>bq4
 | .LtE=>b31
 | .Gt=>b27
 | .GtE=>b26
 | .In=>O4 K false
 | .NotIn=>O4 K true
 | .Is=>Ds false
 | .IsNot=>Ds true
section
variable {X:Cx}
theorem Lr (hu:X.A.units+64<cLine) (op:mL):OpR X (cg op) (Ld X.K op):=by
  intro pins s σ H x y v u Q I rx ry h
  cases op with
  | Eq=>
    cases x <;> cases y <;> first
      | (rcases h with h|h|h|h|h
         . exact a61 (by omega) pins s σ H _ _ v u Q I rx ry h
         . exact Qv hu I rx ry (.inl ⟨_,rfl⟩) h
         . exact h.elim
         . exact h.elim
         . exact a62 hu I rx ry h)
      | (rcases h with h|h
         . exact Qv hu I rx ry (.inl ⟨_,rfl⟩) h
         . exact h.elim)
      | exact Qv hu I rx ry (.inr ⟨_,rfl⟩) h
      | exact Uk pins s σ H _ _ v u Q I rx ry h
      | exact Uk pins s σ H _ _ v u Q I rx ry ⟨rfl,by rw [Ip,dO];exact h⟩
      | exact Uk pins s σ H _ _ v u Q I rx ry ⟨rfl,by rw [Iq,dO];exact h⟩
      | exact Uk pins s σ H _ _ v u Q I rx ry ⟨rfl,by rw [M2];exact h⟩
  | NotEq=>
    cases x <;> cases y <;> first
      | (rcases h with h|h|h|h|h
         . exact a66 (by omega) pins s σ H _ _ v u Q I rx ry h
         . exact Qw hu I rx ry (.inl ⟨_,rfl⟩) h
         . exact h.elim
         . exact h.elim
         . exact a67 hu I rx ry h)
      | (rcases h with h|h
         . exact Qw hu I rx ry (.inl ⟨_,rfl⟩) h
         . exact h.elim)
      | exact Qw hu I rx ry (.inr ⟨_,rfl⟩) h
      | exact Ul pins s σ H _ _ v u Q I rx ry h
      | exact Ul pins s σ H _ _ v u Q I rx ry ⟨rfl,by rw [Ip,dO];exact h⟩
      | exact Ul pins s σ H _ _ v u Q I rx ry ⟨rfl,by rw [Iq,dO];exact h⟩
      | exact Ul pins s σ H _ _ v u Q I rx ry ⟨rfl,by rw [M2];exact h⟩
  | Lt=>cases x <;> cases y <;> first|exact (show False from h).elim|exact bo8 pins s σ H _ _ v u Q I rx ry ⟨_,_,rfl,rfl,h⟩|exact Wr pins s σ H _ _ v u Q I rx ry ⟨_,_,rfl,rfl,h⟩
  | LtE=>cases x <;> cases y <;> first|exact (show False from h).elim|exact bo7 pins s σ H _ _ v u Q I rx ry ⟨_,_,rfl,rfl,h⟩|exact Wq pins s σ H _ _ v u Q I rx ry ⟨_,_,rfl,rfl,h⟩
  | Gt=>cases x <;> cases y <;> first|exact (show False from h).elim|exact bo6 pins s σ H _ _ v u Q I rx ry ⟨_,_,rfl,rfl,h⟩
  | GtE=>cases x <;> cases y <;> first|exact (show False from h).elim|exact bo5 pins s σ H _ _ v u Q I rx ry ⟨_,_,rfl,rfl,h⟩
  | In=>cases x <;> cases y <;> first|exact (show False from h).elim|exact h.elim (Mb pins s σ H _ _ v u Q I rx ry) (fun⟨o,g,q⟩=>by cases ry;exact b15 (by omega) I g rx fun s' I'=>⟨.bl _,H,I',rfl,q⟩)|exact h.elim (Mb pins s σ H _ _ v u Q I rx ry) fun⟨kvs,g,q⟩=>by cases rx;cases ry;exact b23 I g fun s' I'=>⟨.bl _,H,I',rfl,q⟩
  | NotIn=>cases x <;> cases y <;> first|exact (show False from h).elim|exact h.elim (Gy pins s σ H _ _ v u Q I rx ry) (fun⟨o,g,q⟩=>by cases ry;exact ai2 (by omega) I g rx fun s' I'=>⟨.bl _,H,I',rfl,q⟩)|exact h.elim (Gy pins s σ H _ _ v u Q I rx ry) fun⟨kvs,g,q⟩=>by cases rx;cases ry;exact ak7 I g fun s' I'=>⟨.bl _,H,I',rfl,q⟩
  | Is=>cases y <;> first|exact (show False from h).elim|exact a63 pins s σ H _ _ v u Q I rx ry ⟨rfl,h⟩|(cases x <;> first|exact (show False from h).elim|(cases rx;cases ry;exact is_bool ⟨.bl _,H,I,rfl,h⟩))
  | IsNot=>cases y <;> first|exact (show False from h).elim|exact al3 pins s σ H _ _ v u Q I rx ry ⟨rfl,h⟩|(cases x <;> first|exact (show False from h).elim|(cases rx;cases ry;exact isnot_bool ⟨.bl _,H,I,rfl,h⟩))
end
noncomputable def Ut:V->Hp->VK->Prop:=fun x H Q=>match x with
 | .int i=>Q (.int (-i)) H
 | _=>False
theorem b74 {X:Cx}:UnR X (nE .USub) Ut:=by
 intro pins s σ H x v Q I rx h
 cases x <;> first|exact (show False from h).elim|exact bg4 pins s σ H _ v Q I rx ⟨_,rfl,h⟩
noncomputable def ad1:V->Hp->VK->Prop:=fun x H Q=>match x with
 | .int i=>Q (.int (Builtin.bitNot i)) H
 | _=>False
theorem bl3 {X:Cx}:UnR X (nE .Invert) ad1:=by
 intro pins s σ H x v Q I rx h
 cases x <;> first|exact (show False from h).elim|exact bg3 pins s σ H _ v Q I rx ⟨_,rfl,h⟩
theorem Vc {X:Cx}:bi9 X (ag1 X.K):=by
 intro pins s σ H x v Q I rx h
 cases x with
 | non=>exact K0 pins s σ H _ v Q I rx ⟨_,rfl,h⟩
 | bl b=>exact K0 pins s σ H _ v Q I rx ⟨_,rfl,h⟩
 | int i=>exact K0 pins s σ H _ v Q I rx ⟨_,rfl,h⟩
 | str y=>exact K0 pins s σ H _ v Q I rx ⟨_,⟨h.1,rfl⟩,h.2⟩
 | ref p=>exact K0 pins s σ H _ v Q I rx h
 | _=>exact (show False from h).elim
inductive SqX (K:aa) (H:Hp) (p:Addr) (i:Int) (xs:List V):Prop where
 | inl (h:SqL K H p xs)
 | inr (h:SqT K H p xs)
 | dk (h:∀ v,atI xs i=some v->Er H p (.int i) (some v))
noncomputable def A6 (K:aa):R2:=fun x y H Q=>match x,y with
 | .str z,.int i=>z.length<=sizeLine /\ ∃ c,atI z.cps.toList i=some c/\Q (.str ⟨#[c]⟩) H
 | .ref p,.int i=>∃ xs v,SqX K H p i xs/\atI xs i=some v/\Q v H
 | .ref p,.str k=>∃ v,Er H p (.str k) (some v)/\Q v H
 | .ref p,.ref b=>∃ v,Er H p (.ref b) (some v)/\Q v H
 | _,_=>False
theorem b19 {X:Cx} (hu:X.A.units+64<cLine):IxR X (A6 X.K):=by
  intro value slice pins s σ H x y v u Q I rx ry h hs
  cases x <;> cases y <;> first
    | exact (show False from h).elim
    | (obtain⟨h1,c,h2,h3⟩:=h;exact a34 value slice pins s σ H _ _ v u Q I rx ry ⟨_,_,c,rfl,rfl,h1,h2,h3⟩ hs)
    | (obtain⟨xs,w,h1|h1|h1,h2,h3⟩:=h
       . exact aj8 value slice pins s σ H _ _ v u Q I rx ry ⟨_,_,_,_,rfl,rfl,h1,h2,h3⟩ hs
       . exact a35 value slice pins s σ H _ _ v u Q I rx ry ⟨_,_,_,_,rfl,rfl,h1,h2,h3⟩ hs
       . exact Ue hu value slice pins s σ H _ _ v u Q I rx ry ⟨_,w,rfl,h1 w h2,h3⟩ hs)
    | (obtain⟨w,h1,h2⟩:=h;exact Ue hu value slice pins s σ H _ _ v u Q I rx ry ⟨_,w,rfl,h1,h2⟩ hs)
noncomputable def ae0:V->V->V->Hp->(Hp->Prop)->Prop:=fun o i v H N=>match o,i with
 | .ref p,.int k=>(∃ xs j,H p=some (.lst xs)/\ixN xs.length k=some j/\N (upd H p (.lst (xs.set j v)))) \/ ∃ H',DPut H p (.int k) v H'/\N H'
 | .ref p,i=>∃ H',DPut H p i v H'/\N H'
 | _,_=>False
theorem bw4 {X:Cx} (hu:X.A.units+64<cLine):a15 X ae0:=by
 intro pins s σ H o i v ov iv u Q I ro ri rv h
 cases o with
 | ref p=>
  have dp:∀ {H'},DPut H p i v H'->Q H'->aG (model X.prog X.w) X.A (setItem ov iv u) (fun _ s'=>∃ H',Inv X pins σ H' s'/\Q H') X.xe s:=fun {H'} g q=>by
   cases ro
   exact Vs (by omega) I g ri rv fun s' I'=>⟨H',I',q⟩
  cases i with
  | int k=>
   rcases h with ⟨xs,j,h1,h2,h3⟩|⟨H',g,q⟩
   ·exact ae5 pins s σ H _ _ v ov iv u Q I ro ri rv ⟨p,xs,k,j,rfl,rfl,h1,h2,h3⟩
   ·exact dp g q
  | _=>obtain⟨H',g,q⟩:=h;exact dp g q
 | _=>exact (show False from h).elim
noncomputable def Cl (K:aa) (f:Str):V->Hp->VK->Prop:=fun x H Q=>match x with
 | .ref a=>(∃ C dx fs v,H a=some (.ins C dx fs)/\Cls K C/\NoAttr K C f/\fs.lookup f=some v/\Q v H)\/(∃ C fs v,ExcAt H a C fs/\ECls K C/\NoAttr K C f/\fs.lookup f=some v/\Q v H)
 | _=>False
noncomputable def av0 (K:aa) (f:Str):V->V->Hp->(Hp->Prop)->Prop:=fun x y H N=>match x with
 | .ref a=>(∃ C dx fs,H a=some (.ins C dx fs)/\Cls K C/\NoAttr K C f/\fs.length<1000/\N (upd H a (.ins C dx (El f y fs))))\/(∃ C,ECls K C/\NoAttr K C f/\bi7 H a C f y N)
 | _=>False
section
variable {X:Cx} {pins:List (Addr×Obj)} {σ:St} {H:Hp} {s:ai} {A:bg} {E:Value->ai->Prop}
theorem bk4 {f:Str} {x:V} {u:Value} {b:Bool} {Q:VK} (I:Inv X pins σ H s) (rx:RelV x u) (h:Cl X.K f x H Q):aG (model X.prog X.w) A (lE u f b) (EP X pins σ Q) E s:=by
 cases x with
 | ref a=>
  cases rx
  rcases h with ⟨C,dx,fs,v,ea,c,n,l,q⟩|⟨C,fs,v,ea,c,n,l,q⟩
  ·exact Qe I ea c n l fun u' s2 I2 ru=>⟨v,H,I2,ru,q⟩
  ·exact V1 I ea c n l fun u' s2 I2 ru=>⟨v,H,I2,ru,q⟩
 | _=>exact (show False from h).elim
theorem bw3 {f:Str} {x y:V} {u v:Value} {N:Hp->Prop} {Q:Unit->ai->Prop} (I:Inv X pins σ H s) (rx:RelV x u) (ry:RelV y v) (h:av0 X.K f x y H N) (hQ:∀ H' s',Inv X pins σ H' s'->N H'->Q () s') :
  aG (model X.prog X.w) A (mX u f v) Q E s:=by
 cases x with
 | ref a=>
  cases rx
  rcases h with ⟨C,dx,fs,ea,c,n,l,q⟩|⟨C,c,n,q⟩
  ·exact R6 I ea c n l ry fun s3 I3=>hQ _ _ I3 q
  ·exact W1 I c n ry q hQ
 | _=>exact (show False from h).elim
end
structure FI where
 f:Addr
 fd:aH
 ps:List Str
 k:Nat
 sp:Sp
 dfs:List V
 ds:List Value
structure MI where
 C:Addr
 i:FI
inductive GB where
 | fn (i:FI)
 | cls (C:Addr) (i:Option FI)
 | met (m:Str) (l:List MI)
 | val (v:V) (u:Value)
 | exc (C:Addr) (i:Option FI)
 | ini (C:Addr) (i:FI)
 | dic (a:Addr) (kvs:List (Key×V))
 | key (m:Str) (l:List MI)
noncomputable def ar9 (gb:List (Str×GB)):List FI:=gb.filterMap fun p=>match p.2 with
 | .fn i=>some i
 | _=>none
noncomputable def B6:List (Str×GB)->Str->Option (List MI)
 | [],_=>none
 | (_,.met m l)::r,x=>if m=x then some l else B6 r x
 | _::r,x=>B6 r x
theorem Bh:∀ {gb:List (Str×GB)} {x:Str} {l:List MI},B6 gb x=some l -> ∃ k,(k,GB.met x l)∈gb
 | (k,.met m l')::r,x,l,h=>by
  unfold B6 at h
  by_cases e:m=x
  ·rw [if_pos e] at h;cases h;subst e;exact⟨k,by simp⟩
  ·rw [if_neg e] at h;obtain⟨k,q⟩:=Bh h;exact⟨k,aJ _ q⟩
 | (_,.fn _)::r,x,l,h=>by unfold B6 at h;obtain⟨k,q⟩:=Bh h;exact⟨k,aJ _ q⟩
 | (_,.cls _ _)::r,x,l,h=>by unfold B6 at h;obtain⟨k,q⟩:=Bh h;exact⟨k,aJ _ q⟩
 | (_,.val _ _)::r,x,l,h=>by unfold B6 at h;obtain⟨k,q⟩:=Bh h;exact⟨k,aJ _ q⟩
 | (_,.dic _ _)::r,x,l,h=>by unfold B6 at h;obtain⟨k,q⟩:=Bh h;exact⟨k,aJ _ q⟩
 | (_,.key _ _)::r,x,l,h=>by unfold B6 at h;obtain⟨k,q⟩:=Bh h;exact⟨k,aJ _ q⟩
 | (_,.ini _ _)::r,x,l,h=>by unfold B6 at h;obtain⟨k,q⟩:=Bh h;exact⟨k,aJ _ q⟩
 | (_,.exc _ _)::r,x,l,h=>by unfold B6 at h;obtain⟨k,q⟩:=Bh h;exact⟨k,aJ _ q⟩
noncomputable def Go:List (Str×GB)->Str->Option (List MI)
 | [],_=>none
 | (_,g)::r,x=>match g with
  | .key m l=>if m=x then some l else Go r x
  | _=>Go r x
theorem Ez:∀ {gb:List (Str×GB)} {x:Str} {l:List MI},Go gb x=some l -> ∃ k,(k,GB.key x l)∈gb
 | [],_,_,h=>by cases h
 | (k,g)::r,x,l,h=>by
  unfold Go at h
  split at h
  ·split at h
   ·rename_i e
    cases h
    subst e
    exact⟨k,bx⟩
   ·obtain⟨k,q⟩:=Ez h;exact⟨k,aJ _ q⟩
  ·obtain⟨k,q⟩:=Ez h;exact⟨k,aJ _ q⟩
structure Sg where
 K:aa
 N:List Str
 sc:List (Str×cF)
 gb:List (Str×GB)
 bl:List Str
 top:Bool
 calm:Bool
noncomputable def Ca:List Str->Str->Nat->Option Nat
 | [],_,_=>none
 | y::r,x,i=>if y=x then some i else Ca r x (i+1)
theorem Mg:∀ {N:List Str} {x:Str} {i j:Nat},Ca N x j=some i->j<=i/\N[i - j]? = some x
 | [],_,_,_,h=>by cases h
 | y::r,x,i,j,h=>by
  unfold Ca at h
  by_cases e:y=x
  ·rw [if_pos e] at h
   cases h
   refine⟨ae _,?_⟩
   rw [Nat.sub_self,e]
   rfl
  ·rw [if_neg e] at h
   obtain⟨h1,h2⟩:=Mg h
   refine⟨by omega,?_⟩
   have:i - j=(i - (j+1))+1:=by omega
   rw [this,bD]
   exact h2
theorem Ef {N:List Str} {x:Str} {i:Nat} (h:Ca N x 0=some i):N[i]? = some x:=(Mg h).2
noncomputable def Ea (x:Str):Bool:=!(x==("__debug__" : Str)) && !(x==("__classdict__" : Str)) && !(x==("__name__" : Str))
noncomputable def Fs (G:Sg) (x:Str):Bool:=(G.sc.lookup x==some .globalImplicit)&&Ea x
noncomputable def Sy (x:Str):Option String:=
 if x = "int" then some "int" else if x = "bool" then some "bool" else if x = "str" then some "str" else if x = "list" then some "list" else if x = "tuple" then some "tuple" else if x = "dict" then some "dict" else if x = "ValueError" then some "ValueError" else none
theorem ah9:cN "ValueError" = some (.type "ValueError"):=by decide +kernel
theorem Xd {x:Str} {T:String} (h:Sy x=some T):cN x=some (.type T):=by
 unfold Sy at h
 by_cases e1:x = "int"
 ·rw [if_pos e1] at h;cases h;rw [e1];exact kx
 rw [if_neg e1] at h
 by_cases e2:x = "bool"
 ·rw [if_pos e2] at h;cases h;rw [e2];exact PyProof.Rows.boot_bool
 rw [if_neg e2] at h
 by_cases e3:x = "str"
 ·rw [if_pos e3] at h;cases h;rw [e3];exact PyProof.Rows.boot_str
 rw [if_neg e3] at h
 by_cases e4:x = "list"
 ·rw [if_pos e4] at h;cases h;rw [e4];exact gT
 rw [if_neg e4] at h
 by_cases e5:x = "tuple"
 ·rw [if_pos e5] at h;cases h;rw [e5];exact jD
 rw [if_neg e5] at h
 by_cases e6:x = "dict"
 ·rw [if_pos e6] at h;cases h;rw [e6];exact PyProof.Rows.boot_dict
 rw [if_neg e6] at h
 by_cases e7:x = "ValueError"
 ·rw [if_pos e7] at h;cases h;rw [e7];exact ah9
 rw [if_neg e7] at h
 cases h
noncomputable def Lh (CX:CXT) (X:Cx):Prop:=∀ Ex,Meets X Ex -> ∀ (pins:List (Addr×Obj)) (σ:St) (H:Hp) (s:ai) (e:Value) (s':ai),Inv X pins σ H s->CX X.stack H s (fun v _ H'=>∃ a,v=.ref a/\Ex σ a H') e s'->X.xe e s'
structure Eg (X:Cx) (i:FI):Prop where
 kp:aV X.K (.ref i.f)=true
 ok:∃ CX,(∀ X':Cx,X'.prog=X.prog->X'.w=X.w->Lh CX X')/\FnOk X.prog X.w X.K X.mg X.base CX i.k i.f i.fd i.ps i.sp
 room:Room i.k X.A
 binds:∀ j,j<=i.dfs.length->Binds X.K i.fd i.ps (i.ds.drop j)
 vals:Vals i.dfs i.ds
noncomputable def Fv (X:Cx) (C:Addr):Option FI->Prop
 | none=>ar X.K (.ref C) "__init__" = some (some (.builtin "ValueError.__init__"))
 | some i=>ar X.K (.ref C) "__init__" = some (some (.ref i.f))/\c6 X.K (.ref i.f)=true/\Eg X i/\Room (i.k+1) X.A
noncomputable def Xg (X:Cx) (C:Addr):Option FI->Prop
 | none=>cP X.K C=true/\ar X.K (.ref C) "__init__" = some (some (.builtin "object.__init__"))
 | some i=>cP X.K C=true/\ar X.K (.ref C) "__init__" = some (some (.ref i.f))/\c6 X.K (.ref i.f)=true/\Eg X i/\Room (i.k+1) X.A
structure Yk (K:aa) (C f:Addr):Prop where
 ga:dD K (.ref C) "__getattribute__" = some (some (.builtin "type.__getattribute__"))
 rd:PySem.W.readsIn K C (.type "type")=true
 fc:PySem.W.findCls K (.ref C) (.type "type") "__init__" = some (.val (.ref f))
 hh:gh (.ref f)=true
noncomputable def Ny (P:aK) (w:bt) (K:aa) (a:Addr) (kvs:List (Key×V)):Prop:=(a==c4)=false /\ ∃ vs,KV kvs vs /\ ∀ h:Heap,K.In h->h.DictOf (Ap P w) a vs
structure ah4 (X:Cx) (m:Str) (mi:MI):Prop where
 c:Cls X.K mi.C
 k:Ct X.K mi.C m mi.i.f
 sg:dD X.K (.ref mi.i.f) "__get__" = some (some (.builtin "function.__get__"))
 tk:fR X.K (.ref mi.i.f)=some false
 cn:PySem.W.copiedNames.contains m=false
 fi:Eg X mi.i
 room:Room (mi.i.k+2) X.A
noncomputable def GBOk (X:Cx) (x:Str):GB->Prop
 | .dic a kvs=>X.mg x=some (.ref a)/\Ny X.prog X.w X.K a kvs
 | .fn i=>X.mg x=some (.ref i.f)/\Eg X i
 | .val v u=>X.mg x=some u/\RelV v u
 | .exc C oi=>X.mg x=some (.ref C)/\aV X.K (.ref C)=true/\ECls X.K C/\Fv X C oi
 | .cls C oi=>X.mg x=some (.ref C)/\aV X.K (.ref C)=true/\Xg X C oi
 | .met m l=>∀ mi∈l,Cls X.K mi.C/\Ct X.K mi.C m mi.i.f/\Eg X mi.i
 | .ini C i=>X.mg x=some (.ref C)/\Yk X.K C i.f/\Eg X i
 | .key m l=>∀ mi∈l,ah4 X m mi
theorem GBOk.to {X X':Cx} (hm:X'.mg=X.mg) (hK:X'.K=X.K) (hP:X'.prog=X.prog) (hw:X'.w=X.w) (hA:∀ k,Room k X.A->Room k X'.A) (hf:∀ i,Eg X i->Eg X' i) {x:Str} {g:GB} (h:GBOk X x g):GBOk X' x g:=by
 cases g with
 | fn i=>exact⟨hm▸h.1,hf i h.2⟩
 | val v u=>exact⟨hm▸h.1,h.2⟩
 | exc C oi=>
  obtain⟨a,b,c,d⟩:=h
  refine⟨hm▸a,hK▸b,hK▸c,?_⟩
  cases oi with
  | none=>unfold Fv at d ⊢;rw [hK];exact d
  | some i=>obtain⟨d1,d2,d3,d4⟩:=d;exact⟨hK▸d1,hK▸d2,hf i d3,hA _ d4⟩
 | cls C oi=>
  obtain⟨a,b,d⟩:=h
  refine⟨hm▸a,hK▸b,?_⟩
  cases oi with
  | none=>unfold Xg at d ⊢;rw [hK];exact d
  | some i=>obtain⟨d1,d2,d3,d4,d5⟩:=d;exact⟨hK▸d1,hK▸d2,hK▸d3,hf i d4,hA _ d5⟩
 | met m l=>exact fun mi hi=>⟨hK▸(h mi hi).1,hK▸(h mi hi).2.1,hf _ (h mi hi).2.2⟩
 | ini C i=>exact⟨hm▸h.1,hK▸h.2.1,hf i h.2.2⟩
 | dic a kvs=>exact⟨hm▸h.1,by rw [hP,hw,hK];exact h.2⟩
 | key m l=>exact fun mi hi=>let q:=h mi hi;⟨hK▸q.c,hK▸q.k,hK▸q.sg,hK▸q.tk,q.cn,hf _ q.fi,hA _ q.room⟩
noncomputable def FrH (X:Cx):Prop:=∃ (e0:Env) (o0:List Env) (L:Addr),X.stack=e0::o0/\e0.frame=some L/\X.env.frame=some L
structure GOk (X:Cx) (G:Sg):Prop where
 K:X.K=G.K
 kind:X.env.scope.kind=.function
 own:G.top=true->hZ (model X.prog X.w) X.A X.env X.xe
 N:X.N=G.N
 nd:G.N.Nodup
 sc:∀ x,X.env.scope.names.lookup x=G.sc.lookup x
 vis:∀ x∈G.N,Vis X.env.scope x
 top:G.top=true -> ∀ x,X.fn x=true
 calm:G.calm=X.calm
 hd:X.calm=true->X.A.handled=none
 units:X.A.units+64<cLine
 cel:∀ x,(X.env.scope.names.lookup x=some .cell\/X.env.scope.names.lookup x=some .free) -> ∃ c,X.env.cells.lookup x=some c
 gb:∀ x g,(x,g)∈G.gb->GBOk X x g
 bl:∀ x,G.bl.contains x=true->X.mg x=none
 frm:G.top=true->X.stack=X.env::X.outer/\X.env.frame=some X.env.locals
 fr:FrH X
section
variable {X:Cx} {G:Sg}
theorem GOk.at_ (O:GOk X G) (x:Str) (g:GB) (e:G.gb.lookup x=some g):GBOk X x g:=O.gb x g (b9 e)
theorem GOk.fns (O:GOk X G) {i:FI} (h:i∈ar9 G.gb):Eg X i:=by
 obtain⟨⟨x,g⟩,hx,e⟩:=List.mem_filterMap.mp h
 cases g with
 | fn j=>cases e;exact (O.gb x _ hx).2
 | _=>cases e
theorem GOk.met (O:GOk X G) (m:Str) (l:List MI) (e:B6 G.gb m=some l):∀ mi∈l,Cls X.K mi.C/\Ct X.K mi.C m mi.i.f/\Eg X mi.i:=by
 obtain⟨x,hx⟩:=Bh e
 exact O.gb x _ hx
theorem GOk.gl (O:GOk X G) {x:Str} (h:Fs G x=true):Gl X x:=by
 unfold Fs at h
 rw [aw] at h
 have:=cv h.1
 unfold Gl
 show X.env.scope.names.lookup x=_
 rw [O.sc x]
 exact this
theorem Nf {x:Str} (h:Ea x=true):(x==("__debug__" : Str))=false/\(x==("__classdict__" : Str))=false/\x ≠ "__name__" := by
 unfold Ea at h
 simp only [aw,jl] at h
 exact⟨h.1.1,h.1.2,fun e=>by rw [e] at h;simp at h⟩
theorem Hl {x:Str} (h:Fs G x=true):(x==("__debug__" : Str))=false/\(x==("__classdict__" : Str))=false/\x ≠ "__name__" := by
 unfold Fs at h
 rw [aw] at h
 exact Nf h.2
noncomputable def Pm (G:Sg) (x:Str):DE:=
 match Ca G.N x 0 with
 | some i=>if Ea x=true then Ab i else dNo
 | none=>if Fs G x=true then (match G.gb.lookup x with
   | some (.val v _)=>dC v
   | some (.exc C _)=>dC (.ref C)
   | some (.cls C _)=>dC (.ref C)
   | some (.ini C _)=>dC (.ref C)
   | some _=>dNo
   | none=>if G.bl.contains x=true then (match Sy x with
    | some T=>dC (.ty T)
    | none=>dNo) else dNo) else dNo
theorem Bf {e:Expr}:QE X e dNo:=fun _ _ _ _ _ _ _ _ h=>h.elim
theorem ba4 {i:Nat} {x:Str} {pos:Pos} (hN:X.N[i]? = some x) (hv:Vis X.env.scope x) (hp:Ea x=true):QE X (.Name x pos) (Ab i):=by
 intro Ex _ pins s σ H Q I h
 unfold Ab at h
 split at h
 ·rename_i v e
  exact a78 hN hv (Nf hp).1 (Nf hp).2.1 pins s σ H Q I ⟨v,e,h⟩
 ·exact h.elim
theorem Nj (O:GOk X G) (x:Str) (pos:Pos):QE X (.Name x pos) (Pm G x):=by
 unfold Pm
 split
 ·rename_i i e
  split
  ·rename_i hp
   have hi:=Ef e
   exact ba4 (by rw [O.N];exact hi) (O.vis x (aY hi)) hp
  ·exact Bf
 ·split
  ·rename_i hg
   have dd:=Hl hg
   split
   ·rename_i v u e
    obtain⟨h1,h2⟩:=O.at_ x _ e
    exact fun _ _=>G1 (O.gl hg) h1 h2 dd.1
   ·rename_i C oi e
    exact fun _ _=>G1 (v:=.ref C) (O.gl hg) (O.at_ x _ e).1 rfl dd.1
   ·rename_i C oi e
    exact fun _ _=>G1 (v:=.ref C) (O.gl hg) (O.at_ x _ e).1 rfl dd.1
   ·rename_i C i e
    exact fun _ _=>G1 (v:=.ref C) (O.gl hg) (O.at_ x _ e).1 rfl dd.1
   ·exact Bf
   ·split
    ·rename_i hb
     split
     ·rename_i T e
      exact fun _ _=>al6 (O.gl hg) (O.bl x hb) (Xd e) rfl dd.2.2 dd.1
     ·exact Bf
    ·exact Bf
  ·exact Bf
noncomputable def ag7:Const->DE
 | .int i=>dC (.int i)
 | .bool b=>dC (.bl b)
 | .none=>dC .non
 | .str x=>dC (.str x)
 | _=>dNo
theorem O0 (c:Const) (j:Nat) (pos:Pos):QE X (.Constant c j pos) (ag7 c):=by
 cases c with
 | int i=>exact fun _ _=>a72
 | bool b=>exact fun _ _=>bo9
 | none=>exact fun _ _=>a74
 | str x=>exact fun _ _=>a76
 | _=>exact Bf
variable {a b c:Expr} {da db dc:DE} {ta tb:DT} {es:List Expr} {r:DA} {pos:Pos}
theorem a88 (op:nq) (ha:QE X a da) (hb:QE X b db):QE X (.BinOp a op b pos) (Ae (rOp X.K op) da db):=fun Ex m=>bp1 (b24 op) (ha Ex m) (hb Ex m)
theorem a99 (ha:QE X a da):QE X (.UnaryOp .USub a pos) (dUn Ut da):=fun Ex m=>au4 b74 (ha Ex m)
theorem a94 (ha:QE X a da):QE X (.UnaryOp .Invert a pos) (dUn ad1 da):=fun Ex m=>au4 bl3 (ha Ex m)
theorem a91 (hu:X.A.units+64<cLine) (op:mL) (ha:QE X a da) (hb:QE X b db) (hm:dR op b=false):QE X (.Compare a [op] [b] pos) (Ae (Ld X.K op) da db):=fun Ex m=>al7 (Lr hu op) (ha Ex m) (hb Ex m) hm
theorem bb4 (hu:X.A.units+64<cLine) (op:mL) (ha:QE X a da) (hb:QE X b db) (hm:dR op b=false):QT X (.Compare a [op] [b] pos) (A7 (Ae (Ld X.K op) da db)):=by
 intro Ex m pins s σ H Q I h
 refine kJ (thn (ha Ex m pins s σ H _ I h) fun v s1 ⟨x,H1,I1,r1,q1⟩=>thn (hb Ex m pins s1 σ H1 _ I1 q1) fun u s2 ⟨y,H2,I2,r2,q2⟩=>
  thn (Lr hu op pins s2 σ H2 x y v u _ I2 r1 r2 q2) fun c s3 ⟨z,H3,I3,r3,q3⟩=>?_) hm
 cases z with
 | bl k=>cases r3;exact eQ ⟨H3,I3,q3⟩
 | _=>exact (show False from q3).elim
theorem ab8 (hu:X.A.units+64<cLine) (op op':mL) (ha:QE X a da) (hb:QE X b db) (hc:QE X c dc) (hm:lastMarks [op,op'] [b,c]=false) :
  QE X (.Compare a [op,op'] [b,c] pos) (P3 (Ld X.K op) (Ld X.K op') da db dc):=by
 intro Ex m pins s σ H Q I h
 refine Compare_chain (thn (ha Ex m pins s σ H _ I h) fun v s1 ⟨x,H1,I1,r1,q1⟩=>chain_link (thn (hb Ex m pins s1 σ H1 _ I1 q1) fun u s2 ⟨y,H2,I2,r2,q2⟩=>
  thn (Lr hu op pins s2 σ H2 x y v u _ I2 r1 r2 q2) fun d s3 ⟨z,H3,I3,r3,q3⟩=>?_)) hm
 cases z with
 | bl k=>
  cases r3
  refine eQ ?_
  cases k with
  | false=>exact ite_ff ⟨.bl false,H3,I3,rfl,q3⟩
  | true=>exact ite_tt (chain_last (thn (hc Ex m pins s3 σ H3 _ I3 q3) fun w' s4 ⟨z',H4,I4,r4,q4⟩=>Lr hu op' pins s4 σ H4 y z' u w' Q I4 r2 r4 q4))
 | _=>exact (show False from q3).elim
theorem ac8 (hu:X.A.units+64<cLine) (op op':mL) (ha:QE X a da) (hb:QE X b db) (hc:QE X c dc) (hm:lastMarks [op,op'] [b,c]=false) :
  QT X (.Compare a [op,op'] [b,c] pos) (A7 (P3 (Ld X.K op) (Ld X.K op') da db dc)):=by
 intro Ex m pins s σ H Q I h
 refine isTrue_chain (thn (ha Ex m pins s σ H _ I h) fun v s1 ⟨x,H1,I1,r1,q1⟩=>test_link (thn (hb Ex m pins s1 σ H1 _ I1 q1) fun u s2 ⟨y,H2,I2,r2,q2⟩=>
  thn (Lr hu op pins s2 σ H2 x y v u _ I2 r1 r2 q2) fun d s3 ⟨z,H3,I3,r3,q3⟩=>?_)) hm
 cases z with
 | bl k=>
  cases r3
  refine eQ ?_
  cases k with
  | false=>exact ite_ff ⟨H3,I3,q3⟩
  | true=>
   refine ite_tt (test_last (thn (hc Ex m pins s3 σ H3 _ I3 q3) fun w' s4 ⟨z',H4,I4,r4,q4⟩=>thn (Lr hu op' pins s4 σ H4 y z' u w' _ I4 r2 r4 q4) fun d' s5 ⟨z2,H5,I5,r5,q5⟩=>?_))
   cases z2 with
   | bl k2=>cases r5;exact eQ ⟨H5,I5,q5⟩
   | _=>exact (show False from q5).elim
 | _=>exact (show False from q3).elim
noncomputable def ab0:Expr->Bool
 | .UnaryOp .Not _ _=>false
 | .BoolOp _ _ _=>false
 | .IfExp _ _ _ _=>false
 | .Compare _ _ _ _=>false
 | _=>true
theorem Wt {e:Expr} (h:ab0 e=true) (whole:Sem Value):isTrue e X.env whole=(do let v <- whole;lH e.pos;nA [v] (truthy v)):=by
 cases e with
 | UnaryOp op _ _=>cases op <;> first|rfl|cases h
 | BoolOp _ _ _=>cases h
 | IfExp _ _ _ _=>cases h
 | Compare _ _ _ _=>cases h
 | _=>rfl
theorem bb7 (ha:QE X a da) (h:ab0 a=true):QT X a (He X.K da):=by
 intro Ex m pins s σ H Q I hw
 exact isTrue_plain (thn (ha Ex m pins s σ H _ I hw) fun v s1 ⟨x,H1,I1,r1,q1⟩=>Vc pins s1 σ H1 x v Q I1 r1 q1) (Wt h _)
theorem bb6 (ha:QT X a ta):QT X (.UnaryOp .Not a pos) (Hd ta):=fun Ex m=>a84 (ha Ex m)
theorem ao3 (ha:QT X a ta):QW X (.BoolOp .And [a] pos) ta:=fun Ex m=>am8 (ha Ex m)
theorem bb9 (ha:QT X a ta):QW X (.BoolOp .Or [a] pos) ta:=fun Ex m=>a86 (ha Ex m)
theorem bb8 (ha:QT X a ta) (hb:QW X (.BoolOp .And (b::es) pos) tb):QW X (.BoolOp .And (a::b::es) pos) (Vp ta tb):=fun Ex m=>a85 (ha Ex m) (hb Ex m)
theorem bq2 (ha:QT X a ta) (hb:QW X (.BoolOp .Or (b::es) pos) tb):QW X (.BoolOp .Or (a::b::es) pos) (dOr ta tb):=fun Ex m=>bp6 (ha Ex m) (hb Ex m)
theorem ba1 {op:BoolOp} (ha:QE X a da):QE X (.BoolOp op [a] pos) da:=fun Ex m=>a75 (ha Ex m)
theorem a87 (ha:QE X a da) (hb:QE X (.BoolOp .And (b::es) pos) db):QE X (.BoolOp .And (a::b::es) pos) (D6 X.K da db):=by
 intro Ex m pins s σ H Q I h
 refine BoolOp_and (thn (ha Ex m pins s σ H _ I h) fun v s1 ⟨x,H1,I1,r1,q1⟩=>thn (Vc pins s1 σ H1 x v _ I1 r1 q1) fun k s2 ⟨H2,I2,q2⟩=>?_)
 cases k with
 | true=>exact hb Ex m pins s2 σ H2 Q I2 q2
 | false=>exact⟨x,H2,I2,r1,q2⟩
theorem bq0 (ha:QE X a da) (hb:QE X (.BoolOp .Or (b::es) pos) db):QE X (.BoolOp .Or (a::b::es) pos) (bj6 X.K da db):=by
 intro Ex m pins s σ H Q I h
 refine BoolOp_or (thn (ha Ex m pins s σ H _ I h) fun v s1 ⟨x,H1,I1,r1,q1⟩=>thn (Vc pins s1 σ H1 x v _ I1 r1 q1) fun k s2 ⟨H2,I2,q2⟩=>?_)
 cases k with
 | false=>exact hb Ex m pins s2 σ H2 Q I2 q2
 | true=>exact⟨x,H2,I2,r1,q2⟩
theorem ba0 (ha:QE X a da):QE X (.UnaryOp .Not a pos) (ar3 X.K da):=by
 intro Ex m pins s σ H Q I h
 refine UnaryOp_ (thn (ha Ex m pins s σ H _ I h) fun v s1 ⟨x,H1,I1,r1,q1⟩=>not_of (thn (Vc pins s1 σ H1 x v _ I1 r1 q1) fun k s2 ⟨H2,I2,q2⟩=>?_))
 exact⟨.bl (!k),H2,I2,rfl,q2⟩
theorem bp7 {t:Expr} (ht:QT X t ta) (ha:QE X a da) (hb:QE X b db):QE X (.IfExp t a b pos) (bj5 ta da db):=fun Ex m=>aa5 (ht Ex m) (ha Ex m) (hb Ex m)
noncomputable def noStar:Expr->Bool
 | .Starred _ _=>false
 | _=>true
theorem As {e:Expr} (h:noStar e=true) (es:List Expr) (env:Env):cV (e::es) env=(false,eval e env)::cV es env:=by
 cases e with
 | Starred _ _=>cases h
 | _=>rfl
theorem Ba {es:List Expr} (h:es.all noStar=true) (env:Env) (pos:Pos):(jv pos (cV es env)).any (·.1)=false:=by
 induction es with
 | nil=>rfl
 | cons e es ih=>
  rw [bF,aw] at h
  rw [As h.1]
  show (false||(jv pos (cV es env)).any (·.1))=false
  rw [ih h.2]
  rfl
theorem Ii {es:List Expr} (h:es.all noStar=true) (env:Env) (pos:Pos):(jv pos (cV es env)).all (fun x=>!x.1)=true:=by
 induction es with
 | nil=>rfl
 | cons e es ih=>
  rw [bF,aw] at h
  rw [As h.1]
  show (true&&(jv pos (cV es env)).all (fun x=>!x.1))=true
  rw [ih h.2]
  rfl
theorem Nh:QA X [] Af:=fun _ _=>a71
theorem Iy (ha:QE X a da) (hr:QA X es r) (hs:noStar a=true):QA X (a::es) (Aa da r):=fun Ex m=>al5 (ha Ex m) (hr Ex m) (As hs es X.env)
theorem ba3 {k:Nat} (h:QA X es r):QE X (.Tuple es k pos) (Ij r):=fun Ex m=>a77 (h Ex m)
theorem a96 (h:QA X es r):QE X (.List es pos) (C6 r):=fun Ex m=>a73 (h Ex m)
noncomputable def Fm:Expr->Bool
 | .Slice _ _ _ _=>false
 | _=>true
theorem J4 {e:Expr} (h:Fm e=true):Ta e:=by
 intro o i
 cases e with
 | Slice _ _ _ _=>cases h
 | _=>rfl
theorem bp8 (hu:X.A.units+64<cLine) (ha:QE X a da) (hb:QE X b db) (h:Fm b=true):QE X (.Subscript a b pos) (Ae (A6 X.K) da db):=fun Ex m=>bp0 (b19 hu) (ha Ex m) (hb Ex m) (J4 h)
noncomputable def bc2 (kvs:List (Key×V)):V->Hp->VK->Prop:=fun y H Q=>∃ k v,y=kV k/\Bb kvs k=some v/\Q v H
noncomputable def Q6 (neg:Bool) (kvs:List (Key×V)):V->Hp->VK->Prop:=fun y H Q=>∃ k,y=kV k/\Q (.bl (if neg then !(Bb kvs k).isSome else (Bb kvs k).isSome)) H
theorem a95 {ka:Addr} {kvs:List (Key×V)} {x:Str} {p:Pos} (k:Ny X.prog X.w X.K ka kvs) (hn:QE X (.Name x p) (dC (.ref ka))) (hb:QE X b db) (hs:Fm b=true):QE X (.Subscript (.Name x p) b pos) (dUn (bc2 kvs) db):=by
 intro Ex m pins s σ H Q I h
 refine Subscript_ (thn (hn Ex m pins s σ H (fun x H1=>x=.ref ka/\db σ H1 (fun y H2=>bc2 kvs y H2 Q) (Ex σ)) I ⟨rfl,h⟩) fun v s1 ⟨x,H1,I1,r1,e,q1⟩=>?_)
 subst e
 cases r1
 refine thn (hb Ex m pins s1 σ H1 _ I1 q1) fun u s2 ⟨y,H2,I2,r2,k',w',e2,l,q2⟩=>?_
 subst e2
 obtain⟨hd,vs,rel,dd⟩:=k
 have d:=dd _ I2.kIn
 obtain⟨w1,hw,rw'⟩:=RelO.some_of (v:=w') (o:=il vs k') (by rw [<- l];exact rel.val k')
 exact nC d.typeIs PySem.F.slot_dict_getitem.lookup (wpAny_getItem_of (En r2) d.mapOf hw ⟨w',H2,I2.tok _,rw',q2⟩) (J4 hs _ _)
theorem Zn {pins:List (Addr×Obj)} {s:ai} {σ:St} {H:Hp} {ka:Addr} {kvs:List (Key×V)} {y:V} {u:Value} {Q:VK} {neg:Bool} (k:Ny X.prog X.w X.K ka kvs) (I:Inv X pins σ H s) (r:RelV y u) (h:Q6 neg kvs y H Q) :
  aG (model X.prog X.w) X.A (cg (if neg then .NotIn else .In) u (.ref ka)) (EP X pins σ Q) X.xe s:=by
 obtain⟨k',e2,q⟩:=h
 subst e2
 obtain⟨hd,vs,rel,dd⟩:=k
 have d:=dd _ I.kIn
 cases neg with
 | false=>
  refine mZ (En r) hd d.mapOf ?_
  rw [<- (rel.val k').isSome_eq]
  exact⟨.bl _,H,I.tok _,rfl,q⟩
 | true=>
  refine k4 (En r) hd d.mapOf ?_
  rw [<- (rel.val k').isSome_eq]
  exact⟨.bl _,H,I.tok _,rfl,q⟩
theorem a92 {ka:Addr} {kvs:List (Key×V)} {x:Str} {p:Pos} {neg:Bool} (k:Ny X.prog X.w X.K ka kvs) (hn:QE X (.Name x p) (dC (.ref ka))) (ha:QE X a da) (hm:dR (if neg then .NotIn else .In) (.Name x p)=false):QE X (.Compare a [if neg then .NotIn else .In] [.Name x p] pos) (dUn (Q6 neg kvs) da):=by
 intro Ex m pins s σ H Q I h
 refine wpAny_Compare1 (thn (ha Ex m pins s σ H _ I h) fun v s1 ⟨y,H1,I1,r1,q1⟩=>thn (hn Ex m pins s1 σ H1 (fun x H2=>x=.ref ka/\Q6 neg kvs y H2 Q) I1 ⟨rfl,q1⟩) fun u s2 ⟨x,H2,I2,r2,e,q2⟩=>?_) hm
 subst e
 cases r2
 exact Zn k I2 r1 q2
theorem bb5 {ka:Addr} {kvs:List (Key×V)} {x:Str} {p:Pos} {neg:Bool} (k:Ny X.prog X.w X.K ka kvs) (hn:QE X (.Name x p) (dC (.ref ka))) (ha:QE X a da) (hm:dR (if neg then .NotIn else .In) (.Name x p)=false):QT X (.Compare a [if neg then .NotIn else .In] [.Name x p] pos) (A7 (dUn (Q6 neg kvs) da)):=by
 intro Ex m pins s σ H Q I h
 refine kJ (thn (ha Ex m pins s σ H _ I h) fun v s1 ⟨y,H1,I1,r1,q1⟩=>thn (hn Ex m pins s1 σ H1 (fun x H2=>x=.ref ka/\Q6 neg kvs y H2 (fun x H1=>match x with
  | .bl k=>Q k H1
  | _=>False)) I1 ⟨rfl,q1⟩) fun u s2 ⟨x,H2,I2,r2,e,q2⟩=>?_) hm
 subst e
 cases r2
 refine thn (Zn k I2 r1 q2) fun c s3 ⟨z,H3,I3,r3,q3⟩=>?_
 cases z with
 | bl k=>cases r3;exact eQ ⟨H3,I3,q3⟩
 | _=>exact (show False from q3).elim
theorem am9 {f:Str} (ha:QE X a da) (h:jI a f X.env (eval a X.env)=eval a X.env):QE X (.Attribute a f pos) (dUn (Cl X.K f) da):=by
 intro Ex m pins s σ H Q I hw
 exact Ti h (thn (ha Ex m pins s σ H _ I hw) fun u s1 ⟨x,H1,I1,rx,q⟩=>bk4 I1 rx q)
end
end L2
namespace PySem.SeqAt
open AutoSeq1 (wpAny_loadPart')
open MeetsSeq MeetsSeq2 MeetsSeq3
end PySem.SeqAt
namespace PySem.W
open PySem PySem.Calls PyProof.Rows
noncomputable def kRun {α:Type} (n:Nat) (lt:Nat->Nat->Bool):KasT α->Option α
 | .ret a=>some a
 | .ask i j k=>if i<n/\j<n then kRun n lt (k (lt i j)) else none
theorem kRun_wp {α:Type} {n:Nat} {lt:Nat->Nat->Bool} {cmp:Nat->Nat->(Bool->ai->Prop)->ai->Prop} {G:α->ai->Prop} {s:ai} (h:∀ i j C,i<n->j<n->C (lt i j) s->cmp i j C s) :
  ∀ {t:KasT α} {a:α},kRun n lt t=some a->G a s->t.kasWp cmp G s
 | .ret b,a,e,g=>by
  have:b=a:=aU e
  subst this
  exact g
 | .ask i j k,a,e,g=>by
  unfold kRun at e
  split at e
  ·rename_i hij
   exact h i j _ hij.1 hij.2 (kRun_wp h e g)
  ·cases e
section
variable {prog:aK} {w:bt} {A:bg} {E:Value->ai->Prop} {s:ai} {vs:List Value}
noncomputable def SoFin (a:Addr) (e:Nat) (out:List Value) (C:ai->Prop) (s:ai):Prop:=
 s.heap.get? a=some (bj "list" #[] e) /\ ∀ h' c,h'.get? a=some (bj "list" (eR out) c)->a9 a s.heap h'->C { s with heap:=h' }
theorem SoFin.mono {a:Addr} {e:Nat} {out:List Value} {C C':ai->Prop} (h:SoFin a e out C s) (hc:∀ s,C s->C' s):SoFin a e out C' s:=⟨h.1,fun h' c x y=>hc _ (h.2 h' c x y)⟩
theorem Nq {n:Nat} {a:Addr} {P:mO->ai->Prop} (ho:s.heap.get? a=some (bj "list" vs.toArray n)) (h2:2<=vs.length) (h64:vs.length<64)
  (h:∀ e1 h',h'.get? a=some (bj "list" #[] e1)->(∀ b o,b≠a->s.heap.get? b=some o->h'.get? b=some o) ->
   aG (model prog w) A (mI vs.toArray) (fun κ s'=>(kas_sort vs.length).kasWp (kas_ask prog w A κ vs) (fun p s''=>SoFin a e1 (p.toList.map fun i=>vs.getD i bh) (fun s3=>P (.done (.ret .none)) s3) s'') s') (fun _ _=>False) { s with heap:=h' }) :
  aG (model prog w) A (aT.«list.sort» ⟨[.ref a],[]⟩) P E s:=by
 have ha:a<s.heap.objs.size:=au ho
 have s1:=bB s.heap a (a0 fun _=>(#[]:Array Value))
 obtain⟨e1,ho1⟩:∃ e1,(s.heap.update a (a0 fun _=>(#[]:Array Value))).get? a=some (bj "list" #[] e1):=⟨_,eM ho fun _=>#[]⟩
 have ask:=h e1 (((s.heap.update a (a0 fun _=>(#[]:Array Value))).push (bj "tuple" vs.toArray 0)).push (bj "list" #[] 0)) (af _ (af _ ho1))
  (fun b o nb e=>af _ (af _ ((s1.2 b nb).trans e)))
 rw [list_sort_plain]
 refine ac (kG ho rfl ?_)
 refine ac (fm ho rfl ?_ (by rw [am,bv];omega) (bo _))
 refine ac (iQ ho1 rfl ?_)
 refine ac (g9 ?_ (by show vs.length<=_;rw [bv];omega))
 refine ac (fY ?_ (bo _))
 refine bp ?_
 show aG (model prog w) A _ P E { s with heap:=((s.heap.update a (a0 fun _=>(#[]:Array Value))).push (bj "tuple" vs.toArray 0)).push (bj "list" #[] 0) }
 dsimp only
 have hn2:¬ vs.toArray.size<2:=by rw [am];omega
 rw [if_neg hn2,if_neg hn2]
 refine ac (bL ask (fun κ s0 hk=>?_) fun _ _ x=>x.elim)
 refine ac (bL (kat_run (Q:=fun st' s'=>∃ p:Array Nat,p.size=vs.length/\arrOf st'=p.map (kas_item (vs.toArray.zip vs.toArray))/\failedOf st'=none/\SoFin a e1 (p.toList.map fun i=>vs.getD i bh) (fun s''=>P (.done (.ret .none)) s'') s')
  rfl h2 h64 (fun p' st' s' a1 a2 a3 a4=>⟨p',a1,a2,a3,a4⟩) hk) ?_ fun _ _ e=>e)
 rintro⟨⟨⟩,st'⟩ s' ⟨p,hp,har,hf,na,k⟩
 dsimp only
 have hout:=kat_snds rfl har
 have hsz:(eR (p.toList.map fun i=>vs.getD i bh)).size=vs.length:=by rw [am,ag,aZ,hp]
 rw [hout]
 have s2:=bB s'.heap a (a0 fun _=>eR (p.toList.map fun i=>vs.getD i bh))
 obtain⟨c2,hc2⟩:∃ c2,(s'.heap.update a (a0 fun _=>eR (p.toList.map fun i=>vs.getD i bh))).get? a=some (bj "list" (eR (p.toList.map fun i=>vs.getD i bh)) c2):=⟨_,eM na fun _=>eR (p.toList.map fun i=>vs.getD i bh)⟩
 refine ac (iQ na rfl ?_)
 refine ac (fm na rfl ?_ (bo _) (aS (ku hsz) (by rw [bv];omega)))
 rw [hf]
 simp only [bne_self_eq_false,cf,if_false]
 exact ah (k _ c2 hc2 s2)
end
end PySem.W
namespace L2
open PySem PySem.Spec PyProof.Rows
section
variable {X:Cx} {pins:List (Addr×Obj)} {σ:St} {H:Hp} {s:ai}
theorem Pk {xs:List V} {us:List Value} (r:Vals xs us) {i:Nat} (h:i<us.length):∃ x,xs[i]? = some x/\RelV x (us.getD i bh):=by
 have hl:=r.length
 obtain⟨u,hu,ru⟩:=r.get (i:=i) (x:=xs[i]'(by omega)) (aj (by omega))
 refine⟨_,aj (by omega),?_⟩
 rw [av,hu]
 exact ru
theorem Fr {xs:List V} {us:List Value} (r:Vals xs us):∀ (p:List Nat),(∀ i∈p,i<us.length)->Vals (p.map fun i=>xs.getD i .non) (p.map fun i=>us.getD i bh)
 | [],_=>.nil
 | i::p,h=>by
  obtain⟨x,hx,rx⟩:=Pk r (h i bx)
  refine .cons ?_ (Fr r p fun j hj=>h j (aJ _ hj))
  show RelV (xs.getD i .non) _
  rw [av,hx]
  exact rx
end
theorem Es:cN "sorted" = some (.builtin "sorted"):=by decide +kernel
end L2
set_option maxHeartbeats 1000000
namespace PySem.W
open PySem PySem.Calls PyProof.Rows
section
variable {n:Nat} {lt:Nat->Nat->Bool}
theorem Dd {α β:Type} {f:α->KasT β}:∀ t:KasT α,kRun n lt (t.bind f)=(kRun n lt t).bind fun a=>kRun n lt (f a)
 | .ret a=>rfl
 | .ask i j k=>by
  show (if i<n/\j<n then kRun n lt ((k (lt i j)).bind f) else none)=(if i<n/\j<n then kRun n lt (k (lt i j)) else none).bind _
  by_cases h:i<n/\j<n
  ·rw [if_pos h,if_pos h,Dd (k (lt i j))]
  ·rw [if_neg h,if_neg h];rfl
structure Tot (n:Nat) (lt:Nat->Nat->Bool):Prop where
 tot:∀ i j,i<n->j<n->i≠j->lt i j = !lt j i
 tr:∀ i j k,i<n->j<n->k<n->lt i j=true->lt j k=true->lt i k=true
noncomputable def pg (p:Array Nat) (i:Nat):Nat:=p.getD i 0
noncomputable def PermN (n:Nat) (p:Array Nat):Prop:=p.toList.Perm (cL n)
theorem PermN.size {p:Array Nat} (h:PermN n p):p.size=n:=by
 have:=h.length_eq
 simpa using this
theorem pg_get {p:Array Nat} {i:Nat} (h:i<p.size):p[i]? = some (pg p i):=by
 unfold pg
 rw [dF,bw h]
 rfl
theorem PermN.bd {p:Array Nat} (h:PermN n p) {i:Nat} (hi:i<n):pg p i<n:=by
 have hs:i<p.size:=by rw [h.size];exact hi
 have hm:pg p i∈p.toList:=by
  have:=pg_get hs
  rw [<- bJ] at this
  exact aY this
 exact List.mem_range.mp (h.mem_iff.mp hm)
theorem PermN.inj {p:Array Nat} (h:PermN n p) {i j:Nat} (hi:i<n) (hj:j<n) (e:pg p i=pg p j):i=j:=by
 have nd:p.toList.Nodup:=(h.nodup_iff).mpr List.nodup_range
 have ei:=pg_get (p:=p) (i:=i) (by rw [h.size];exact hi)
 have ej:=pg_get (p:=p) (i:=j) (by rw [h.size];exact hj)
 rw [<- bJ] at ei ej
 have li:i<p.toList.length:=by rw [aZ,h.size];exact hi
 refine (List.getElem?_inj li nd).mp ?_
 rw [ei,ej,e]
noncomputable def Srt (lt:Nat->Nat->Bool) (p:Array Nat) (m:Nat):Prop:=∀ i j,i<j->j<m->lt (pg p i) (pg p j)=true
noncomputable def Dsc (lt:Nat->Nat->Bool) (p:Array Nat) (m:Nat):Prop:=∀ i j,i<j->j<m->lt (pg p j) (pg p i)=true
theorem D8 {α:Type} {i j:Nat} {k:Bool->KasT α} (hi:i<n) (hj:j<n):kRun n lt (.ask i j k)=kRun n lt (k (lt i j)):=if_pos ⟨hi,hj⟩
variable (T:Tot n lt) {p:Array Nat} (h:PermN n p)
include T h
theorem Gf:∀ f k,1<=k->k+f<=n->Srt lt p k -> ∃ m,kRun n lt (nB p f k)=some m/\k<=m/\m<=k+f/\Srt lt p m
 | 0,k,h1,h2,hs=>⟨k,rfl,ae _,ae _,hs⟩
 | f+1,k,h1,h2,hs=>by
  have e:kRun n lt (nB p (f+1) k)=kRun n lt (if lt (pg p k) (pg p (k - 1))=true then .ret k else nB p f (k+1)):=D8 (h.bd (by omega)) (h.bd (by omega))
  rw [e]
  cases c:lt (pg p k) (pg p (k - 1)) with
  | true=>exact⟨k,rfl,ae _,by omega,hs⟩
  | false=>
   have c1:lt (pg p (k - 1)) (pg p k)=true:=by
    rw [T.tot _ _ (h.bd (by omega)) (h.bd (by omega)) (fun q=>by have:=h.inj (by omega) (by omega) q;omega),c];rfl
   obtain⟨m,r1,r2,r3,r4⟩:=Gf f (k+1) (by omega) (by omega) (fun i j hij hj=>by
    by_cases hk:j<k
    ·exact hs i j hij hk
    ·have:j=k:=by omega
     subst this
     by_cases hi:i=j - 1
     ·subst hi;exact c1
     ·exact T.tr _ _ _ (h.bd (by omega)) (h.bd (by omega)) (h.bd (by omega)) (hs i (j - 1) (by omega) (by omega)) c1)
   exact⟨m,r1,by omega,by omega,r4⟩
theorem Od:∀ f k,1<=k->k+f<=n->Dsc lt p k -> ∃ m,kRun n lt (lW f p k 0)=some (p,m,0)/\k<=m/\m<=k+f/\Dsc lt p m
 | 0,k,h1,h2,hs=>⟨k,rfl,ae _,ae _,hs⟩
 | f+1,k,h1,h2,hs=>by
  have e:kRun n lt (lW (f+1) p k 0)=kRun n lt (if lt (pg p k) (pg p (k - 1))=true then (if 0 > 0 then lW f (kF p (k - (0+1)) k) (k+1) 0 else lW f p (k+1) 0) else .ask (pg p (k - 1)) (pg p k) fun d=>if d=true then .ret (p,k,0) else lW f p (k+1) (0+1)):=D8 (h.bd (by omega)) (h.bd (by omega))
  rw [e]
  cases c:lt (pg p k) (pg p (k - 1)) with
  | true=>
   rw [if_pos rfl,if_neg (by omega)]
   obtain⟨m,r1,r2,r3,r4⟩:=Od f (k+1) (by omega) (by omega) (fun i j hij hj=>by
    by_cases hk:j<k
    ·exact hs i j hij hk
    ·have:j=k:=by omega
     subst this
     by_cases hi:i=j - 1
     ·subst hi;exact c
     ·exact T.tr _ _ _ (h.bd (by omega)) (h.bd (by omega)) (h.bd (by omega)) c (hs i (j - 1) (by omega) (by omega)))
   exact⟨m,r1,by omega,by omega,r4⟩
  | false=>
   have c1:lt (pg p (k - 1)) (pg p k)=true:=by
    rw [T.tot _ _ (h.bd (by omega)) (h.bd (by omega)) (fun q=>by have:=h.inj (by omega) (by omega) q;omega),c];rfl
   rw [if_neg ak,D8 (h.bd (by omega)) (h.bd (by omega)),c1]
   exact⟨k,rfl,ae _,by omega,hs⟩
omit T in
theorem ao5 {m:Nat} (hm:m<=n) (hd:Dsc lt p m):PermN n (kF p 0 m)/\Srt lt (kF p 0 m) m:=by
 have hp:PermN n (kF p 0 m):=by
  have:=mirror_perm p 0 m ((m - 0) / 2)
  exact (Array.perm_iff_toList_perm.mp this).trans h
 have gt:∀ k,k<m->pg (kF p 0 m) k=pg p (m - 1 - k):=fun k hk=>by
  have e:=getElem?_mirror_all (xs:=p) (i:=0) (j:=m) (by rw [h.size];exact hm) k
  have e1:(kF p 0 m)[k]? = some (pg (kF p 0 m) k):=pg_get (by rw [hp.size];omega)
  have e2:p[m - 1 - k]? = some (pg p (m - 1 - k)):=pg_get (by rw [h.size];omega)
  have e':(kF p 0 m)[k]? = p[m - 1 - k]?:=by
   refine e.trans ?_
   rw [if_pos (by omega)]
   congr 1
   omega
  rw [e1,e2] at e'
  exact aU e'
 refine⟨hp,fun i j hij hj=>?_⟩
 rw [gt i (by omega),gt j hj]
 exact hd _ _ (by omega) (by omega)
theorem Vn (hn:1<=n):∃ m p',kRun n lt (kas_count n p)=some (m,p')/\PermN n p'/\1<=m/\m<=n/\Srt lt p' m:=by
 obtain⟨m,r1,r2,r3,r4⟩:=Gf T h (n - 1) 1 (ae _) (by omega) (fun i j hij hj=>by omega)
 unfold kas_count
 rw [Dd,r1,cH]
 by_cases hm:m=n
 ·have e:(m==n)=true:=by rw [hm];exact beq_self_eq_true n
  rw [if_pos e]
  exact⟨m,p,rfl,h,r2,by omega,r4⟩
 ·have e:¬ (m==n)=true:=fun q=>hm (beq_iff_eq.mp q)
  rw [if_neg e]
  by_cases h1:m > 1
  ·rw [if_pos h1]
   have:=D8 (n:=n) (lt:=lt) (k:=fun c=>if c=true then KasT.ret (m,p) else kas_descPart m n (kF p 0 m)) (h.bd (i:=0) (by omega)) (h.bd (i:=m - 1) (by omega))
   refine⟨m,p,this.trans ?_,h,r2,by omega,r4⟩
   have e1:lt (pg p 0) (pg p (m - 1))=true:=r4 0 (m - 1) (by omega) (by omega)
   rw [e1]
   rfl
  ·rw [if_neg h1]
   have hm1:m=1:=by omega
   subst hm1
   unfold kas_descPart
   have hd:∃ d,kRun n lt (lW (n - (1+1)) p (1+1) 0)=some (p,d,0)/\1<=d/\d<=n/\Dsc lt p d:=by
    by_cases c:lt (pg p 1) (pg p 0)=true
    ·obtain⟨d,q1,q2,q3,q4⟩:=Od T h (n - 2) 2 (by omega) (by omega) (fun i j hij hj=>by
      have:i=0:=by omega
      have:j=1:=by omega
      subst i j;exact c)
     exact⟨d,q1,by omega,by omega,q4⟩
    ·exfalso
     have e:=Gf T h (n - 1) 1 (ae _) (by omega) (fun i j hij hj=>by omega)
     obtain⟨m',a1,a2,a3,a4⟩:=e
     obtain⟨f,hf⟩:∃ f,n - 1=f+1:=⟨n - 2,by omega⟩
     rw [hf] at r1
     have e2:kRun n lt (nB p (f+1) 1)=kRun n lt (if lt (pg p 1) (pg p (1 - 1))=true then .ret 1 else nB p f (1+1)):=D8 (h.bd (by omega)) (h.bd (by omega))
     rw [e2,if_neg c] at r1
     have c0:lt (pg p 1) (pg p 0)=false:=by simpa using c
     have c1:lt (pg p 0) (pg p 1)=true:=by
      rw [T.tot _ _ (h.bd (by omega)) (h.bd (by omega)) (fun q=>by have:=h.inj (by omega) (by omega) q;omega),c0];rfl
     obtain⟨m2,b1,b2,b3,b4⟩:=Gf T h f 2 (by omega) (by omega) (fun i j hij hj=>by
      have:i=0:=by omega
      have:j=1:=by omega
      subst i j;exact c1)
     rw [r1] at b1
     cases b1
     omega
   obtain⟨d,q1,q2,q3,q4⟩:=hd
   rw [Dd,q1,cH]
   show ∃ m p',kRun n lt (if 0 > 0 then _ else kas_tail3 d n p)=some (m,p')/\_
   rw [if_neg (by omega)]
   unfold kas_tail3
   obtain⟨hp,hs⟩:=ao5 h q3 q4
   obtain⟨m',a1,a2,a3,a4⟩:=Gf T hp (n - d) d q2 (by omega) hs
   rw [Dd,a1,cH]
   exact⟨m',_,rfl,hp,by omega,by omega,a4⟩
theorem Hx {k:Nat} (hk:k<n) (hs:Srt lt p k):∀ f l r,l<=r->r<=k->r - l<=f->(∀ i,i<l->lt (pg p i) (pg p k)=true)->(∀ i,r<=i->i<k->lt (pg p k) (pg p i)=true) ->
  ∃ m,kRun n lt (iO p k f l r)=some m/\m<=k/\(∀ i,i<m->lt (pg p i) (pg p k)=true)/\(∀ i,m<=i->i<k->lt (pg p k) (pg p i)=true)
 | 0,l,r,h1,h2,h3,hl,hr=>⟨l,rfl,by omega,hl,fun i a b=>hr i (by omega) b⟩
 | f+1,l,r,h1,h2,h3,hl,hr=>by
  by_cases hlr:l ≥ r
  ·have e:iO p k (f+1) l r=.ret l:=by unfold iO;rw [if_pos hlr]
   rw [e]
   exact⟨l,rfl,by omega,hl,fun i a b=>hr i (by omega) b⟩
  ·have e:kRun n lt (iO p k (f+1) l r)=kRun n lt (if lt (pg p k) (pg p ((l+r) / 2))=true then iO p k f l ((l+r) / 2) else iO p k f ((l+r) / 2+1) r):=by
    conv=>lhs;unfold iO
    rw [if_neg hlr]
    exact D8 (h.bd hk) (h.bd (by omega))
   rw [e]
   have hm1:l<=(l+r) / 2:=by omega
   have hm2:(l+r) / 2<r:=by omega
   generalize (l+r) / 2=mid at hm1 hm2 ⊢
   cases c:lt (pg p k) (pg p mid) with
   | true=>
    rw [if_pos rfl]
    refine Hx hk hs f l mid hm1 (by omega) (by omega) hl fun i a b=>?_
    by_cases hi:i=mid
    ·subst hi;exact c
    ·exact T.tr _ _ _ (h.bd hk) (h.bd (by omega)) (h.bd (by omega)) c (hs mid i (by omega) b)
   | false=>
    rw [if_neg ak]
    have c1:lt (pg p mid) (pg p k)=true:=by
     rw [T.tot _ _ (h.bd (by omega)) (h.bd hk) (fun q=>by have:=h.inj (by omega) hk q;omega),c];rfl
    refine Hx hk hs f (mid+1) r (by omega) h2 (by omega) (fun i a=>?_) hr
    by_cases hi:i=mid
    ·subst hi;exact c1
    ·exact T.tr _ _ _ (h.bd (by omega)) (h.bd (by omega)) (h.bd hk) (hs i mid (by omega) (by omega)) c1
omit T in
theorem Pt {k l:Nat} (hk:k<n) (hl:l<=k) (hs:Srt lt p k) (h1:∀ i,i<l->lt (pg p i) (pg p k)=true) (h2:∀ i,l<=i->i<k->lt (pg p k) (pg p i)=true):PermN n (ni p k (k - l))/\Srt lt (ni p k (k - l)) (k+1):=by
 have hp:PermN n (ni p k (k - l)):=(Array.perm_iff_toList_perm.mp (bubble_perm p k (k - l))).trans h
 have hk':k<p.size:=by rw [h.size];exact hk
 have gt:∀ i,i<k+1->pg (ni p k (k - l)) i=if i=l then pg p k else if l<i then pg p (i - 1) else pg p i:=fun i hi=>by
  have e:=getElem?_bubble hk' (k - l) (by omega) i
  have e1:(ni p k (k - l))[i]? = some (pg (ni p k (k - l)) i):=pg_get (by rw [hp.size];omega)
  rw [e1,show k - (k - l)=l by omega] at e
  by_cases a:i=l
  ·rw [if_pos a] at e ⊢
   rw [pg_get hk'] at e
   exact aU e
  ·rw [if_neg a] at e ⊢
   by_cases b:l<i
   ·rw [if_pos ⟨b,by omega⟩] at e
    rw [if_pos b]
    rw [pg_get (by rw [h.size];omega)] at e
    exact aU e
   ·rw [if_neg (fun q=>b q.1)] at e
    rw [if_neg b]
    rw [pg_get (by rw [h.size];omega)] at e
    exact aU e
 refine⟨hp,fun i j hij hj=>?_⟩
 rw [gt i (by omega),gt j hj]
 by_cases a:i=l
 ·rw [if_pos a,if_neg (by omega),if_pos (by omega)]
  exact h2 (j - 1) (by omega) (by omega)
 ·rw [if_neg a]
  by_cases b:l<i
  ·rw [if_pos b,if_neg (by omega),if_pos (by omega)]
   exact hs (i - 1) (j - 1) (by omega) (by omega)
  ·rw [if_neg b]
   by_cases c:j=l
   ·rw [if_pos c];exact h1 i (by omega)
   ·rw [if_neg c]
    by_cases d:l<j
    ·rw [if_pos d]
     exact hs i (j - 1) (by omega) (by omega)
    ·rw [if_neg d];exact hs i j hij (by omega)
end
theorem Tj {n:Nat} {lt:Nat->Nat->Bool} (T:Tot n lt):∀ (f:Nat) (p:Array Nat) (k:Nat),PermN n p->k+f=n->Srt lt p k -> ∃ p',kRun n lt (kas_bin f p k)=some p'/\PermN n p'/\Srt lt p' n
 | 0,p,k,h,e,hs=>⟨p,rfl,h,by rw [<- e];exact hs⟩
 | f+1,p,k,h,e,hs=>by
  obtain⟨l,a1,a2,a3,a4⟩:=Hx T h (k:=k) (by omega) hs k 0 k (bo _) (ae _) (by omega) (fun i hi=>by omega) (fun i a b=>by omega)
  obtain⟨b1,b2⟩:=Pt h (by omega) a2 hs a3 a4
  obtain⟨p',c1,c2,c3⟩:=Tj T f _ (k+1) b1 (by omega) b2
  refine⟨p',?_,c2,c3⟩
  show kRun n lt ((iO p k k 0 k).bind fun l=>kas_bin f (ni p k (k - l)) (k+1))=some p'
  rw [Dd,a1]
  exact c1
theorem sort_run {n:Nat} {lt:Nat->Nat->Bool} (T:Tot n lt) (hn:1<=n):∃ p,kRun n lt (kas_sort n)=some p/\PermN n p/\Srt lt p n:=by
 have h0:PermN n (eR (cL n)):=by show (eR (cL n)).toList.Perm _;exact i9 _
 obtain⟨m,p,r1,r2,r3,r4,r5⟩:=Vn T h0 hn
 unfold kas_sort
 rw [Dd,r1,cH]
 show ∃ q,kRun n lt (if m<n then kas_bin (n - max m 1) p (max m 1) else .ret p)=some q/\_
 by_cases h:m<n
 ·rw [if_pos h,Nat.max_eq_left r3]
  exact Tj T (n - m) p m r2 (by omega) r5
 ·rw [if_neg h]
  have:m=n:=by omega
  subst this
  exact⟨p,rfl,r2,r5⟩
end PySem.W
namespace L2
open PySem PySem.Spec PyProof.Rows
section
variable {α:Type}
noncomputable def M6 (lt:α->α->Bool) (z:α):List α->List α
 | []=>[z]
 | y::ys=>if lt z y=true then z::y::ys else y::M6 lt z ys
noncomputable def Ak (lt:α->α->Bool):List α->List α
 | []=>[]
 | z::zs=>M6 lt z (Ak lt zs)
structure OrdL (lt:α->α->Bool) (zs:List α):Prop where
 tot:∀ a∈zs,∀ b∈zs,a≠b->lt a b = !lt b a
 tr:∀ a∈zs,∀ b∈zs,∀ c∈zs,lt a b=true->lt b c=true->lt a c=true
 nd:zs.Nodup
theorem Hj (lt:α->α->Bool) (z:α):∀ ys:List α,(M6 lt z ys).Perm (z::ys)
 | []=>i9 _
 | y::ys=>by
  unfold M6
  split
  ·exact i9 _
  ·exact ((Hj lt z ys).cons y).trans (List.Perm.swap z y ys)
theorem Am (lt:α->α->Bool):∀ zs:List α,(Ak lt zs).Perm zs
 | []=>i9 _
 | z::zs=>(Hj lt z _).trans ((Am lt zs).cons z)
theorem OrdL.of {lt:α->α->Bool} {zs ys:List α} (h:OrdL lt zs) (hs:∀ a∈ys,a∈zs) (nd:ys.Nodup):OrdL lt ys:=⟨fun a ha b hb=>h.tot a (hs a ha) b (hs b hb),fun a ha b hb c hc=>h.tr a (hs a ha) b (hs b hb) c (hs c hc),nd⟩
theorem Lz {lt:α->α->Bool} {z:α}:∀ {ys:List α},OrdL lt (z::ys)->ys.Pairwise (fun a b=>lt a b=true)->(M6 lt z ys).Pairwise (fun a b=>lt a b=true)
 | [],_,_=>List.pairwise_singleton _ _
 | y::ys,h,hp=>by
  rw [fG] at hp
  have nd:=h.nd
  rw [bA] at nd
  have ny:=nd.2
  rw [bA] at ny
  unfold M6
  split
  ·rename_i c
   refine List.pairwise_cons.mpr ⟨fun b hb=>?_,List.pairwise_cons.mpr hp⟩
   rcases List.mem_cons.mp hb with rfl|hb'
   ·exact c
   ·exact h.tr z (.head _) y (.tail _ (.head _)) b (.tail _ hb) c (hp.1 b hb')
  ·rename_i c
   have c:lt z y=false:=by simpa using c
   have c1:lt y z=true:=by rw [h.tot y (.tail _ (.head _)) z (.head _) (fun e=>nd.1 (e▸.head _)),c];rfl
   have hz:OrdL lt (z::ys):=h.of (fun a ha=>by rcases List.mem_cons.mp ha with rfl|q;exact .head _;exact .tail _ (.tail _ q)) (List.nodup_cons.mpr ⟨fun q=>nd.1 (.tail _ q),ny.2⟩)
   refine List.pairwise_cons.mpr ⟨fun b hb=>?_,Lz hz hp.2⟩
   rcases List.mem_cons.mp ((Hj lt z ys).mem_iff.mp hb) with rfl|hb'
   ·exact c1
   ·exact hp.1 b hb'
theorem De {lt:α->α->Bool}:∀ {zs:List α},OrdL lt zs->(Ak lt zs).Pairwise (fun a b=>lt a b=true)
 | [],_=>List.Pairwise.nil
 | z::zs,h=>by
  have nd:=List.nodup_cons.mp h.nd
  have hz:OrdL lt zs:=h.of (fun a ha=>.tail _ ha) nd.2
  refine Lz (h.of (fun a ha=>?_) ?_) (De hz)
  ·rcases List.mem_cons.mp ha with rfl|q
   ·exact .head _
   ·exact .tail _ ((Am lt zs).mem_iff.mp q)
  ·exact List.nodup_cons.mpr ⟨fun q=>nd.1 ((Am lt zs).mem_iff.mp q),((Am lt zs).nodup_iff).mpr nd.2⟩
theorem Fp {lt:α->α->Bool}:∀ {xs ys:List α},OrdL lt xs->xs.Perm ys->xs.Pairwise (fun a b=>lt a b=true)->ys.Pairwise (fun a b=>lt a b=true)->xs=ys
 | [],ys,_,h,_,_=>(List.Perm.nil_eq h)
 | x::xs,[],_,h,_,_=>absurd h.symm.nil_eq (by simp)
 | x::xs,y::ys,o,h,hx,hy=>by
  rw [fG] at hx hy
  have e:x=y:=by
   apply i8
   intro ne
   have m1:x∈ys:=by
    have:x∈y::ys:=h.mem_iff.mp (.head _)
    rcases List.mem_cons.mp this with q|q
    ·exact absurd q ne
    ·exact q
   have m2:y∈xs:=by
    have:y∈x::xs:=h.mem_iff.mpr (.head _)
    rcases List.mem_cons.mp this with q|q
    ·exact absurd q.symm ne
    ·exact q
   have a:=hx.1 y m2
   have b:=hy.1 x m1
   rw [o.tot x (.head _) y (.tail _ m2) ne,b] at a
   cases a
  subst e
  have nd:=List.nodup_cons.mp o.nd
  rw [Fp (o.of (fun a ha=>.tail _ ha) nd.2) ((List.perm_cons x).mp h) hx.2 hy.2]
theorem Fq {lt:α->α->Bool} {xs ys:List α} (h:xs.Perm ys) (o:OrdL lt xs):Ak lt xs=Ak lt ys:=by
 have o2:OrdL lt ys:=o.of (fun a ha=>h.mem_iff.mpr ha) ((h.nodup_iff).mp o.nd)
 exact Fp (o.of (fun a ha=>(Am lt xs).mem_iff.mp ha) (((Am lt xs).nodup_iff).mpr o.nd)) ((Am lt xs).trans (h.trans (Am lt ys).symm)) (De o) (De o2)
theorem Ib {lt:α->α->Bool} {zs:List α} (d:α) (o:OrdL lt zs) (hn:1<=zs.length) :
  ∃ p,PySem.W.kRun zs.length (fun i j=>lt (zs.getD i d) (zs.getD j d)) (PySem.W.kas_sort zs.length)=some p/\p.toList.length=zs.length/\(∀ i∈p.toList,i<zs.length)/\(p.toList.map fun i=>zs.getD i d)=Ak lt zs:=by
 have gm:∀ i,i<zs.length->zs.getD i d∈zs:=fun i hi=>by rw [av,aj hi];exact cR hi
 have gi:∀ i j,i<zs.length->j<zs.length->zs.getD i d=zs.getD j d->i=j:=fun i j hi hj e=>by
  rw [av,aj hi,av,aj hj] at e
  exact (List.getElem_inj o.nd).mp e
 obtain⟨p,h1,h2,h3⟩:=PySem.W.sort_run (n:=zs.length) (lt:=fun i j=>lt (zs.getD i d) (zs.getD j d)) ⟨fun i j hi hj ne=>o.tot _ (gm i hi) _ (gm j hj) (fun e=>ne (gi i j hi hj e)),fun i j k hi hj hk=>o.tr _ (gm i hi) _ (gm j hj) _ (gm k hk)⟩ hn
 have hp:(p.toList.map fun i=>zs.getD i d).Perm zs:=by
  have q:=h2.map (fun i=>zs.getD i d)
  have e:((cL zs.length).map fun i=>zs.getD i d)=zs:=by
   apply List.ext_getElem?
   intro i
   rw [aA]
   by_cases hi:i<zs.length
   ·rw [List.getElem?_range hi,aj hi,gK,av,aj hi];rfl
   ·rw [fP (by simp;omega),fP (by omega)];rfl
  rw [e] at q
  exact q
 refine⟨p,h1,by rw [aZ,h2.size],fun i hi=>List.mem_range.mp (h2.mem_iff.mp hi),?_⟩
 refine Fp (o.of (fun a ha=>hp.mem_iff.mp ha) ((hp.nodup_iff).mpr o.nd)) (hp.trans (Am lt zs).symm) ?_ (De o)
 rw [List.pairwise_iff_getElem]
 intro i j hi hj hij
 rw [ag,aZ,h2.size] at hi hj
 have g:∀ k (hk:k<zs.length),∃ hk',(p.toList.map fun i=>zs.getD i d)[k]'hk'=zs.getD (PySem.W.pg p k) d:=fun k hk=>by
  have e:=PySem.W.pg_get (p:=p) (i:=k) (by rw [h2.size];exact hk)
  rw [<- bJ] at e
  obtain⟨a,b⟩:=List.getElem?_eq_some_iff.mp e
  refine⟨by rw [ag];exact a,?_⟩
  rw [List.getElem_map,b]
 obtain⟨a1,b1⟩:=g i hi
 obtain⟨a2,b2⟩:=g j hj
 rw [b1,b2]
 exact h3 i j hij hj
end
noncomputable def ltS (a b:Str):Bool:=decide (a.cps.toList<b.cps.toList)
theorem Fk {zs:List Str} (nd:zs.Nodup):OrdL ltS zs where
 nd:=nd
 tot:=fun a _ b _ ne=>by
  unfold ltS
  rw [<- decide_not]
  refine decide_eq_decide.mpr ⟨fun h q=>List.lt_irrefl _ (List.lt_trans h q),fun h=>?_⟩
  apply i8
  intro q
  exact ne (Str.ext' (Array.toList_inj.mp (List.le_antisymm (List.not_lt.mp h) (List.not_lt.mp q))))
 tr:=fun a _ b _ c _ h q=>by
  unfold ltS at h q ⊢
  exact decide_eq_true (List.lt_trans (of_decide_eq_true h) (of_decide_eq_true q))
end L2
namespace PySem.W
open PySem PySem.Calls PyProof.Rows
section
variable {prog:aK} {w:bt} {A:bg} {E:Value->ai->Prop} {s:ai} {vs:List Value}
theorem collect_src {T:String} {r d:Addr} {n:Nat} {P:Nat->Value->Prop} {OK:Heap->Prop} {Q:List Value->ai->Prop} (K:KdlSrc prog w T r d n P OK) (hh:A.handled=none) (hok:OK s.heap) (hn:n<=sizeLine)
  (h:∀ h' tk (us:List Value),(∀ b o,s.heap.get? b=some o->h'.get? b=some o)->s.heap.objs.size<h'.objs.size->us.length=n->(∀ j v,us[j]? = some v->P j v)->Q us { s with heap:=h',toks:=tk }) :
  aG (model prog w) A (lx (.ref r)) Q E s:=by
 have hlt:=K.there _ hok
 unfold lx
 refine ac (jj (c7 kT ?_))
 show aG _ _ (do again (.builtin "list.__iadd__" ⟨[<- newList [],.ref r],[]⟩)) _ _ s
 refine ac (fY (ah ⟨c9 _ (by decide +kernel),c7 entry_list_iadd' ?_⟩))
 show aG _ _ (cj (.ref s.heap.objs.size) (.ref r) (.ref s.heap.objs.size)) _ _ { s with heap:=s.heap.push (bj "list" #[] 0) }
 rw [d6 jG _]
 refine kdl_extend (A:=A) (R:=wants _ _) (s:={ s with heap:=s.heap.push (bj "list" #[] 0) }) K hh (K.keep _ _ hok fun b _ o e=>af _ e) s.heap.objs.size (dz hlt.1) (dz hlt.2) _ 0 (aq _ rfl) (fun h' tk acc' c' hk hS' hacc=>?_) hn
 show aG (model prog w) A (do
   let o <- load s.heap.objs.size
   match o.data with
   | .seq xs _=>pure xs.toList
   | _=>unsupported "internal:collect") Q E { s with heap:=h',toks:=tk }
 refine ac (mo hS' ?_)
 exact ah (h h' tk acc'.toList (fun b o e=>hk b o (aE (au e)) (af _ e)) (au hS') (by rw [aZ];exact hacc.1) fun j v e=>hacc.2 j v (by rw [<- bJ];exact e))
theorem Lf {n:Nat} {a:Addr} {P:mO->ai->Prop} (ho:s.heap.get? a=some (bj "list" vs.toArray n)) (h2:vs.length<2)
  (h:∀ h' c,h'.get? a=some (bj "list" vs.toArray c)->(∀ b o,b≠a->s.heap.get? b=some o->h'.get? b=some o)->P (.done (.ret .none)) { s with heap:=h' }) :
  aG (model prog w) A (aT.«list.sort» ⟨[.ref a],[]⟩) P E s:=by
 have ha:a<s.heap.objs.size:=au ho
 have s1:=bB s.heap a (a0 fun _=>(#[]:Array Value))
 obtain⟨e1,ho1⟩:∃ e1,(s.heap.update a (a0 fun _=>(#[]:Array Value))).get? a=some (bj "list" #[] e1):=⟨_,eM ho fun _=>#[]⟩
 rw [list_sort_plain]
 refine ac (kG ho rfl ?_)
 refine ac (fm ho rfl ?_ (by rw [am,bv];omega) (bo _))
 refine ac (iQ ho1 rfl ?_)
 refine ac (g9 ?_ (by show vs.length<=_;rw [bv];omega))
 refine ac (fY ?_ (bo _))
 refine bp ?_
 show aG (model prog w) A _ P E { s with heap:=((s.heap.update a (a0 fun _=>(#[]:Array Value))).push (bj "tuple" vs.toArray 0)).push (bj "list" #[] 0) }
 dsimp only
 have hn2:vs.toArray.size<2:=by rw [am];omega
 rw [if_pos hn2,if_pos hn2]
 refine ac (ah ?_)
 rw [StateT.run_pure]
 refine ac (ah ?_)
 dsimp only
 have ho6:(((s.heap.update a (a0 fun _=>(#[]:Array Value))).push (bj "tuple" vs.toArray 0)).push (bj "list" #[] 0)).get? a=some (bj "list" #[] e1):=af _ (af _ ho1)
 have o6:∀ b o,b≠a->s.heap.get? b=some o->(((s.heap.update a (a0 fun _=>(#[]:Array Value))).push (bj "tuple" vs.toArray 0)).push (bj "list" #[] 0)).get? b=some o:=fun b o nb e=>af _ (af _ ((s1.2 b nb).trans e))
 generalize ((s.heap.update a (a0 fun _=>(#[]:Array Value))).push (bj "tuple" vs.toArray 0)).push (bj "list" #[] 0)=h6 at ho6 o6 ⊢
 have hout:jk (fun x:Keyed=>x.snd) (arrOf (mh nz (vs.toArray.zip vs.toArray) #[] 7 none))=vs.toArray:=by
  show jk (fun x:Keyed=>x.snd) (vs.toArray.zip vs.toArray)=vs.toArray
  apply Array.ext'
  simp only [Array.toList_map,Array.toList_zip]
  exact List.map_snd_zip (ae _)
 refine ac (iQ (s:={ s with heap:=h6 }) ho6 rfl ?_)
 refine ac (fm (s:={ s with heap:=h6 }) ho6 rfl ?_ (bo _) (by rw [hout,am,bv];omega))
 have s2:=bB h6 a (a0 fun _=>jk (fun x:Keyed=>x.snd) (arrOf (mh nz (vs.toArray.zip vs.toArray) #[] 7 none)))
 obtain⟨c2,hc2⟩:∃ c2,(h6.update a (a0 fun _=>jk (fun x:Keyed=>x.snd) (arrOf (mh nz (vs.toArray.zip vs.toArray) #[] 7 none)))).get? a=some (bj "list" (jk (fun x:Keyed=>x.snd) (arrOf (mh nz (vs.toArray.zip vs.toArray) #[] 7 none))) c2):=⟨_,eM ho6 fun _=>_⟩
 rw [hout] at hc2 s2 ⊢
 simp only [bne_self_eq_false,cf,if_false]
 exact ah (h _ c2 hc2 fun b o nb e=>(s2.2 b nb).trans (o6 b o nb e))
theorem so_sortedG {x:Value} {OKQ:List Value->ai->Prop} {Q:Value->ai->Prop} (hc:∀ R:List Value->ai->Prop,(∀ us s',OKQ us s'->R us s')->aG (model prog w) A.in1 (lx x) R (fun _ _=>False) s)
  (h:∀ us s',OKQ us s'->us.length<64/\((us.length<2 -> ∀ h2 c,h2.get? s'.heap.objs.size=some (bj "list" us.toArray c)->(∀ b o,s'.heap.get? b=some o->h2.get? b=some o)->Q (.ref s'.heap.objs.size) { s' with heap:=h2 })/\(2<=us.length -> ∀ D e1 h2,s'.heap.objs.size<=D->h2.get? D=some (bj "list" #[] e1)->(∀ b o,s'.heap.get? b=some o->h2.get? b=some o) ->
   aG (model prog w) A.in1.in1 (mI us.toArray) (fun κ s''=>(kas_sort us.length).kasWp (kas_ask prog w A.in1.in1 κ us) (fun p s3=>SoFin D e1 (p.toList.map fun i=>us.getD i bh) (fun s4=>Q (.ref D) s4) s3) s'') (fun _ _=>False) { s' with heap:=h2 }))) :
  aG (model prog w) A (call (.builtin "sorted") [x]) Q E s:=by
 refine Calls.call_function_entry kind_sorted plain_sorted entry_sorted (args_sorted1 _) ?_
 unfold aT.«sorted»
 refine ac (m:=checkCount "sorted" 1 1 _) (ah ?_)
 refine ac (bL (hc _ fun us s' ok=>?_) (fun _ _ z=>z) fun _ _ z=>z.elim)
 obtain⟨h64,hs,hb⟩:=h us s' ok
 refine ac (fY ?_ (by rw [bv];omega))
 have hoL:(s'.heap.push (bj "list" us.toArray 0)).get? s'.heap.objs.size=some (bj "list" us.toArray 0):=aq _ rfl
 show aG _ _ _ _ _ { s' with heap:=s'.heap.push (bj "list" us.toArray 0) }
 refine ac (bp (cI slot_list_sort ⟨_,hoL,rfl⟩ entry_list_sort ?body (args_list_sort _)))
 case body=>
  by_cases h2:2<=us.length
  ·refine Nq (s:={ s' with heap:=s'.heap.push (bj "list" us.toArray 0) }) hoL h2 h64 fun e1 h2' g k=>?_
   refine bL (hb h2 _ e1 h2' (ae _) g fun b o q=>k b o (aE (au q)) (af _ q)) (fun κ s' hk=>?_) fun _ _ x=>x
   rw [kat_ask_eq rfl] at hk ⊢
   exact kas_wp_mono hk fun p s'' hk'=>hk'.mono fun s3 hq=>⟨_,rfl,ah ⟨_,rfl,hq⟩⟩
  ·have h2:us.length<2:=by omega
   refine Lf (s:={ s' with heap:=s'.heap.push (bj "list" us.toArray 0) }) hoL h2 fun h3 c g k=>?_
   exact⟨_,rfl,ah ⟨_,rfl,hs h2 h3 c g fun b o q=>k b o (aE (au q)) (af _ q)⟩⟩
theorem so_sortedC {x:Value} {OKQ:List Value->Heap->Nat->Prop} {Q:Value->ai->Prop} (hc:∀ R:List Value->ai->Prop,(∀ us h' tk,OKQ us h' tk->R us { s with heap:=h',toks:=tk })->aG (model prog w) A.in1 (lx x) R (fun _ _=>False) s)
  (h:∀ us h' tk,OKQ us h' tk->us.length<64/\((us.length<2 -> ∀ h2 c,h2.get? h'.objs.size=some (bj "list" us.toArray c)->(∀ b o,h'.get? b=some o->h2.get? b=some o)->Q (.ref h'.objs.size) { s with heap:=h2,toks:=tk })/\(2<=us.length -> ∀ D e1 h2,h'.objs.size<=D->h2.get? D=some (bj "list" #[] e1)->(∀ b o,h'.get? b=some o->h2.get? b=some o) ->
   aG (model prog w) A.in1.in1 (mI us.toArray) (fun κ s'=>(kas_sort us.length).kasWp (kas_ask prog w A.in1.in1 κ us) (fun p s''=>SoFin D e1 (p.toList.map fun i=>us.getD i bh) (fun s3=>Q (.ref D) s3) s'') s') (fun _ _=>False) { s with heap:=h2,toks:=tk }))) :
  aG (model prog w) A (call (.builtin "sorted") [x]) Q E s:=
 so_sortedG (OKQ:=fun us s'=>∃ h' tk,s'={ s with heap:=h',toks:=tk }/\OKQ us h' tk) (fun R hR=>hc R fun us h' tk ok=>hR us _ ⟨h',tk,rfl,ok⟩) fun us s' ⟨h',tk,e,ok⟩=>by subst e;exact h us h' tk ok
end
end PySem.W
namespace L2
open PySem PySem.Spec PyProof.Rows
theorem Nv:∀ {xs:List V} {us:List Value},xs.length=us.length->(∀ (i:Nat) x u,xs[i]? = some x->us[i]? = some u->RelV x u)->Vals xs us
 | [],[],_,_=>.nil
 | [],_::_,h,_=>by simp at h
 | _::_,[],h,_=>by simp at h
 | x::xs,u::us,h,g=>.cons (g 0 x u rfl rfl) (Nv (by simpa using h) fun i a b ha hb=>g (i+1) a b ha hb)
theorem aj9 {P:aK} {w:bt} {k:Key} {v:Value} (h:(Ap P w).is k v=true):RelV (kV k) v:=by
 rcases Az (show Gs k v=true from h) with ⟨i,t,rfl,rfl⟩|⟨x,t,rfl,rfl⟩
 ·exact⟨t,rfl⟩
 ·exact⟨t,rfl⟩
theorem Hn {P:aK} {w:bt} {kvs:List (Key×V)} {vs:List (Key×Value)} {us:List Value} (rel:KV kvs vs) (hl:us.length=vs.length) (h:∀ (j:Nat) v,us[j]? = some v -> ∃ k x,vs[j]? = some (k,x)/\(Ap P w).is k v=true):Vals (kvs.map fun kv=>kV kv.1) us:=by
 refine Nv (by rw [ag,rel.length,hl]) fun i x u hx hu=>?_
 obtain⟨k,y,hk,his⟩:=h i u hu
 have e:(kvs.map (·.1))[i]? = some k:=by rw [rel.keys,aA,hk];rfl
 rw [aA] at hx e
 obtain⟨kv,hkv,rfl⟩:=Option.map_eq_some_iff.mp hx
 rw [hkv] at e
 cases e
 exact aj9 his
section
variable {X:Cx}
noncomputable def ad4:List V->Hp->VK->Prop:=fun xs H Q=>∃ p kvs,xs=[.ref p]/\Rd H p (.dK kvs)/\kvs.length<=1000 /\ ∀ l,H l=none->Q (.ref l) (upd H l (.lst (kvs.map fun kv=>kV kv.1)))
theorem Py (hc:X.calm=true):Cc X (.type "list") ad4:=by
 intro pins s σ H xs us Q I r h
 obtain⟨p,kvs,rfl,e,few,q⟩:=h
 obtain⟨u,rfl,ru⟩:=Dq r
 cases ru
 obtain⟨z,lo,vs,rel,dof⟩:=Cr I.hok e
 obtain⟨ep,dat⟩:=dof.dictAt
 refine bE (ae _) (PySem.W.kdl_call (jO lo) (I.ok.hd hc) dat (by rw [<- rel.length];exact z) fun h' tk acc' c' hk hS' hacc htk=>?_)
 refine⟨.ref s.heap.objs.size,_,I.laid (t':=tk) hk (ae _) (o:=.lst (kvs.map fun kv=>kV kv.1)) ⟨by rw [ag];exact z,acc'.toList,c',?_,by simpa using hS'⟩,rfl,q _ (I.hok.fresh (ae _))⟩
 exact Hn rel (by rw [aZ];exact hacc.1) fun j v e=>hacc.2 j v (by rw [<- bJ];exact e)
noncomputable def ad8 (K:aa):List V->Hp->VK->Prop:=fun xs H Q=>∃ p zs,xs=[.ref p]/\(SqL K H p (zs.map V.str) \/ ∃ kvs,Rd H p (.dK kvs)/\kvs.map (·.1)=zs.map eJ)/\zs.Nodup/\zs.length<64 /\ ∀ D,H D=none->Q (.ref D) (upd H D (.lst ((Ak ltS zs).map V.str)))
theorem U7 {zs:List Str} (h:zs.length<2):Ak ltS zs=zs:=by
 match zs,h with
 | [],_=>rfl
 | [z],_=>rfl
theorem Sk {zs:List Str} {us:List Value} (r:Vals (zs.map V.str) us) {i:Nat} (h:i<zs.length):∃ t,us.getD i bh=.str (zs.getD i cQ) t:=by
 have hl:us.length=zs.length:=by have:=r.length;simpa using this.symm
 obtain⟨x,hx,rx⟩:=Pk r (i:=i) (by omega)
 rw [aA,aj h] at hx
 cases hx
 obtain⟨t,e⟩:=rx
 refine⟨t,?_⟩
 rw [av (l:=zs),aj h]
 exact e
theorem Pb {pins:List (Addr×Obj)} {s:ai} {σ:St} {H:Hp} {Q:VK} {u:Value} {zs:List Str} (I:Inv X pins σ H s) (nd:zs.Nodup) (h64:zs.length<64)
  (hc:∀ R:List Value->ai->Prop,(∀ (us:List Value) (ys:List Str) (h':Heap) (tk:Nat) (d:Drawn),ys.Perm zs->(∀ b o,s.heap.get? b=some o->h'.get? b=some o)->s.heap.objs.size<=h'.objs.size->s.toks<=tk->Vals (ys.map V.str) us->R us { s with heap:=h',toks:=tk,drawn:=d })->aG (model X.prog X.w) X.A.in1 (lx u) R (fun _ _=>False) s)
  (q:∀ D,H D=none->Q (.ref D) (upd H D (.lst ((Ak ltS zs).map V.str)))):aG (model X.prog X.w) X.A (call (.builtin "sorted") [u]) (EP X pins σ Q) X.xe s:=by
 refine PySem.W.so_sortedG (OKQ:=fun us s'=>∃ (ys:List Str) (h':Heap) (tk:Nat) (d:Drawn),s'={ s with heap:=h',toks:=tk,drawn:=d }/\ys.Perm zs/\(∀ b o,s.heap.get? b=some o->h'.get? b=some o)/\s.heap.objs.size<=h'.objs.size/\s.toks<=tk/\Vals (ys.map V.str) us) (fun R hR=>hc R fun us ys h' tk d p k z e r=>hR us _ ⟨ys,h',tk,d,rfl,p,k,z,e,r⟩) fun us s' ⟨ys,h',tk,d,e,perm,keep,hD,htk,rv⟩=>?_
 subst e
 have I1:Inv X pins σ H { s with drawn:=d }:={ I with }
 have nd2:ys.Nodup:=perm.nodup_iff.mpr nd
 have same:Ak ltS ys=Ak ltS zs:=Fq perm (Fk nd2)
 have hyz:=perm.length_eq
 rw [<- same] at q
 have hl:us.length=ys.length:=by have:=rv.length;simpa using this.symm
 refine⟨by omega,fun h2 h2' c g k=>?_,fun h2 D e1 h2' hD2 gD k=>?_⟩
 ·refine⟨.ref h'.objs.size,_,I1.laid (t':=tk) (fun b o e=>k b o (keep b o e)) hD (o:=.lst ((Ak ltS ys).map V.str)) ⟨?_,us,c,?_,g⟩,rfl,q _ (I.hok.fresh hD)⟩
  ·rw [U7 (by omega),ag,bv];omega
  ·rw [U7 (by omega)];exact rv
 ·refine PySem.W.kas_kind (T:=.type "str") h2 (fun v hv=>?_) rfl rfl ?_
  ·obtain⟨i,hi,rfl⟩:=List.getElem_of_mem hv
   obtain⟨t,e⟩:=Sk rv (i:=i) (by omega)
   rw [av,aj hi] at e
   rw [show us[i]=_ from e]
   exact .now
  ·obtain⟨pp,h1,h3,h4,h5⟩:=Ib (lt:=ltS) (zs:=ys) cQ (Fk nd2) (by omega)
   refine PySem.W.kRun_wp (n:=us.length) (lt:=fun i j=>ltS (ys.getD i cQ) (ys.getD j cQ)) (a:=pp) (fun i j C hi hj hC=>?_) (by rw [hl];exact h1) ⟨gD,fun h3' c g2 sb=>?_⟩
   ·unfold kB
    obtain⟨t1,e1⟩:=Sk rv (i:=i) (by omega)
    obtain⟨t2,e2⟩:=Sk rv (i:=j) (by omega)
    rw [e1,e2]
    exact PySem.W.kas_lt_str hC
   ·refine⟨.ref D,_,I1.laid (t':=tk) (fun b o e=>(sb.2 b (aE (aO (au e) (aS hD hD2)))).trans (k b o (keep b o e))) (aS hD hD2) (o:=.lst ((Ak ltS ys).map V.str)) ⟨?_,_,c,?_,g2⟩,rfl,q D (I.hok.fresh (aS hD hD2))⟩
    ·rw [ag,(Am ltS ys).length_eq,bv];omega
    ·have v:=Fr rv pp.toList (fun i hi=>by rw [hl];exact h4 i hi)
     have e:(pp.toList.map fun i=>(ys.map V.str).getD i .non)=(Ak ltS ys).map V.str:=by
      rw [<- h5,cS]
      refine dH fun i hi=>?_
      have:=h4 i hi
      rw [av,aA,aj this]
      show V.str ys[i]=V.str (ys.getD i cQ)
      rw [av,aj this]
      rfl
     rwa [e] at v
theorem Pz (hc:X.calm=true):Cc X (.builtin "sorted") (ad8 X.K):=by
 intro pins s σ H xs us Q I r h
 obtain⟨p,zs,rfl,hp,nd,h64,q⟩:=h
 obtain⟨u,rfl,ru⟩:=Dq r
 cases ru
 refine Pb I nd h64 (fun R hR=>?_) q
 rcases hp with hp|⟨kvs,hp,ek⟩
 ·obtain⟨its,ri,pl,hz⟩:=I.list hp
  refine mC pl.isList (hR _ _ _ s.toks s.drawn (.refl _) (fun b o e=>?_) ?_ (ae _) ri) (by have:=ri.length;rw [ag] at this;rw [bv];omega)
  ·have hlt:b<s.heap.objs.size:=au e
   rw [iI _ _ _ _ (aE hlt)]
   exact af _ e
  ·rw [ie,jw]
   exact ce _
 ·obtain⟨z,lo,vs,rel,dof⟩:=Cr I.hok hp
  obtain⟨ep,dat⟩:=dof.dictAt
  refine bE (ae _) (PySem.W.collect_src (jO lo) (by simp [I.ok.hd hc]) dat (by rw [<- rel.length];exact z) fun h' tk us hk hs hl hi htk=>?_)
  refine hR us zs h' tk s.drawn (.refl _) hk (fQ hs) htk ?_
  have v:=Hn rel hl hi
  have e:(kvs.map fun kv=>kV kv.1)=zs.map V.str:=by
   have:=congrArg (iA kV) ek
   rw [cS,cS] at this
   exact this
  rwa [e] at v
end
end L2
set_option maxHeartbeats 400000
namespace PySem
theorem bw5 {t:bU} {n:Nat}:(t.orStandIn n).led=t.led/\((t.orStandIn n).plain=true->t.plain=true):=by
 unfold SetTable.orStandIn
 split
 ·exact⟨rfl,fun h=>h⟩
 ·exact⟨rfl,fun h=>by cases h⟩
theorem bf5 (t:bU) (es:Array (Int×Value)) (h:Int) (x:Value):(layNew t es h x).2.1.led=t.led/\((layNew t es h x).2.1.plain=true->t.plain=true):=by
 unfold layNew
 split
 ·exact bw5
 ·exact⟨rfl,fun h=>by cases h⟩
theorem W4 {t t':bU} {hs:Array Int} {n:Nat} {o:Array Nat} (h:t.relaid hs n=some (t',o)):t'.led=t.led/\t'.plain=t.plain:=by
 unfold SetTable.relaid SetTable.laid at h
 cases e:SetTable.layClean (SetTable.sizeAbove n - 1) hs with
 | none=>rw [e] at h;cases h
 | some ow=>
  rw [e] at h
  cases h
  exact⟨rfl,rfl⟩
theorem af4 (t:bU) (es:Array (Int×Value)) (n:Nat):(kM t es n).2.1.led=t.led/\((kM t es n).2.1.plain=true->t.plain=true):=by
 unfold kM
 split
 ·rename_i t' o e
  obtain⟨h1,h2⟩:=W4 e
  dsimp only
  split
  ·exact⟨h1,fun h=>h2▸h⟩
  ·exact⟨rfl,fun h=>by cases h⟩
 ·exact⟨rfl,fun h=>by cases h⟩
section
variable {prog:aK} {w:bt} {κ:Type} [DecidableEq κ] {knd:KeyKind prog w κ} {A:bg} {E:Value->ai->Prop} {s:ai}
structure SetQ (knd:KeyKind prog w κ) (h:Heap) (a:Addr) (S:κ->Bool) (n:Nat) (led:Bool) (o:Obj) (es:Array (Int×Value)) (ep:Nat) (t:bU):Prop where
 at_:h.get? a=some o
 ex:o.ExactSet
 dt:o.data=.set es ep t
 el:ElemsOf knd es.toList
 mem:∀ k,S k=true ↔ ∃ e∈es.toList,knd.is k e.2=true
 few:es.size<scanBound
 fit:t.fits es.size=true
 sz:es.size=n
 led:t.led=led
 pl:t.plain=true->es.size=0
noncomputable def Pn (knd:KeyKind prog w κ) (h:Heap) (a:Addr) (S:κ->Bool) (n:Nat) (led:Bool):Prop:=∃ o es ep t,SetQ knd h a S n led o es ep t
theorem SetQ.of {h:Heap} {a:Addr} {S S':κ->Bool} {n m:Nat} {led:Bool} {o:Obj} {es es':Array (Int×Value)} {ep:Nat} {t t':bU} (q:SetQ knd h a S n led o es ep t)
  (el:ElemsOf knd es'.toList) (mem:∀ k,S' k=true ↔ ∃ e∈es'.toList,knd.is k e.2=true) (few:es'.size<scanBound) (fit:t'.fits es'.size=true) (sz:es'.size=m) (ld:t'.led=led) (pl:t'.plain=false) :
  SetQ knd (h.update a (Obj.putSet es' t')) a S' m led { o with data:=.set es' (ep+1) t' } es' (ep+1) t':=
 ⟨(SetOf_store (knd:=knd) q.at_ q.ex q.dt el mem few fit).1,q.ex,rfl,el,mem,few,fit,sz,ld,fun c=>by rw [pl] at c;cases c⟩
theorem bf4 {a:Addr} {S:κ->Bool} {n:Nat} {led:Bool} {k:κ} {x:Value} {Q:Bool->ai->Prop} (hk:knd.is k x=true) (hx:x.scannable=true) (hp:plainKind x=false) (hQ:Pn knd s.heap a S n led) (room:n+1<scanBound)
  (h:∀ h',a9 a s.heap h'->Pn knd h' a (fun k'=>S k'||decide (k'=k)) (if S k then n else n+1) led->Q (!S k) { s with heap:=h' }) :
  aG (model prog w) A (setAddHashed a x (knd.hash k)) Q E s:=by
 obtain⟨o,es,ep,t,q⟩:=hQ
 have fit:=q.fit
 unfold setAddHashed setAddHashedIn setAddByScan
 refine bp (ac (eP q.at_ q.dt fit ?_))
 dsimp only
 rw [byScan_of hx q.few q.el,if_pos rfl]
 refine ac (ac (gG (ac (wpAny_setScan_of hk q.at_ q.dt fit q.el ?_))))
 cases hr:List.findIdx? (fun e=>knd.is k e.2) es.toList with
 | some j=>
  obtain⟨hj,hpj,_⟩:=List.findIdx?_eq_some_iff_getElem.mp hr
  have inS:S k=true:=(q.mem k).mpr ⟨_,cR hj,hpj⟩
  rw [inS] at h
  refine ah (ah (h s.heap (Heap.SameBut.refl _ _) ⟨o,es,ep,t,{ q with mem:=fun k'=>?_ }⟩))
  rw [<- q.mem k',d9,decide_eq_true_eq]
  exact⟨fun c=>c.elim id fun e=>e▸inS,.inl⟩
 | none=>
  have noS:S k=false:=by
   cases c:S k with
   | false=>rfl
   | true=>
    obtain⟨e,he,hp⟩:=(q.mem k).mp c
    have:=List.findIdx?_eq_none_iff.mp hr e he
    rw [hp] at this;cases this
  rw [noS] at h
  have perm:=layNew_perm t es (knd.hash k) x
  have fits:=layNew_fits t es (knd.hash k) x
  obtain⟨l1,l2⟩:=bf5 t es (knd.hash k) x
  generalize layNew t es (knd.hash k) x=L at perm fits l1 l2 ⊢
  obtain⟨es1,t1,wd,gv⟩:=L
  dsimp only at perm fits l1 l2 ⊢
  rw [Array.toList_push] at perm
  have el1:ElemsOf knd es1.toList:=(q.el.push hk hx).perm perm
  have mem1:=mem_push_iff hk q.mem perm
  have sz1:es1.size=n+1:=by rw [<- aZ,perm.length_eq,aI,aZ,q.sz];rfl
  have few1:es1.size<scanBound:=by omega
  have tail:∀ t2:bU,t2.fits es1.size=true->t2.led=led->t2.plain=false -> ∀ (g:Bool->Sem Unit),(∀ b s1 (R:Unit->ai->Prop),R () s1->aG (model prog w) A (g b) R E s1)->aG (model prog w) A (do
    storeSet a es1 t2
    if (!wd&&t2.tooFull)=true then do
      g (kM t2 es1 (fB es1.size)).2.2
      storeSet a (kM t2 es1 (fB es1.size)).1 (kM t2 es1 (fB es1.size)).2.1
      pure (some true)
     else pure (some true)) (fun (r:Option Bool) s'=>r=some true /\ ∃ h',s'={ s with heap:=h' }/\a9 a s.heap h'/\Pn knd h' a (fun k'=>S k'||decide (k'=k)) (n+1) led) E s:=fun t2 f2 ld2 pl2 g hg=>by
   have q1:=q.of (m:=n+1) el1 mem1 few1 f2 sz1 ld2 pl2
   have b1:=bB s.heap a (Obj.putSet es1 t2)
   refine ac (wpAny_storeSet_of q.at_ q.dt ?_ (fits_of_scanBound few1))
   split
   ·have p2:=relayAll_perm t2 es1 (fB es1.size)
    have f3:=relayAll_fits t2 es1 (fB es1.size)
    obtain⟨r1,r2⟩:=af4 t2 es1 (fB es1.size)
    generalize kM t2 es1 (fB es1.size)=L2 at p2 f3 r1 r2 ⊢
    obtain⟨es2,t3,gv2⟩:=L2
    dsimp only at p2 f3 r1 r2 ⊢
    have sz2:es2.size=n+1:=by rw [<- aZ,p2.length_eq,aZ,sz1]
    have mem2:∀ k',(S k'||decide (k'=k))=true ↔ ∃ e∈es2.toList,knd.is k' e.2=true:=fun k'=>by
     rw [mem1 k']
     exact⟨fun⟨e,he,z⟩=>⟨e,p2.mem_iff.mpr he,z⟩,fun⟨e,he,z⟩=>⟨e,p2.mem_iff.mp he,z⟩⟩
    have pl3:t3.plain=false:=by
     cases c:t3.plain with
     | false=>rfl
     | true=>rw [r2 c] at pl2;cases pl2
    refine ac (hg _ _ _ (ac (wpAny_storeSet_of q1.at_ q1.dt (ah ⟨rfl,_,rfl,b1.trans (bB _ a _),_,_,_,_,q1.of (m:=n+1) (el1.perm p2) mem2 (by omega) f3 sz2 (r1.trans ld2) pl3⟩) (by rw [sz2,bv];have:scanBound=4096:=rfl;omega))))
   ·exact ah ⟨rfl,_,rfl,b1,_,_,_,_,q1⟩
  have fin:∀ (r:Option Bool) (s':ai),(r=some true /\ ∃ h',s'={ s with heap:=h' }/\a9 a s.heap h'/\Pn knd h' a (fun k'=>S k'||decide (k'=k)) (n+1) led)->Q true s':=fun r s' ⟨_,h',e,b,z⟩=>by
   rw [e];exact h h' b z
  have hg:∀ (b:Bool) (s1:ai) (R:Unit->ai->Prop),R () s1->aG (model prog w) A (match b with|true=>rule "set.scan.the-table-gave-way" | false=>pure ()) R E s1:=fun b s1 R z=>by
   cases b
   ·exact ah z
   ·exact gG z
  refine ac (hg gv _ _ ?_)
  split
  ·rw [hashByValue_scannable 8 hx,hp]
   refine ac (ah ?_)
   refine bL (tail { t1 with plain:=false } (SetTable.fits_plain_off fits) (l1.trans q.led) rfl _ hg) (fun r s' z=>?_) fun _ _ z=>z
   obtain⟨rfl,z⟩:=z
   exact ah (fin _ s' ⟨rfl,z⟩)
  ·rename_i c
   refine ac (ah ?_)
   refine bL (tail t1 fits (l1.trans q.led) (by simpa using c) _ hg) (fun r s' z=>?_) fun _ _ z=>z
   obtain⟨rfl,z⟩:=z
   exact ah (fin _ s' ⟨rfl,z⟩)
theorem aq0 (a:Value) {Q₁:Value->ai->Prop} (h:Q₁ (.ref s.heap.objs.size) { s with heap:=s.heap.push (Ch (!w.params.followText "set-order")) }):eK (model prog w) A (.call (.builtin "set.__new__") ⟨[.type "set", a],[]⟩) (wants Q₁ E) s:=by
 have hsub:=sub_set_self
 refine iN (show aG _ A.in1 (gp "set.__new__" ⟨[.type "set", a],[]⟩ >>= fun _=>again (.builtin "set.__new__" ⟨[.type "set", a],[]⟩)) _ _ s from ?_)
 refine ac (lJ (F.newCall_set_1 a) (ah ⟨gN F.plain_set_new _,c7 F.entry_set_new (d6 F.plain_set_new _ ▸ ?_)⟩))
 unfold aT.«set.__new__» Builtin.Frozenset.newClass
 obtain⟨hp,g,d,tk,os⟩:=s;dsimp only
 wp_walk
 refine fv (ah ?_);dsimp only;simp only [newObj]
 exact ac (wpAny_alloc (ah (ah h)))
theorem af3 {led:Bool} {h:Heap} {a:Addr} (e:h.get? a=some (Ch led)):Pn knd h a (fun _=>false) 0 led:=
 ⟨_,#[],0,_,e,⟨rfl,rfl,rfl⟩,rfl,(fun e he=>by simp at he),(fun k=>by simp),(by decide),rfl,rfl,rfl,fun _=>rfl⟩
end
end PySem
set_option maxHeartbeats 4000000
namespace PySem
open PySem PySem.Spec PyProof.Rows
section
variable {prog:aK} {w:bt} {A:bg} {R:kY->ai->Prop} {I:Addr} {fp wr:List Addr} {G:Array i3->Array i3->Prop} {P:Nat->Value->Prop} {St:Nat->ai->Prop} {κ:Type} [DecidableEq κ] {knd:KeyKind prog w κ} {ks:List κ} {led:Bool}
noncomputable abbrev Dv (knd:KeyKind prog w κ) (led:Bool) (h:Heap) (S:Addr) (ks:List κ):Prop:=Pn knd h S (fun k=>(Dr ks).any (fun j=>decide (j=k))) (Dr ks).length led
theorem ax4 {h h':Heap} {S:Addr} (x:Dv knd led h S ks) (k:∀ o,h.get? S=some o->h'.get? S=some o):Dv knd led h' S ks:=
 let ⟨o,es,ep,t,q⟩:=x;⟨o,es,ep,t,{ q with at_:=k o q.at_ }⟩
theorem Sn (W:WalksS prog w A.in1 I fp wr G ks.length P St) (S:Addr) (out:S∉fp) (hv:∀ i v,P i v -> ∃ k,ks[i]? = some k/\knd.is k v=true/\v.scannable=true/\plainKind v=false) (few:ks.length+1<scanBound) (left:Nat) :
  ∀ (i:Nat) (s:ai),i+left=ks.length->St i s->Dv knd led s.heap S (ks.take i)->(∀ s',Moved (S::wr) G s s'->Dv knd led s'.heap S ks->R (.ok (.ret .none)) s') ->
   eK (model prog w) A (.builtin "set.update.loop" ⟨[.ref S,.ref I],[]⟩) R s:=by
 have outw:S∉wr:=fun z=>out (W.sub _ z)
 have into:∀ b∈wr,b∈S::wr:=fun b z=>.tail _ z
 induction left with
 | zero=>
  intro i s hi st fl hR
  have ei:i=ks.length:=hi
  subst ei
  rw [bV] at fl
  refine c7 jB (d6 gH _ ▸ ?_)
  show aG _ A.in1 (i7 (.ref I) >>= _) _ _ s
  exact ac (W.done s _ _ st fun s' mv=>ah (hR s' (mv.mono into) (ax4 fl fun o e=>mv.heap S o outw e)))
 | succ left ih=>
  intro i s hi st fl hR
  have lt:i<ks.length:=by omega
  refine c7 jB (d6 gH _ ▸ ?_)
  show aG _ A.in1 (i7 (.ref I) >>= _) _ _ s
  refine ac (W.item i s _ _ lt st fun v s1 pv st1 mv=>?_)
  obtain⟨k,ek,ik,sk,nk⟩:=hv i v pv
  have fl1:Dv knd led s1.heap S (ks.take i):=ax4 fl fun o e=>mv.heap S o outw e
  have tk:ks.take (i+1)=ks.take i++[k]:=by rw [List.take_succ,ek];rfl
  show aG _ A.in1 (nA [v] (setAdd S v) >>= _) _ _ s1
  refine ac (bp ?_)
  unfold setAdd
  refine bp (ac (knd.pyHash (k:=k) ik ?_))
  have room:(Dr (ks.take i)).length+1<scanBound:=by
   have:=Oq (ks.take i)
   rw [a_] at this
   omega
  refine bf4 (knd:=knd) (s:={ s1 with toks:=s1.toks+1 }) ik sk nk fl1 room fun h' sb fl2=>?_
  have fl3:Dv knd led h' S (ks.take (i+1)):=by
   have eS:(fun j=>(Dr (ks.take i)).any (fun m=>decide (m=j))||decide (j=k))=fun j=>(Dr (ks.take i++[k])).any (fun m=>decide (m=j)):=funext fun j=>(Zy (ks.take i) k j).symm
   have en:(if (Dr (ks.take i)).any (fun m=>decide (m=k))=true then (Dr (ks.take i)).length else (Dr (ks.take i)).length+1)=(Dr (ks.take i++[k])).length:=by
    rw [Hr];split <;> simp
   rw [tk]
   show Pn knd h' S _ _ led
   rw [<- eS,<- en]
   exact fl2
  refine ah ⟨gN gH _,ih (i+1) _ (by omega) (W.frame _ s1 _ _ st1 (ce _) fun b hb o e=>?_) fl3 fun s2 mv2 fl4=>?_⟩
  ·exact (sb.2 b fun z=>out (z▸hb)).trans e
  ·exact hR s2 (Moved.trans W.gtrans ((mv.mono into).then_heap (ce _) fun b o hb e=>(sb.2 b fun z=>hb (z▸bx)).trans e) mv2) fl4
end
section
variable {prog:aK} {w:bt} {A:bg} {E:Value->ai->Prop} {s:ai} {κ:Type} [DecidableEq κ] {knd:KeyKind prog w κ} {ks:List κ}
theorem So {l:Addr} {items:Array Value} {Q:Value->ai->Prop} (hh:A.handled=none) (hl:s.heap.IsList l items) (hv:∀ (i:Nat) (v:Value),items[i]? = some v -> ∃ k,ks[i]? = some k/\knd.is k v=true/\v.scannable=true/\plainKind v=false) (hs:items.size=ks.length) (few:ks.length+1<scanBound)
  (h:∀ (h':Heap) (tk:Nat),Dv knd (!w.params.followText "set-order") h' s.heap.objs.size ks->(∀ b o,b<s.heap.objs.size->s.heap.get? b=some o->h'.get? b=some o)->Q (.ref s.heap.objs.size) { s with heap:=h',toks:=tk }) :
  aG (model prog w) A (call (.type "set") [.ref l]) Q E s:=by
 obtain⟨c,tl,hmro⟩:=F.called_set.mro
 have m1:=F.called_set.made
 have m2:=F.called_set.sub
 have m3:=F.called_set.notType
 have m4:=F.called_set.canCreate
 have m5:=F.typeCall_set_1 (.ref l)
 refine dN (iN (show aG _ _ (callAny (.type "set") _) _ _ _ from ah ⟨c9 _ (by decide +kernel),c7 F.entry_type_call ?_⟩))
 rw [Around.under_plain (weight_type_call_type "set" [.ref l] []) rfl]
 repeat (any_goals (first|assumption|wp_step))
 refine eU (aq0 (.ref l) (E:=E) (Q₁:=fun obj s₁=>obj=.ref s.heap.objs.size/\s₁={ s with heap:=s.heap.push (Ch (!w.params.followText "set-order")) }) ⟨rfl,rfl⟩) fun r s₁ hr=>?_
 cases r with
 | error e=>exact hr
 | ok fl=>
  cases fl with
  | ret obj=>
   obtain⟨rfl,rfl⟩:=hr
   have new:(s.heap.push (Ch (!w.params.followText "set-order"))).get? s.heap.objs.size=some (Ch (!w.params.followText "set-order")):=aq _ rfl
   have ty:Shared.TypeIs { s with heap:=s.heap.push (Ch (!w.params.followText "set-order")) } (.ref s.heap.objs.size) "set" := ⟨_,new,rfl⟩
   have m6:=F.called_set.init.lookup
   have m7:=F.called_set.init.bind (.ref s.heap.objs.size)
   repeat (any_goals (first|assumption|wp_step))
   refine eU (dv (R:=wants (fun r s₂=>r=.none /\ ∃ h' tk,s₂={ s with heap:=h',toks:=tk }/\Dv knd (!w.params.followText "set-order") h' s.heap.objs.size ks/\(∀ b o,b<s.heap.objs.size->s.heap.get? b=some o->h'.get? b=some o)) E) F.called_set.init.plain F.entry_set_init (check_set_init_1 ty ?_)) fun r2 s2 hr2=>?_
   ·obtain⟨⟨oc,odict,od,osl⟩,ol,hc,n,hd⟩:=hl
    simp only at hc hd
    subst hc;subst hd
    have lt:l<s.heap.objs.size:=au ol
    have ol2:(s.heap.push (Ch (!w.params.followText "set-order"))).get? l=some { cls:=.type "list", dict:=odict,data:=.seq items n,slots:=osl }:=af _ ol
    have m8:=F.sub_list_set
    have m9:=F.sub_list_frozenset
    have m10:(cZ "list" == cZ "dict")=false:=by decide
    have isl:(s.heap.push (Ch (!w.params.followText "set-order"))).IsList l items:=⟨_,ol2,rfl,n,rfl⟩
    have size:(s.heap.push (Ch (!w.params.followText "set-order"))).objs.size=s.heap.objs.size+1:=cx ..
    unfold aT.«set.__init__» noKeywords Builtin.Frozenset.updateFrom
    generalize hPI:mT=PI
    wp_walk
    subst hPI
    refine wpAny_pyIter_list isl (ac (jj ?_))
    have quiet:A.in1.in1.in1.handled=none:=by simp [hh]
    have ne1:l≠(s.heap.push (Ch (!w.params.followText "set-order"))).objs.size:=size▸aE (cM lt)
    have out:s.heap.objs.size∉[(s.heap.push (Ch (!w.params.followText "set-order"))).objs.size,l]:=by
     simp only [size,aF,bN,or_false,not_or]
     exact⟨aE (cT _),dz lt⟩
    have W:=(Walks.list (prog:=prog) (w:=w) quiet (s.heap.push (Ch (!w.params.followText "set-order"))).objs.size l ne1 items).toS
    rw [hs] at W
    refine Sn (ks:=ks) (led:=!w.params.followText "set-order") W s.heap.objs.size out hv few ks.length 0 _ (hX _) ⟨⟨_,aq _ rfl,rfl,rfl⟩,isl.push _⟩ ?_ fun s' mv fl=>?_
    ·exact af3 (af _ new)
    ·obtain⟨h',g',d',tk',os'⟩:=s'
     have e1:g'=s.gens:=mv.gens
     have e2:d'=s.drawn:=mv.drawn
     have e3:os'=s.os:=mv.os
     subst e1;subst e2;subst e3
     refine (show aG _ _ _ _ _ _ from ah (show aG _ _ (ret bh) _ _ _ from ah ⟨rfl,h',tk',rfl,fl,fun b o hb e=>?_⟩))
     refine mv.heap b o ?_ (af _ (af _ e))
     simp only [size,aF,bN,or_false,not_or]
     exact⟨aE hb,aE (cM hb)⟩
   ·cases r2 with
    | error e=>exact hr2
    | ok f2=>
     cases f2 with
     | ret r=>
      obtain⟨rfl,h',tk,rfl,fl,kept⟩:=hr2
      repeat (any_goals (first|assumption|wp_step))
      exact h _ _ fl kept
     | _=>exact hr2.elim
  | _=>exact hr.elim
end
end PySem
set_option maxHeartbeats 1000000
namespace PySem
open PySem PySem.Spec PyProof.Rows
theorem W6:nv table "set.__iter__" = some aT.«frozenset.__iter__»:=entryFor_alias (id' := "frozenset.__iter__") (by kernel_rfl) rfl (by decide +kernel) (by kernel_rfl)
theorem sy_s_next:Slot "set_iterator" "__next__" "set_iterator.__next__" := .of (owner := "set_iterator") (n := "__next__") (by rw [iS,fS];kernel_rfl) (by decide +kernel) (by decide +kernel) (by decide +kernel) (by first|exact .inl (by decide +kernel)|exact .inr (by decide +kernel)) (by rw [jd];kernel_rfl)
theorem Mj:nv table "set_iterator.__next__" = some aT.«set_iterator.__next__»:=entryFor_of_tree (by kernel_rfl)
theorem bw6:Manifest.owners.lookup (String.ofList ['r','o','t','a','r','e','t','i','_','t','e','s'].reverse)=some Manifest.sig_set_iterator:=by kernel_rfl
theorem Mi (a:Value):argsOk "set_iterator.__next__" ⟨[a],[]⟩:=by
 unfold argsOk
 rw [signature?_of (id := "set_iterator.__next__") (n:=['_','_','t','x','e','n','_','_']) (o:=['r','o','t','a','r','e','t','i','_','t','e','s']) (by kernel_rfl) bw6]
 kernel_rfl
theorem Ml:Slot "set_iterator" "__iter__" "set_iterator.__iter__" := .of (owner := "set_iterator") (n := "__iter__") (by rw [iS,fS];kernel_rfl) (by decide +kernel) (by decide +kernel) (by decide +kernel) (by first|exact .inl (by decide +kernel)|exact .inr (by decide +kernel)) (by rw [jd];kernel_rfl)
theorem W7:nv table "set_iterator.__iter__" = some aT.«dict_keyiterator.__iter__»:=entryFor_alias (id' := "dict_keyiterator.__iter__") (by kernel_rfl) rfl (by decide +kernel) (by kernel_rfl)
theorem W5 (a:Value):argsOk "set_iterator.__iter__" ⟨[a],[]⟩:=by
 unfold argsOk
 rw [signature?_of (id := "set_iterator.__iter__") (n:=['_','_','r','e','t','i','_','_']) (o:=['r','o','t','a','r','e','t','i','_','t','e','s']) (by kernel_rfl) bw6]
 kernel_rfl
theorem Sr {α:Type}:∀ {l:List α} {i:Nat} (h:i<l.length),(l[i]::l.eraseIdx i).Perm l
 | a::l,0,_=>.refl _
 | a::l,i+1,h=>(List.Perm.swap a _ _).trans ((Sr (l:=l) (i:=i) (Nat.lt_of_succ_lt_succ h)).cons a)
theorem Vb {α:Type} (next:Nat->Nat):∀ (fuel k:Nat) (left:List α) (out:Array α),left.length<=fuel -> ∃ ys,(kH next fuel k left out).toList=out.toList++ys/\ys.Perm left
 | 0,k,left,out,h=>⟨[],by simp [kH],by rw [ft (Nat.le_zero.mp h)]⟩
 | fuel+1,k,[],out,h=>⟨[],by simp [kH],.nil⟩
 | fuel+1,k,z::left,out,h=>by
  have hlt:next k % (z::left).length<(z::left).length:=Nat.mod_lt _ (by simp)
  obtain⟨ys,e,p⟩:=Vb next fuel (k+1) ((z::left).eraseIdx (next k % (z::left).length)) (out.push (z::left)[next k % (z::left).length]) (by rw [iZ hlt];exact Nat.sub_le_of_le_add h)
  refine⟨(z::left)[next k % (z::left).length]::ys,?_,?_⟩
  ·rw [kH,aj hlt]
   dsimp only
   rw [e];simp
  ·exact (p.cons _).trans (Sr hlt)
theorem af5 {α:Type} (next:Nat->Nat) (xs:Array α):(gd next xs).toList.Perm xs.toList:=by
 obtain⟨ys,e,p⟩:=Vb next xs.size 0 xs.toList #[] (ku aZ)
 unfold gd
 rw [e];simpa using p
section
variable {prog:aK} {w:bt} {A:bg} {E:Value->ai->Prop}
theorem Va {α:Type}:∀ (n:Nat) (xs:List α) (s:ai) {Q:List α->ai->Prop},xs.length=n->(∀ ys d,ys.Perm xs->Q ys { s with drawn:=d })->aG (model prog w) A (drawOrder n xs) Q E s
 | 0,xs,s,Q,h,hQ=>by
  rw [ft h] at hQ ⊢
  unfold drawOrder
  exact ah (hQ [] s.drawn .nil)
 | n+1,[],s,Q,h,hQ=>by cases h
 | n+1,z::xs,s,Q,h,hQ=>by
  unfold drawOrder
  refine ac (fun Γ p _=>⟨by simp,?_⟩)
  have hlt:(model prog w).w.draws .order (s.drawn.get .order) % (z::xs).length<(z::xs).length:=Nat.mod_lt _ (by simp)
  generalize (model prog w).w.draws .order (s.drawn.get .order) % (z::xs).length=i at hlt
  show aG (model prog w) A _ Q E { s with drawn:=s.drawn.bump .order }
  rw [aj hlt]
  dsimp only
  refine ac (Va n ((z::xs).eraseIdx i) _ (by rw [iZ hlt];simpa using h) fun ys d p=>ah (hQ _ d ((p.cons _).trans (Sr hlt))))
end
noncomputable def a16 (h:Heap) (I:Addr) (f:Value) (i:Nat) (S:Addr) (n ep:Nat):Prop:=∃ o,h.get? I=some o/\o.cls=.type "set_iterator" /\ o.data=.fields #[f,.int i 0,.ref S,.int n 0,.int ep 0]
noncomputable def SyF (w:bt) (h:Heap) (S T:Addr) (es:Array (Int×Value)) (ep:Nat) (t:bU) (xs:List Value) (i:Nat) (f:Value):Prop:=
 (w.params.followText "set-order" = true/\f=.int 0 0/\xs=(gd (w.params.setOrder S ep) es).toList.map (·.2)) \/
 (∃ ps:List Nat,f=.ref T/\(∃ o c,h.get? T=some o/\o.data=.seq (ps.map fun (i:Nat)=>dZ i).toArray c)/\ps.length=es.size /\ ∀ (i p:Nat),ps[i]? = some p -> ∃ e:Int×Value,es[p]? = some e/\xs[i]? = some e.2) \/
 (w.params.followText "set-order" = false/\es.size<=1/\t.led=true/\f=.int ((if i=0 then 0 else t.place.getD 0 0+1:Nat)) 0/\xs=es.toList.map (·.2))
noncomputable def Vg (w:bt) (I S T:Addr) (es:Array (Int×Value)) (ep:Nat) (t:bU) (xs:List Value) (i:Nat) (h:Heap):Prop:=
 ∃ f,a16 h I f i S es.size ep/\(∃ o,h.get? S=some o/\o.data=.set es ep t)/\SyF w h S T es ep t xs i f
section
variable {prog:aK} {w:bt} {A:bg} {E:Value->ai->Prop} {s:ai} {I S T:Addr} {es:Array (Int×Value)} {ep:Nat} {t:bU} {xs:List Value} {i:Nat}
theorem Ss {n:Nat} {places:Array Nat} (h:places.size=n) (h1:n<=1):dB places 0=0/\dB places (places.getD 0 0+1)=n:=by
 subst h
 match places,h1 with
 | ⟨[]⟩,_=>exact⟨rfl,rfl⟩
 | ⟨[a]⟩,_=>
  constructor
  ·simp [dB,SetTable.below.go]
  ·simp [dB,SetTable.below.go]
theorem af6 {oT:Obj} {its:Array Value} {c:Nat} {Q:Option (Array Value)->ai->Prop} (hoT:s.heap.get? T=some oT) (hdT:oT.data=.seq its c) (h:Q (some its) s):aG (model prog w) A (mW (.ref T)) Q E s:=by
 unfold mW
 refine ac (mo hoT ?_)
 rw [hdT]
 exact ah h
theorem Pe {slot given:Nat} {oS:Obj} {Q:Option (Value×Nat)->ai->Prop} (hoS:s.heap.get? S=some oS) (hdS:oS.data=.set es ep t) (fit:t.fits es.size=true) (hw:w.params.followText "set-order" = true)
  (h:Q (((gd (w.params.setOrder S ep) es)[given]?).map fun e=>(e.2,slot)) s):aG (model prog w) A (setNext S slot given ep) Q E s:=by
 unfold setNext
 refine ac (eP hoS hdS fit ?_)
 dsimp only
 unfold mn
 refine ac (ac (fv (ah ?_)))
 rw [if_pos (show (model prog w).w.params.followText "set-order" = true from hw),if_neg (by simp)]
 refine ac ?_
 unfold setWalk
 refine ac (eP hoS hdS fit ?_)
 dsimp only
 unfold mn
 refine ac (ac (fv (ah ?_)))
 rw [if_pos (show (model prog w).w.params.followText "set-order" = true from hw)]
 exact ac (fv (ah (ah h)))
theorem Pf {slot given:Nat} {oS:Obj} {Q:Option (Value×Nat)->ai->Prop} (hoS:s.heap.get? S=some oS) (hdS:oS.data=.set es ep t) (fit:t.fits es.size=true) (hw:w.params.followText "set-order" = false) (h1:es.size<=1) (hl:t.led=true)
  (h:Q (match es[dB t.place slot]?,t.place[dB t.place slot]? with
  | some (_,x),some j=>some (x,j+1)
  | _,_=>none) s):aG (model prog w) A (setNext S slot given ep) Q E s:=by
 unfold setNext
 refine ac (eP hoS hdS fit ?_)
 dsimp only
 unfold mn
 refine ac (ac (fv (ah ?_)))
 rw [if_neg (show ¬ (model prog w).w.params.followText "set-order" = true from by rw [show (model prog w).w.params.followText "set-order" = false from hw];exact ak)]
 refine c8 (fun c=>?_) (fun _=>?_)
 ·have c2:(!t.plain&&decide (es.size > 1))=true:=c
  simp at c2
  omega
 refine ac (m:=if (!t.led && !es.isEmpty)=true then unsupported "set:maker-not-led" else pure ()) ?_
 rw [hl]
 exact ah (ah h)
theorem bf7 {h:Heap} {o:Obj} {f g:Value} {j:Int} {n:Nat} (ho:h.get? I=some o) (hc:o.cls=.type "set_iterator") (hd:o.data=.fields #[f,.int i 0,.ref S,.int n 0,.int ep 0]) :
  a16 ((h.update I (bc (·.setIfInBounds 0 g))).update I (bc (·.setIfInBounds 1 (dZ ((i:Int)+1))))) I g (i+1) S n ep:=by
 have a:=aW (bc (·.setIfInBounds 0 g)) ho (bR (b7 hd _))
 have b:=aW (bc (·.setIfInBounds 1 (dZ ((i:Int)+1)))) a (bR (b7 (b7 hd _) _))
 exact⟨_,b,(jp ..).trans ((jp ..).trans hc),by rw [b7 (b7 hd _)];simp [dZ]⟩
theorem aq4 {h:Heap} {o:Obj} {f:Value} {n:Nat} (ho:h.get? I=some o) (hc:o.cls=.type "set_iterator") (hd:o.data=.fields #[f,.int i 0,.ref S,.int n 0,.int ep 0]) :
  a16 (h.update I (bc (·.setIfInBounds 1 (dZ ((i:Int)+1))))) I f (i+1) S n ep:=
 ⟨_,aW _ ho (bR (b7 hd _)),(jp ..).trans hc,by rw [b7 hd];simp [dZ]⟩
theorem aq2 {Q:Option Value->ai->Prop} (fit:t.fits es.size=true) (hxs:xs.length=es.size) (hST:S≠I/\T≠I) (hi:i<es.size) (st:Vg w I S T es ep t xs i s.heap)
  (hQ:∀ v h',xs[i]? = some v->Vg w I S T es ep t xs (i+1) h'->(∀ b o,b≠I->s.heap.get? b=some o->h'.get? b=some o)->Q (some v) { s with heap:=h' }) :
  aG (model prog w) A (i7 (.ref I)) Q E s:=by
 obtain⟨f,⟨o,ho,hc,hd⟩,⟨oS,hoS,hdS⟩,hf⟩:=st
 have ty:s.TypeIs (.ref I) "set_iterator" := ⟨o,ho,hc⟩
 unfold i7
 refine ac (fq (cE (name:=cr "__next__") ty sy_s_next (cI sy_s_next ty Mj ?_ (Mi _))))
 unfold aT.«set_iterator.__next__»
 refine ac (ah ?_)
 refine ac (jh ho hd ?_)
 dsimp only
 refine ac (iU hoS hdS fit ?_)
 rw [if_neg (by simp)]
 refine ac (ah ?_)
 have oth:∀ {g:Value} (b:Addr) (o:Obj),b≠I->s.heap.get? b=some o->((s.heap.update I (bc (·.setIfInBounds 0 g))).update I (bc (·.setIfInBounds 1 (dZ ((i:Int)+1))))).get? b=some o:=
  fun b o hb e=>(aN _ _ (bO hb)).trans ((aN _ _ (bO hb)).trans e)
 have oth1:∀ (b:Addr) (o:Obj),b≠I->s.heap.get? b=some o->(s.heap.update I (bc (·.setIfInBounds 1 (dZ ((i:Int)+1))))).get? b=some o:=
  fun b o hb e=>(aN _ _ (bO hb)).trans e
 have fin:∀ (v:Value) (nx:Nat),xs[i]? = some v->SyF w ((s.heap.update I (bc (·.setIfInBounds 0 (dZ nx)))).update I (bc (·.setIfInBounds 1 (dZ ((i:Int)+1))))) S T es ep t xs (i+1) (dZ nx) ->
   aG (model prog w) A.in1 (do
     jL (aM I) 0 (dZ (nx:Nat))
     jL (aM I) 1 (dZ ((i:Int)+1))
     ret v) (fun fin s'=>∃ v,fin=Fin.done (Flow.ret v)/\aG (model prog w) A (pure (some v)) Q E s')
    (fun e s'=>aG (model prog w) A (do if <- gZ e (cZ "StopIteration") then pure none else throw e) Q E s') s:=by
  intro v nx ev sf
  refine ac (cG ho hd (by simp) ?_)
  have a:=aW (bc (·.setIfInBounds 0 (dZ nx))) ho (bR (b7 hd _))
  refine ac (cG (s:={ s with heap:=_ }) a (b7 hd _) (by simp) ?_)
  exact ah ⟨v,rfl,ah (hQ v _ ev ⟨_,bf7 (j:=0) ho hc hd,⟨oS,oth _ _ hST.1 hoS,hdS⟩,sf⟩ oth)⟩
 rcases hf with ⟨hw,rfl,ex⟩|⟨ps,rfl,⟨oT,c,hoT,hdT⟩,hps,hx⟩|⟨hw,h1,hl,rfl,ex⟩
 ·dsimp only
  have e1:(gd (w.params.setOrder S ep) es).size=es.size:=by rw [ex,ag,aZ] at hxs;exact hxs
  refine ac (Pe hoS hdS fit hw ?_)
  rw [bW,bw (by omega)]
  refine fin _ 0 ?_ (.inl ⟨hw,rfl,ex⟩)
  rw [ex,aA,bJ,bw (by omega)]
  rfl
 ·obtain⟨p,hp⟩:∃ p,ps[i]? = some p:=⟨_,aj (by omega)⟩
  obtain⟨e,he,hv⟩:=hx i p hp
  dsimp only
  refine ac (af6 hoT hdT ?_)
  dsimp only
  rw [bW,hV,aA,hp]
  show aG _ _ (setNextDrawn S _ _ >>= _) _ _ s
  refine ac ?_
  unfold setNextDrawn
  refine ac (eP hoS hdS fit ?_)
  dsimp only
  rw [if_neg (by simp)]
  refine ac (ah ?_)
  rw [show (mM (p:Int))=p from bW p,he]
  refine ah ?_
  refine ac (cG ho hd (by simp) ?_)
  exact ah ⟨_,rfl,ah (hQ _ _ hv ⟨_,aq4 ho hc hd,⟨oS,oth1 _ _ hST.1 hoS,hdS⟩,.inr (.inl ⟨ps,rfl,⟨oT,c,oth1 _ _ hST.2 hoT,hdT⟩,hps,hx⟩)⟩ oth1)⟩
 ·dsimp only
  have hsz:t.place.size=es.size:=by simp only [SetTable.fits,aw,beq_iff_eq,decide_eq_true_eq] at fit;exact fit.1
  obtain rfl:i=0:=by omega
  refine ac (Pf hoS hdS fit hw h1 hl ?_)
  rw [show (mM ((if (0:Nat)=0 then 0 else t.place.getD 0 0+1:Nat):Int))=0 from rfl,(Ss hsz h1).1,bw hi,bw (by omega)]
  refine fin _ _ ?_ (.inr (.inr ⟨hw,h1,hl,?_,ex⟩))
  ·rw [ex,aA,bJ,bw hi];rfl
  ·simp [dZ,dF,bw (show 0<t.place.size by omega)]
theorem bf6 {Q:Option Value->ai->Prop} (hh:A.handled=none) (fit:t.fits es.size=true) (hxs:xs.length=es.size) (st:Vg w I S T es ep t xs es.size s.heap)
  (hQ:∀ h',(∀ b o,b≠I->s.heap.get? b=some o->h'.get? b=some o)->Q none { s with heap:=h' }) :
  aG (model prog w) A (i7 (.ref I)) Q E s:=by
 obtain⟨f,⟨o,ho,hc,hd⟩,⟨oS,hoS,hdS⟩,hf⟩:=st
 have ty:s.TypeIs (.ref I) "set_iterator" := ⟨o,ho,hc⟩
 unfold i7
 refine ac (fq (cE (name:=cr "__next__") ty sy_s_next (cI sy_s_next ty Mj ?_ (Mi _))))
 unfold aT.«set_iterator.__next__»
 refine ac (ah ?_)
 refine ac (jh ho hd ?_)
 dsimp only
 refine ac (iU hoS hdS fit ?_)
 rw [if_neg (by simp)]
 refine ac (ah ?_)
 have fin:∀ h':Heap,(∀ b o,b≠I->s.heap.get? b=some o->h'.get? b=some o)->aG (model prog w) A.in1 (do mJ (<- newExc (cZ "StopIteration") [])) (fun fin s'=>∃ v,fin=Fin.done (Flow.ret v)/\aG (model prog w) A (pure (some v)) Q E s')
    (fun e s'=>aG (model prog w) A (do if <- gZ e (cZ "StopIteration") then pure none else throw e) Q E s') { s with heap:=h' }:=by
  intro h' k
  refine ac ?_;simp only [newExc,newTuple]
  refine ac (b0 ?_ (by size_fits));refine ac (m:=jc _ _) (lJ (a:=bh) (by first|rfl|(simp only [jc];rfl)) ?_);refine b0 ?_ (by size_fits)
  simp only [mJ];refine ac (md ?_);rw [show A.in1.handled=none from hh]
  refine ac (ah (lK ?_));refine ac (im (T := "StopIteration") (b:=true) ⟨_,aq _ rfl,rfl⟩ isSubtype_stop ?_)
  exact ah (hQ _ fun b o hb e=>af _ (af _ (k b o hb e)))
 have k1:∀ {j:Nat} {g:Value} (b:Addr) (o:Obj),b≠I->s.heap.get? b=some o->(s.heap.update I (bc (·.setIfInBounds j g))).get? b=some o:=fun b o hb e=>(aN _ _ (bO hb)).trans e
 rcases hf with ⟨hw,rfl,ex⟩|⟨ps,rfl,⟨oT,c,hoT,hdT⟩,hps,hx⟩|⟨hw,h1,hl,rfl,ex⟩
 ·dsimp only
  have e1:(gd (w.params.setOrder S ep) es).size=es.size:=by rw [ex,ag,aZ] at hxs;exact hxs
  refine ac (Pe hoS hdS fit hw ?_)
  rw [bW,gP (by omega)]
  refine ac (cG ho hd (by simp) ?_)
  exact fin _ k1
 ·dsimp only
  refine ac (af6 hoT hdT ?_)
  dsimp only
  rw [bW,hV,fP (by rw [ag];omega)]
  refine ac (cG ho hd (by simp) ?_)
  have a:=aW (bc (·.setIfInBounds 0 (dZ 0))) ho (bR (b7 hd _))
  refine ac (cG (s:={ s with heap:=_ }) a (b7 hd _) (by simp) ?_)
  exact fin _ fun b o hb e=>(aN _ _ (bO hb)).trans (k1 b o hb e)
 ·dsimp only
  have hsz:t.place.size=es.size:=by simp only [SetTable.fits,aw,beq_iff_eq,decide_eq_true_eq] at fit;exact fit.1
  refine ac (Pf hoS hdS fit hw h1 hl ?_)
  have e2:dB t.place (mM ((if es.size=0 then 0 else t.place.getD 0 0+1:Nat):Int))=es.size:=by
   rw [bW]
   by_cases e0:es.size=0
   ·rw [if_pos e0,(Ss hsz h1).1,e0]
   ·rw [if_neg e0,(Ss hsz h1).2]
  rw [e2,gP (ae _)]
  refine ac (cG ho hd (by simp) ?_)
  exact fin _ k1
theorem af7 (hh:A.handled=none) (fit:t.fits es.size=true) (hxs:xs.length=es.size) (hST:S≠I/\T≠I):ng prog w A I [I,S,T] [I] es.size (fun i v=>xs[i]? = some v) (Vg w I S T es ep t xs) where
 sub:=fun b hb=>by simp at hb;simp [hb]
 frame:=fun i h h' ⟨f,⟨o,ho,r⟩,⟨oS,hoS,rS⟩,hf⟩ hk=>⟨f,⟨o,hk I (by simp) o ho,r⟩,⟨oS,hk S (by simp) oS hoS,rS⟩,hf.imp id (Or.imp (fun⟨ps,e,⟨oT,c,hT,rT⟩,r⟩=>⟨ps,e,⟨oT,c,hk T (by simp) oT hT,rT⟩,r⟩) id)⟩
 item:=fun i s Q E hi st hQ=>aq2 fit hxs hST hi st fun v h' e st' k=>hQ v h' s.toks e st' fun b o hb g=>k b o (fun z=>hb (by simp [z])) g
 done:=fun s Q E st hQ=>bf6 hh fit hxs st fun h' k=>hQ h' s.toks fun b o hb g=>k b o (fun z=>hb (by simp [z])) g
 self:=fun i s Q E ⟨f,⟨o,ho,hc,hd⟩,_⟩ hQ=>by
  have ty:s.TypeIs (.ref I) "set_iterator" := ⟨o,ho,hc⟩
  refine wpAny_pyIter_slot ty Ml (cI Ml ty W7 ?_ (W5 _))
  show aG _ _ (ret (.ref I)) _ _ s
  exact ah ⟨_,rfl, "set_iterator", _,ty,sy_s_next.lookup,hQ⟩
theorem aq3 {κ:Type} [DecidableEq κ] {knd:KeyKind prog w κ} {Sf:κ->Bool} {n:Nat} {o:Obj} {Q:Value->ai->Prop} (q:SetQ knd s.heap S Sf n (!w.params.followText "set-order") o es ep t) (few:es.size<=sizeLine)
  (h:∀ I T xs h' d,xs.Perm (es.toList.map (·.2))->s.heap.objs.size<=I->(T=S\/s.heap.objs.size<=T)->S≠I/\T≠I->(∀ b o,s.heap.get? b=some o->h'.get? b=some o)->Vg w I S T es ep t xs 0 h'->Q (.ref I) { s with heap:=h',drawn:=d }) :
  aG (model prog w) A (mT (.ref S)) Q E s:=by
 have ty:s.TypeIs (.ref S) "set" := ⟨o,q.at_,q.ex.1⟩
 have lt:S<s.heap.objs.size:=au q.at_
 refine wpAny_pyIter_slot ty F.slot_set_iter (cI F.slot_set_iter ty W6 ?_ (F.args_set_iter_1 _))
 unfold aT.«frozenset.__iter__»
 refine ac (ah ?_)
 refine ac ?_
 unfold Builtin.Frozenset.sizeOf
 refine ac (iU q.at_ q.dt q.fit (ah ?_))
 refine ac ?_
 unfold setDrawn
 refine ac (eP q.at_ q.dt q.fit ?_)
 dsimp only
 unfold mn
 refine ac (ac (fv (ah ?_)))
 refine ah ?_
 refine c8 (fun c=>?_) (fun c=>?_)
 ·have c2:(!w.params.followText "set-order" && (!t.plain&&decide (es.size > 1)))=true:=c
  simp only [aw] at c2
  refine ac (Va es.size (cL es.size) s fV fun ps d hp=>?_)
  have hl:ps.length=es.size:=by rw [hp.length_eq,fV]
  refine ac (g9 ?_ (by rw [ag,hl];exact few))
  have e:∀ c,(s.heap.push c).objs.size=s.heap.objs.size+1:=fun c=>cx ..
  refine ac (wpAny_setEpoch_of (s:={ s with heap:=_,drawn:=d }) (af _ q.at_) q.dt q.fit ?_)
  refine ac (b0 (ah ⟨_,rfl, "set_iterator", _,⟨_,aq _ rfl,rfl⟩,sy_s_next.lookup,?_⟩))
  refine h _ s.heap.objs.size (ps.map fun p=>(es.getD p (0,bh)).2) _ d ?_ (by rw [e];exact ce _) (.inr (ae _)) ⟨by rw [e];exact aE (cM lt),by rw [e];exact aE (cT _)⟩ (fun b o g=>af _ (af _ g)) ⟨_,⟨_,aq _ rfl,rfl,rfl⟩,⟨o,af _ (af _ q.at_),q.dt⟩,.inr (.inl ⟨ps,rfl,⟨_,0,af _ (aq _ rfl),rfl⟩,hl,fun i p hi=>?_⟩)⟩
  ·refine (hp.map _).trans (List.Perm.of_eq ?_)
   refine List.ext_getElem (by simp) fun i h1 h2=>?_
   have hi:i<es.size:=by simpa using h1
   simp [dF,bw hi]
  ·have hm:p∈cL es.size:=hp.mem_iff.mp (aY hi)
   have hlt:p<es.size:=List.mem_range.mp hm
   refine⟨es[p],bw hlt,?_⟩
   rw [aA,hi]
   simp [dF,bw hlt]
 ·have c2:¬ (!w.params.followText "set-order" && (!t.plain&&decide (es.size > 1)))=true:=c
  refine ac (ah ?_)
  refine ac (wpAny_setEpoch_of q.at_ q.dt q.fit ?_)
  refine ac (b0 (ah ⟨_,rfl, "set_iterator", _,⟨_,aq _ rfl,rfl⟩,sy_s_next.lookup,?_⟩))
  by_cases hw:w.params.followText "set-order" = true
  ·refine h _ S ((gd (w.params.setOrder S ep) es).toList.map (·.2)) _ s.drawn ((af5 _ _).map _) (ae _) (.inl rfl) ⟨aE lt,aE lt⟩ (fun b o g=>af _ g) ⟨_,⟨_,aq _ rfl,rfl,rfl⟩,⟨o,af _ q.at_,q.dt⟩,.inl ⟨hw,rfl,rfl⟩⟩
  ·have hw:w.params.followText "set-order" = false:=by simpa using hw
   have h1:es.size<=1:=by
    rw [hw] at c2
    refine Nat.le_of_not_lt fun z=>c2 ?_
    have:t.plain=false:=by
     cases hp:t.plain with
     | false=>rfl
     | true=>have:=q.pl hp;omega
    simp [this,z]
   refine h _ S (es.toList.map (·.2)) _ s.drawn (.refl _) (ae _) (.inl rfl) ⟨aE lt,aE lt⟩ (fun b o g=>af _ g) ⟨_,⟨_,aq _ rfl,rfl,rfl⟩,⟨o,af _ q.at_,q.dt⟩,.inr (.inr ⟨hw,h1,?_,rfl,rfl⟩)⟩
   rw [q.led,hw];rfl
theorem aq1 {Q:Bool->ai->Prop} (ty:s.TypeIs (.ref S) "set") (h:Q false s):aG (model prog w) A (dG (.ref S)) Q E s:=by
 unfold dG
 refine ac (kK ty F.slot_set_len.lookup ?_)
 generalize hid:("set.__len__" : String)=id0
 wp_delta
 rw [show splitId id0=some ("set", "__len__") from by subst hid;decide +kernel]
 subst hid
 refine ac (im (T := "set") (b:=true) ty (by rw [jd];kernel_rfl) ?_)
 refine c8 (fun c=>absurd c (by decide)) (fun _=>?_)
 refine c8 (fun _=>?_) (fun c=>absurd (by decide +kernel) c)
 exact ac (ic ty (ah h))
open PySem.W in
theorem Sq {κ:Type} [DecidableEq κ] {knd:KeyKind prog w κ} {Sf:κ->Bool} {n:Nat} {o:Obj} {Q:List Value->ai->Prop} (hh:A.handled=none) (q:SetQ knd s.heap S Sf n (!w.params.followText "set-order") o es ep t) (few:es.size<=sizeLine)
  (h:∀ us h' tk d,us.Perm (es.toList.map (·.2))->(∀ b o,s.heap.get? b=some o->h'.get? b=some o)->s.heap.objs.size<=h'.objs.size->s.toks<=tk->Q us { s with heap:=h',toks:=tk,drawn:=d }):aG (model prog w) A (lx (.ref S)) Q E s:=by
 have lt:S<s.heap.objs.size:=au q.at_
 unfold lx
 refine ac (jj (c7 kT ?_))
 show aG _ _ (do again (.builtin "list.__iadd__" ⟨[<- newList [],.ref S],[]⟩)) _ _ s
 refine ac (fY (ah ⟨c9 _ (by decide +kernel),c7 entry_list_iadd' ?_⟩))
 show aG _ _ (cj (.ref s.heap.objs.size) (.ref S) (.ref s.heap.objs.size)) _ _ { s with heap:=s.heap.push (bj "list" #[] 0) }
 rw [d6 jG _]
 have e0:(s.heap.push (bj "list" #[] 0)).objs.size=s.heap.objs.size+1:=cx ..
 have hL:(s.heap.push (bj "list" #[] 0)).get? s.heap.objs.size=some (bj "list" #[] 0):=aq _ rfl
 have q1:SetQ knd (s.heap.push (bj "list" #[] 0)) S Sf n (!w.params.followText "set-order") o es ep t:={ q with at_:=af _ q.at_ }
 unfold cj
 refine ac (ic (T := "set") ⟨o,q1.at_,q.ex.1⟩ ?_)
 have h1:d_ (.ref s.heap.objs.size) (.ref S)=false:=by simp [d_];exact dz lt
 simp only [h1,show (cZ "set" == cZ "list")=false from by decide,show (cZ "set" == cZ "tuple")=false from by decide,lL,cf,if_false]
 refine ac (aq3 (s:={ s with heap:=s.heap.push (bj "list" #[] 0) }) q1 few fun I T xs h' d hp hI hT hST k st=>?_)
 have hxs:xs.length=es.size:=by rw [hp.length_eq,ag,aZ]
 have hI2:s.heap.objs.size+1<=I:=e0▸hI
 have out:s.heap.objs.size∉[I,S,T]:=by
  simp only [aF,bN,or_false,not_or]
  refine⟨aE hI2,dz lt,?_⟩
  rcases hT with rfl|hT
  ·exact dz lt
  ·have hT2:s.heap.objs.size+1<=T:=e0▸hT
   exact aE hT2
 have fit:=q.fit
 have W:=af7 (prog:=prog) (w:=w) (A:=A.in1) (I:=I) (S:=S) (T:=T) (ep:=ep) (t:=t) (hh) fit hxs hST
 have hS1:h'.get? s.heap.objs.size=some (bj "list" #[] 0):=k _ _ hL
 have key:∀ (h2:Heap) (c tk:Nat),s.toks<=tk->Vg w I S T es ep t xs 0 h2->(∀ b o,b≠s.heap.objs.size->s.heap.get? b=some o->h2.get? b=some o)->h2.get? s.heap.objs.size=some (bj "list" #[] c) ->
   eK (model prog w) A (.builtin "list.extend.loop" ⟨[.ref s.heap.objs.size,.ref I,.ref s.heap.objs.size],[]⟩) (wants (fun v s'=>aG (model prog w) A (do
    let .ref a:=v|unsupported "internal:collect"
    match (<- load a).data with
    | .seq xs _=>pure xs.toList
    | _=>unsupported "internal:collect") Q E s') E) { s with heap:=h2,toks:=tk,drawn:=d }:=by
  intro h2 c tk htk st2 k2 hS2
  refine kR W.toS (by exact few) _ out _ es.size 0 _ #[] c rfl (bo _) st2 hS2 (ItemsOf.nil _) fun s' acc' c' hm hS' hacc=>?_
  refine (show aG (model prog w) A (do
    let o <- load s.heap.objs.size
    match o.data with
    | .seq xs _=>pure xs.toList
    | _=>unsupported "internal:collect") Q E s' from ?_)
  refine ac (mo hS' (ah ?_))
  rw [Moved.eq_with hm]
  refine h acc'.toList s'.heap s'.toks d ?_ (fun b o e=>hm.heap b o (fun hmem=>?_) (k2 b o (aE (au e)) e)) ?_ (aS htk hm.toks)
  ·have e:acc'.toList=xs:=List.ext_getElem (by rw [aZ,hacc.1,hxs]) fun i h1 h2=>by
    have g:xs[i]? = some acc'.toList[i]:=hacc.2 i _ (show acc'[i]? = some acc'.toList[i] from by rw [<- bJ];exact aj h1)
    rw [aj h2] at g
    exact (aU g).symm
   rw [e];exact hp
  ·have hb:=au e
   rcases List.mem_cons.mp hmem with z|z
   ·exact absurd z (aE hb)
   ·rw [List.mem_singleton.mp z] at hb
    exact eY _ (i5 hb (aO (cT _) hI2))
  ·exact fQ (au hS')
 refine ac (bp (aq1 (s:={ s with heap:=h',drawn:=d }) ⟨o,k _ _ q1.at_,q.ex.1⟩ ?_))
 refine c8 (fun _=>?_) (fun _=>ah ⟨gN dY _,key _ 0 _ (ae _) st (fun b o _ e=>k b o (af _ e)) hS1⟩)
 refine ac (gG ?_);refine ac ?_
 show aG _ _ (ma s.heap.objs.size (·.push .none) >>= fun _=>ma s.heap.objs.size (·.pop)) _ _ { s with heap:=h',drawn:=d }
 refine ac (gO (s:={ s with heap:=h',drawn:=d }) hS1 rfl ?_)
 have hS2:=aW (a0 (·.push bh)) hS1 rfl
 refine gO (s:={ s with heap:=_,drawn:=d }) (hz:=by seq_fits) hS2 rfl ?_
 have hS3:=aW (a0 (·.pop)) hS2 rfl
 have oth:∀ b o,b≠s.heap.objs.size->h'.get? b=some o->((h'.update s.heap.objs.size (a0 (·.push bh))).update s.heap.objs.size (a0 (·.pop))).get? b=some o:=fun b o hb e=>(aN _ _ (bO hb)).trans ((aN _ _ (bO hb)).trans e)
 exact ah ⟨gN dY _,key _ _ _ (ae _) (W.frame 0 _ _ st fun b hb o e=>oth b o (fun z=>out (z▸hb)) e) (fun b o hb e=>oth b o hb (k b o (af _ e))) hS3⟩
end
end PySem
namespace L2
open PySem PySem.Spec PyProof.Rows
theorem M9 (xs:List Str):(Dr xs).Nodup:=by
 suffices h:∀ (xs σ:List Str),σ.Nodup->(xs.foldl (fun σ k=>if σ.any (fun j=>decide (j=k)) then σ else σ++[k]) σ).Nodup from h xs [] f_
 intro xs
 induction xs with
 | nil=>exact fun σ h=>h
 | cons x xs ih=>
  intro σ h
  refine ih _ ?_
  dsimp only
  split
  ·exact h
  ·rename_i c
   refine List.nodup_append.mpr ⟨h,by simp,fun a ha b hb=>?_⟩
   rw [List.mem_singleton.mp hb]
   intro e
   exact c (List.any_eq_true.mpr ⟨a,ha,decide_eq_true e⟩)
theorem Nd:∀ {l m:List Str},l.Nodup->(∀ x∈l,x∈m)->m.length=l.length->m.Perm l
 | [],m,_,_,h=>by rw [ft h]
 | x::l,m,nd,sub,h=>by
  have hx:=sub x bx
  have nd2:=List.nodup_cons.mp nd
  refine (List.perm_cons_erase hx).trans ((Nd nd2.2 (fun y hy=>(kN (show y≠x from fun e=>nd2.1 (e▸hy))).mpr (sub y (aJ _ hy))) ?_).cons x)
  rw [jn hx,h];rfl
noncomputable def af1:Value->Str
 | .str k _=>k
 | _=>cQ
section
variable {X:Cx}
noncomputable def G4 (K:aa):V->Hp->VK->Prop:=fun x H Q=>match x with
 | .ref l=>∃ ys:List Str,SqL K H l (ys.map V.str)/\ys.length<30 /\ ∀ D,H D=none->Q (.ref D) (upd H D (.lst ((Ak ltS (Dr ys)).map V.str)))
 | _=>False
theorem ae7 {pins:List (Addr×Obj)} {σ:St} {H:Hp} {s:ai} {x:V} {u:Value} {Q:VK} (hc:X.calm=true) (I:Inv X pins σ H s) (rx:RelV x u) (h:G4 X.K x H Q) :
  aG (model X.prog X.w) X.A (call (.type "set") [u]) (fun v s1=>aG (model X.prog X.w) X.A (call (.builtin "sorted") [v]) (EP X pins σ Q) X.xe s1) X.xe s:=by
 cases x with
 | ref l=>
  cases rx
  obtain⟨ys,hq,few,q⟩:=h
  obtain⟨its,rv,pl,hz⟩:=I.list hq
  have hl:its.length=ys.length:=by rw [<- rv.length,ag]
  have hm:=Oq ys
  refine bE (ae _) (So (knd:=PySem.strKind X.prog X.w) (ks:=ys) (I.ok.hd hc) pl.isList (fun i v e=>?_) (by simpa using hl) (by unfold scanBound;omega) fun h' tk fl kept htk=>?_)
  ·obtain⟨k,t,ek,rfl⟩:=U9 rv (by simpa using e)
   exact⟨k,ek,by show iE k (.str k t)=true;simp [iE],rfl,rfl⟩
  ·have I1:Inv X pins σ H { s with heap:=h',toks:=tk }:=I.kept (t':=tk) fun b o e=>kept b o (au e) e
   obtain⟨o,es,ep,t,sq⟩:=fl
   refine Pb I1 (M9 ys) (by omega) (fun R hR=>?_) q
   refine Sq (s:={ s with heap:=h',toks:=tk }) (by simp [I.ok.hd hc]) sq (by rw [sq.sz,bv];omega) fun us h2 tk2 d perm k2 z2 ht2=>?_
   have texts:∀ v∈es.toList.map (·.2),∃ t,v=.str (af1 v) t:=fun v hv=>by
    obtain⟨e,he,rfl⟩:=List.mem_map.mp hv
    obtain⟨⟨k,hk,_⟩,_⟩:=sq.el e he
    obtain⟨t,e2⟩:=gA (x:=k) hk
    exact⟨t,by rw [e2];rfl⟩
   refine hR us (us.map af1) h2 tk2 d ((perm.map af1).trans (Nd (M9 ys) (fun x hx=>?_) (by rw [ag,ag,aZ];exact sq.sz))) k2 z2 ht2 (Nv (by rw [ag,ag]) fun i a b ha hb=>?_)
   ·obtain⟨e,he,hk⟩:=(sq.mem x).mp (List.any_eq_true.mpr ⟨x,hx,decide_eq_true rfl⟩)
    obtain⟨t,e2⟩:=gA (x:=x) hk
    exact List.mem_map.mpr ⟨e.2,List.mem_map.mpr ⟨e,he,rfl⟩,by rw [e2];rfl⟩
   ·rw [cS,aA,hb] at ha
    cases ha
    obtain⟨t,e⟩:=texts b (perm.mem_iff.mp (aY hb))
    exact⟨t,e⟩
 | _=>exact (show False from h).elim
end
end L2
namespace PySem.W
open PySem PySem.Calls PyProof.Rows
section
variable {prog:aK} {w:bt} {A:bg} {E:Value->ai->Prop} {s:ai} {vs:List Value}
noncomputable def SkFin (a b:Addr) (e e1:Nat) (ks out:List Value) (C:ai->Prop) (s:ai):Prop:=
 s.heap.get? a=some (bj "list" #[] e1)/\s.heap.get? b=some (bj "list" ks.toArray e) /\ ∀ h' c,h'.get? a=some (bj "list" (eR out) c)->(∀ d,d≠a->d≠b->h'.get? d=s.heap.get? d)->C { s with heap:=h' }
theorem U1 {a kS:Addr} {ks:List Value} {st:SortSt} {e e1:Nat} {out:List Value} {P:mO->ai->Prop} (hne:a≠kS) (har:jk (fun x:Keyed=>x.snd) (arrOf st)=out.toArray) (h64:out.length<64) (k64:ks.length<64) (hf:failedOf st=none)
  (h:SkFin a kS e e1 ks out (fun s'=>P (.done (.ret .none)) s') s):aG (model prog w) A (ksk_tail a false e1 (.ref kS) st) P E s:=by
 obtain⟨ha,hk,q⟩:=h
 unfold ksk_tail
 rw [har,hf]
 have s1:=bB s.heap kS (a0 fun _=>(#[]:Array Value))
 have ha1:(s.heap.update kS (a0 fun _=>(#[]:Array Value))).get? a=some (bj "list" #[] e1):=(s1.2 a hne).trans ha
 refine ac (fm hk rfl ?_ (by rw [am,bv];omega) (bo _))
 refine ac (m_ ?_)
 refine ac (iQ (s:={ s with heap:=s.heap.update kS (a0 fun _=>(#[]:Array Value)) }) ha1 rfl ?_)
 refine ac (fm (s:={ s with heap:=s.heap.update kS (a0 fun _=>(#[]:Array Value)) }) ha1 rfl ?_ (bo _) (by simp only [cf,if_false];rw [am,bv];omega))
 simp only [bne_self_eq_false,cf,if_false]
 have s2:=bB (s.heap.update kS (a0 fun _=>(#[]:Array Value))) a (a0 fun _=>out.toArray)
 obtain⟨c2,hc2⟩:∃ c2,((s.heap.update kS (a0 fun _=>(#[]:Array Value))).update a (a0 fun _=>out.toArray)).get? a=some (bj "list" out.toArray c2):=⟨_,eM ha1 fun _=>_⟩
 exact ah (q _ c2 hc2 fun d d1 d2=>(s2.2 d d1).trans (s1.2 d d2))
theorem ap2 {n:Nat} {a:Addr} {f:Value} {P:mO->ai->Prop} (ho:s.heap.get? a=some (bj "list" vs.toArray n)) (h64:vs.length<64)
  (h:∀ e1 kS h',s.heap.objs.size<=kS->h'.get? a=some (bj "list" #[] e1)->h'.get? kS=some (bj "list" #[] 0)->(∀ b o,b≠a->s.heap.get? b=some o->h'.get? b=some o) ->
   ∃ G:List Value->ai->Prop,(∀ e,h'.get? kS=some (bj "list" #[] e)->G [] { s with heap:=h' }) /\
    (∀ (j:Nat) x ks e s',vs[j]? = some x->ks.length=j->s'.heap.get? kS=some (bj "list" ks.toArray e)->G ks s'->aG (model prog w) A (call f [x]) (fun k s''=>s''.heap.get? kS=some (bj "list" ks.toArray e) /\ ∀ h2 c,h2.get? kS=some (bj "list" (ks++[k]).toArray c)->a9 kS s''.heap h2->G (ks++[k]) { s'' with heap:=h2 }) (fun _ _=>False) s') /\
    (∀ ks e s',ks.length=vs.length->s'.heap.get? kS=some (bj "list" ks.toArray e)->G ks s'->(vs.length<2->SkFin a kS e e1 ks vs (fun s3=>P (.done (.ret .none)) s3) s')/\(2<=vs.length ->
     aG (model prog w) A (mI ks.toArray) (fun κ s''=>(kas_sort vs.length).kasWp (kas_ask prog w A κ ks) (fun p s3=>SkFin a kS e e1 ks (p.toList.map fun i=>vs.getD i bh) (fun s4=>P (.done (.ret .none)) s4) s3) s'') (fun _ _=>False) s'))) :
  aG (model prog w) A (ksk_tree a f false) P E s:=by
 have ha:a<s.heap.objs.size:=au ho
 have s1:=bB s.heap a (a0 fun _=>(#[]:Array Value))
 obtain⟨e1,ho1⟩:∃ e1,(s.heap.update a (a0 fun _=>(#[]:Array Value))).get? a=some (bj "list" #[] e1):=⟨_,eM ho fun _=>#[]⟩
 have hsz:((s.heap.update a (a0 fun _=>(#[]:Array Value))).push (bj "tuple" vs.toArray 0)).objs.size=s.heap.objs.size+1:=by rw [jw,ie]
 unfold ksk_tree
 refine ac (kG ho rfl ?_)
 refine ac (fm ho rfl ?_ (by rw [am,bv];omega) (bo _))
 refine ac (iQ ho1 rfl ?_)
 refine ac (g9 ?_ (by show vs.length<=_;rw [bv];omega))
 refine ac (fY ?_ (bo _))
 refine bp ?_
 show aG (model prog w) A (ksk_rest a f false vs.toArray e1 (.ref ((s.heap.update a (a0 fun _=>(#[]:Array Value))).push (bj "tuple" vs.toArray 0)).objs.size)) P E { s with heap:=((s.heap.update a (a0 fun _=>(#[]:Array Value))).push (bj "tuple" vs.toArray 0)).push (bj "list" #[] 0) }
 have hk0:(((s.heap.update a (a0 fun _=>(#[]:Array Value))).push (bj "tuple" vs.toArray 0)).push (bj "list" #[] 0)).get? (((s.heap.update a (a0 fun _=>(#[]:Array Value))).push (bj "tuple" vs.toArray 0)).objs.size)=some (bj "list" #[] 0):=aq _ rfl
 have ha0:(((s.heap.update a (a0 fun _=>(#[]:Array Value))).push (bj "tuple" vs.toArray 0)).push (bj "list" #[] 0)).get? a=some (bj "list" #[] e1):=af _ (af _ ho1)
 obtain⟨G,g0,gs,gf⟩:=h e1 _ _ (by rw [hsz];exact ce _) ha0 hk0 (fun b o nb e=>af _ (af _ ((s1.2 b nb).trans e)))
 have hne:a≠((s.heap.update a (a0 fun _=>(#[]:Array Value))).push (bj "tuple" vs.toArray 0)).objs.size:=by rw [hsz];exact aE (cM ha)
 have gz:=g0 0 hk0
 generalize ((s.heap.update a (a0 fun _=>(#[]:Array Value))).push (bj "tuple" vs.toArray 0)).objs.size=kS at *
 generalize ((s.heap.update a (a0 fun _=>(#[]:Array Value))).push (bj "tuple" vs.toArray 0)).push (bj "list" #[] 0)=h' at *
 unfold ksk_rest
 refine ac (gG ?_)
 rw [<- Array.forIn_toList]
 refine ac (ksk_fold (fun j s'=>∃ ks e,ks.length=j/\s'.heap.get? kS=some (bj "list" ks.toArray e)/\G ks s') vs 0 _ ⟨[],0,rfl,hk0,gz⟩ (fun j x s' hx ⟨ks,e,hl,hk,hg⟩=>?_) fun s' ⟨ks,e,hl,hk,hg⟩=>?_)
 ·rw [hX] at hl
  have hj:j<vs.length:=(List.getElem?_eq_some_iff.mp hx).1
  refine ac (fq (bL (gs j x ks e s' hx hl hk hg) (fun k s'' hq=>?_) fun _ _ z=>z.elim))
  obtain⟨hk2,hq⟩:=hq
  dsimp only
  refine ac (fm hk2 rfl ?_ (by rw [am,bv];omega) (by rw [Array.size_push,am,bv];omega))
  have e3:(ks.toArray.push k)=(ks++[k]).toArray:=by simp
  obtain⟨c,hc⟩:∃ c,(s''.heap.update kS (a0 fun x=>x.push k)).get? kS=some (bj "list" (ks++[k]).toArray c):=⟨_,by rw [<- e3];exact eM hk2 fun x=>x.push k⟩
  exact ah ⟨rfl,ks++[k],c,by rw [aI,hl,hX];rfl,hc,hq _ c hc (bB _ _ _)⟩
 ·rw [hX] at hl
  obtain⟨q1,q2⟩:=gf ks e s' hl hk hg
  refine ac (kG hk rfl ?_)
  unfold ksk_end
  simp only [cf,if_false]
  by_cases h2:vs.toArray.size<2
  ·rw [if_pos h2,if_pos h2]
   refine ac (ah ?_)
   rw [StateT.run_pure]
   refine ac (ah ?_)
   dsimp only
   refine U1 hne ?_ h64 (by omega) rfl (q1 (by simpa using h2))
   show jk (fun x:Keyed=>x.snd) (ks.toArray.zip vs.toArray)=vs.toArray
   apply Array.ext'
   simp only [Array.toList_map,Array.toList_zip]
   exact List.map_snd_zip (by omega)
  ·have h2':2<=vs.length:=by rw [am] at h2;omega
   rw [if_neg h2,if_neg h2]
   refine ac (bL (q2 h2') (fun κ s0 hk0=>?_) fun _ _ x=>x.elim)
   refine ac (bL (kat_run (Q:=fun st' s'=>∃ p:Array Nat,p.size=vs.length/\arrOf st'=p.map (kas_item (ks.toArray.zip vs.toArray))/\failedOf st'=none/\SkFin a kS e e1 ks (p.toList.map fun i=>vs.getD i bh) (fun s''=>P (.done (.ret .none)) s'') s')
    hl h2' h64 (fun p' st' s' a1 a2 a3 a4=>⟨p',a1,a2,a3,a4⟩) hk0) ?_ fun _ _ e=>e)
   rintro⟨⟨⟩,st'⟩ s' ⟨p,hp,har,hf,hq⟩
   exact U1 hne (kat_snds hl har) (by rw [ag,aZ,hp];exact h64) (by omega) hf hq
theorem sk_sorted {x:Value} {b:Addr} {OKQ:List Value->Heap->Nat->Prop} {Q:Value->ai->Prop} (hc:∀ R:List Value->ai->Prop,(∀ us h' tk,OKQ us h' tk->R us { s with heap:=h',toks:=tk })->aG (model prog w) A.in1 (lx x) R (fun _ _=>False) s)
  (h:∀ us h' tk,OKQ us h' tk->us.length<64 /\ ∀ D e1 kS h2,h'.objs.size<=D->D<kS->h2.get? D=some (bj "list" #[] e1)->h2.get? kS=some (bj "list" #[] 0)->(∀ b o,h'.get? b=some o->h2.get? b=some o) ->
   ∃ G:List Value->ai->Prop,G [] { s with heap:=h2,toks:=tk } /\
    (∀ (j:Nat) x ks e s',us[j]? = some x->ks.length=j->s'.heap.get? kS=some (bj "list" ks.toArray e)->G ks s'->aG (model prog w) A.in1.in1 (call (.ref b) [x]) (fun k s''=>s''.heap.get? kS=some (bj "list" ks.toArray e) /\ ∀ h2 c,h2.get? kS=some (bj "list" (ks++[k]).toArray c)->a9 kS s''.heap h2->G (ks++[k]) { s'' with heap:=h2 }) (fun _ _=>False) s') /\
    (∀ ks e s',ks.length=us.length->s'.heap.get? kS=some (bj "list" ks.toArray e)->G ks s'->(us.length<2->SkFin D kS e e1 ks us (fun s3=>Q (.ref D) s3) s')/\(2<=us.length ->
     aG (model prog w) A.in1.in1 (mI ks.toArray) (fun κ s''=>(kas_sort us.length).kasWp (kas_ask prog w A.in1.in1 κ ks) (fun p s3=>SkFin D kS e e1 ks (p.toList.map fun i=>us.getD i bh) (fun s4=>Q (.ref D) s4) s3) s'') (fun _ _=>False) s'))) :
  aG (model prog w) A (call (.builtin "sorted") [x] [("key", .ref b)]) Q E s:=by
 refine call_function_entry_kw kind_sorted plain_sorted entry_sorted (ksk_s1 _ _) ?_
 unfold aT.«sorted»
 refine ac (m:=checkCount "sorted" 1 1 _) (ah ?_)
 refine ac (bL (hc _ fun us h' tk ok=>?_) (fun _ _ z=>z) fun _ _ z=>z.elim)
 obtain⟨h64,hb⟩:=h us h' tk ok
 refine ac (fY ?_ (by rw [bv];omega))
 have hoL:(h'.push (bj "list" us.toArray 0)).get? h'.objs.size=some (bj "list" us.toArray 0):=aq _ rfl
 show aG _ _ _ _ _ { s with heap:=h'.push (bj "list" us.toArray 0),toks:=tk }
 refine ac (bp (wpAny_call_entry_kw slot_list_sort ⟨_,hoL,rfl⟩ entry_list_sort ?body (ksk_l1 _ _)))
 case body=>
  rw [ksk_t1]
  refine ap2 (s:={ s with heap:=h'.push (bj "list" us.toArray 0),toks:=tk }) hoL h64 fun e1 kS h2 hk g gk k=>?_
  have hk2:h'.objs.size<kS:=by
   have hk:(h'.push (bj "list" us.toArray 0)).objs.size<=kS:=hk
   rw [jw] at hk;omega
  obtain⟨G,g0,gs,gf⟩:=hb h'.objs.size e1 kS h2 (ae _) hk2 g gk fun b o q=>k b o (aE (au q)) (af _ q)
  refine⟨G,fun _ _=>g0,gs,fun ks e s' hl hk hg=>?_⟩
  obtain⟨q1,q2⟩:=gf ks e s' hl hk hg
  refine⟨fun h2=>?_,fun h2=>bL (q2 h2) (fun κ s'' hk=>?_) fun _ _ x=>x⟩
  ·obtain⟨r1,r2,r3⟩:=q1 h2
   exact⟨r1,r2,fun h' c x y=>⟨_,rfl,ah ⟨_,rfl,r3 h' c x y⟩⟩⟩
  ·rw [kat_ask_eq hl] at hk ⊢
   exact kas_wp_mono hk fun p s3 ⟨r1,r2,r3⟩=>⟨r1,r2,fun h' c x y=>⟨_,rfl,ah ⟨_,rfl,r3 h' c x y⟩⟩⟩
end
end PySem.W
namespace L2
open PySem PySem.Spec PyProof.Rows
theorem ap6 {lt:Str->Str->Bool} {zs:List Str} (h:zs.length<2):Ak lt zs=zs:=by
 match zs,h with
 | [],_=>rfl
 | [z],_=>rfl
noncomputable def ltK (kf:Str->Int) (a b:Str):Bool:=if kf a=kf b then ltS a b else decide (kf a<kf b)
theorem Fj {kf:Str->Int} {zs:List Str} (nd:zs.Nodup):OrdL (ltK kf) zs where
 tot:=fun a ha b hb n=>by
  unfold ltK
  by_cases h:kf a=kf b
  ·rw [if_pos h,if_pos h.symm];exact (Fk nd).tot a ha b hb n
  ·rw [if_neg h,if_neg (bO h)]
   by_cases c:kf a<kf b
   ·rw [decide_eq_true c,decide_eq_false (by omega)];rfl
   ·rw [decide_eq_false c,decide_eq_true (by omega)];rfl
 tr:=fun a ha b hb c hc h1 h2=>by
  unfold ltK at *
  by_cases e1:kf a=kf b
  ·rw [if_pos e1] at h1
   by_cases e2:kf b=kf c
   ·rw [if_pos e2] at h2
    rw [if_pos (e1.trans e2)]
    exact (Fk nd).tr a ha b hb c hc h1 h2
   ·rw [if_neg e2] at h2
    rw [e1,if_neg e2]
    exact h2
  ·rw [if_neg e1] at h1
   have h1:=of_decide_eq_true h1
   by_cases e2:kf b=kf c
   ·rw [<- e2,if_neg e1]
    exact decide_eq_true h1
   ·rw [if_neg e2] at h2
    have h2:=of_decide_eq_true h2
    rw [if_neg (by omega)]
    exact decide_eq_true (by omega)
 nd:=nd
section
variable {X:Cx} {pins:List (Addr×Obj)} {σ:St} {H:Hp} {s:ai}
theorem Inv.adopt {a d:Addr} {o:HO} {h':Heap} (I:Inv X pins σ H s) (fa:Cs X pins H a) (fd:Cs X pins H d) (k:∀ b u,b≠a->b≠d->s.heap.get? b=some u->h'.get? b=some u) (new:ObjOk X.prog X.w (upd H a o) h' a o):Inv X pins σ (upd H a o) { s with heap:=h' }:=by
 have nit:∀ b u,H b=some u->b≠a/\b≠d:=fun b u e=>⟨A3 e fa.1,A3 e fd.1⟩
 have nc:∀ {b:Addr},b∉[a,d]->b≠a/\b≠d:=fun h=>by simpa using h
 refine I.step (g':=s.gens) (d':=s.drawn) (t':=s.toks) (ch:=[a,d]) (fun b hb=>?_) (fun b u _ _ hc e _=>k b u (nc hc).1 (nc hc).2 e) (fun b u _ _ hc e _=>⟨u.slots,k b u (nc hc).1 (nc hc).2 e⟩) (fun b u hc e n=>by rw [Ah (nc hc).1];exact n)
  (fun b u hc e=>⟨u,k b u (nc hc).1 (nc hc).2 e⟩) (fun b xs q=>by rw [Ah (nit b _ q).1];exact q) (fun b u v q=>by rw [Ah (nit b _ q).1];exact q) (fun b ps q=>⟨#[],by rw [Ah (nit b _ q).1,q];simp⟩) (fun m hm=>?_) (fun b u e=>?_) I.bare
 ·rcases List.mem_cons.mp hb with rfl|hb
  ·exact⟨fa.2.2.2.1,fa.2.1,fa.2.2.2.2.1,fa.2.2.2.2.2⟩
  ·have e:b=d:=by simpa using hb
   subst e
   exact⟨fd.2.2.2.1,fd.2.1,fd.2.2.2.2.1,fd.2.2.2.2.2⟩
 ·obtain⟨u,es,ep,ho,r⟩:=hm
  exact⟨u,es,ep,k _ u (bO fa.2.1) (bO fd.2.1) ho,r⟩
 ·by_cases hb:b=a
  ·subst hb;rw [Ad] at e;cases e;exact new
  ·rw [Ah hb] at e
   refine (I.hok b u e).stay (fun c v hc q=>?_) (fun c q=>by rw [Ah (nit c _ q).1];exact q) fun c xs q=>by rw [Ah (nit c _ q).1];exact q
   rcases hc with z|z
   ·rw [z] at q ⊢;exact k _ v (nit b u e).1 (nit b u e).2 q
   ·exact k c v (nit c _ z).1 (nit c _ z).2 q
theorem V0 {A:bg} {E:Value->ai->Prop} {m:Str} {g a C dx:Addr} {fs:List (Str×V)} {expr:Bool} {Q:Value->ai->Prop} (I:Inv X pins σ H s) (e:H a=some (.ins C dx fs)) (c:Cls X.K C) (k:Ct X.K C m g) (sg:dD X.K (.ref g) "__get__" = some (some (.builtin "function.__get__"))) (tk:fR X.K (.ref g)=some false) (cn:PySem.W.copiedNames.contains m=false) (l:fs.lookup m=none)
  (h:∀ s',s'.heap.get? s.heap.objs.size=some (cD (.ref g) (.ref a))->s.heap.objs.size<s'.heap.objs.size->Inv X pins σ H s'->Q (.ref s.heap.objs.size) s'):aG (model X.prog X.w) A (lE (.ref a) m expr) Q E s:=by
 obtain⟨mA,O,r,_,_,_⟩:=Gr I.hok e
 have hn:mA m=none:=RelO.none_of (by rw [<- l];exact r m)
 obtain⟨od,J,hl⟩:=O.look
 refine PySem.W.get_bind I.kIn J (fh (c.get m)).1 (PySem.W.findObj_fn c.hd k.at_ sg tk cn (by rw [hl,hn])) (fh (c.get m)).2 (dN (PySem.W.fn_get (s:={ s with toks:=s.toks+1 }) I.kIn (beq_iff_eq.mp k.fn) ?_))
 exact PySem.W.handed_on rfl (h _ (aq _ rfl) (by show _<(s.heap.push _).objs.size;rw [jw];exact cT _) (I.kept (t':=s.toks+1) fun b o e=>af _ e))
theorem ao8 {m:Str} {mi:MI} (K:ah4 X m mi) {bm a:Addr} {u:Value} {z:Str} {Q:VK} (I:Inv X pins σ H s) (hb:s.heap.get? bm=some (cD (.ref mi.i.f) (.ref a))) (ru:RelV (.str z) u) (h:mi.i.sp [.ref a,.str z] H Q (fun v _ _=>∃ a,v=aM a/\False)) :
  aG (model X.prog X.w) X.A.in1.in1 (call (.ref bm) [u]) (EP X pins σ Q) (fun _ _=>False) s:=by
 obtain⟨CX,hx,FO⟩:=K.fi.ok
 have r2:Vals [.ref a,.str z] [aM a,u]:=.cons rfl (.cons ru .nil)
 have hl:([aM a,u]++[]).length=mi.i.ps.length:=FO.len _ _ _ _ h
 have hd:=K.fi.binds mi.i.dfs.length (ae _)
 rw [gQ (by rw [K.fi.vals.length];exact ae _)] at hd
 have hb2:=hd s [aM a,u] I.kIn hl
 rw [cO] at hb2
 refine dN (ks_codeAny_call_bound hb (eU (FO.run X.A.in1.in1 X.stack s H ⟨[aM a,u],[]⟩ [aM a,u] _ Q _ K.room.in1.in1 I.env0.in1.in1 hb2 r2 h) fun r s' hq=>?_))
 cases r with
 | error e=>
  have o:=I.ok
  have I':Inv { X with xe:=fun _ _=>False } pins σ H s:=⟨⟨o.mod,o.kind,o.glob,o.blt,o.above,o.inj,o.has,o.cab,o.hd,o.frames,o.stk,o.exf,o.bs,o.bsz,o.noex,o.exfs,o.funs,o.frf,o.tk⟩,I.os,I.bare,I.base,I.loc,I.cell,I.free,I.freeC,I.pin,I.hok,I.len⟩
  exact hx { X with xe:=fun _ _=>False } rfl rfl (fun _ _ _=>False) (fun _ _ _ _ _ _ _ z=>z.elim) pins σ H s e s' I' hq
 | ok fl=>
  cases fl with
  | ret u=>exact I.after hq
  | next=>exact cA hq
  | brk=>exact cA hq
  | cont=>exact cA hq
noncomputable def Po (kf:Str->Int) (H:Hp) (zs:List Str) (ks:List Value):Prop:=∀ (i:Nat) k z,ks[i]? = some k->zs[i]? = some z -> ∃ q,k=.ref q/\H q=some (.tup [.int (kf z),.str z])
theorem Jy (I:Inv X pins σ H s) {kf:Str->Int}:∀ {zs:List Str} {ks:List Value},ks.length=zs.length->Po kf H zs ks -> ∃ fs,kz s.heap ks fs/\fs.length=zs.length /\ ∀ v∈fs,∃ i t,v=.int i t
 | [],[],_,_=>⟨[],PySem.W.KatTups.nil,rfl,fun v hv=>by cases hv⟩
 | [],_::_,h,_=>by simp at h
 | _::_,[],h,_=>by simp at h
 | z::zs,k::ks,h,ka=>by
  obtain⟨fs,kt,hl,hi⟩:=Jy I (zs:=zs) (ks:=ks) (by simpa using h) fun i k' z' h1 h2=>ka (i+1) k' z' h1 h2
  obtain⟨q,rfl,hq⟩:=ka 0 k z rfl rfl
  obtain⟨its,ri,⟨o,e,c,n,dd⟩,_⟩:=I.tuple (SqT.of hq)
  cases ri with
  | cons ra rr=>
   obtain⟨t,rfl⟩:=ra
   exact⟨_::fs,PySem.W.KatTups.cons e c dd rfl kt,by rw [aR,aR,hl],fun v hv=>(List.mem_cons.mp hv).elim (fun z=>⟨_,_,z⟩) (hi v)⟩
theorem Zo (I:Inv X pins σ H s) {A:bg} {kf:Str->Int} {q1 q2:Addr} {z1 z2:Str} {C:Bool->ai->Prop} {E:Value->ai->Prop} (h1:H q1=some (.tup [.int (kf z1),.str z1])) (h2:H q2=some (.tup [.int (kf z2),.str z2])) (hC:C (ltK kf z1 z2) s) :
  aG (model X.prog X.w) A (keyLt' (tuples' true) (.ref q1) (.ref q2)) C E s:=by
 obtain⟨i1,r1,⟨o1,e1,c1,m1,d1⟩,_⟩:=I.tuple (SqT.of h1)
 obtain⟨i2,r2,⟨o2,e2,c2,m2,d2⟩,_⟩:=I.tuple (SqT.of h2)
 obtain⟨u1,v1,rfl,⟨tk1,rfl⟩,⟨tv1,rfl⟩⟩:=r1.two
 obtain⟨u2,v2,rfl,⟨tk2,rfl⟩,⟨tv2,rfl⟩⟩:=r2.two
 refine PySem.W.kat_lt e1 d1 e2 d2 ?_
 refine PySem.W.kat_cons (wpAny_eqBool_int ?_)
 unfold ltK at hC
 refine PySem.W.kat_go (fun e=>?_) (fun e=>?_)
 ·have e:kf z1=kf z2:=by simpa using e
  rw [if_pos e] at hC
  refine PySem.W.kat_yes (PySem.W.kat_cons (wpAny_eqBool_str ?_))
  refine PySem.W.kat_go (fun e=>?_) (fun e=>?_)
  ·have e:z1=z2:=by simpa using e
   subst e
   have:ltS z1 z1=false:=by unfold ltS;exact decide_eq_false (List.lt_irrefl _)
   rw [this] at hC
   exact PySem.W.kat_yes (PySem.W.kat_nil hC)
  ·exact PySem.W.kat_no (PySem.W.kat_one _ _ (lt_str (Q:=PySem.W.BoolBack C) hC))
 ·have e:¬ kf z1=kf z2:=by simpa using e
  rw [if_neg e] at hC
  exact PySem.W.kat_no (oneLt_int hC)
theorem ap7 (hc:X.calm=true) {m:Str} {mi:MI} (K:ah4 X m mi) {bm a p:Addr} {zs:List Str} {kf:Str->Int} {Q:VK} (I:Inv X pins σ H s) (hbm:s.heap.get? bm=some (cD (.ref mi.i.f) (.ref a))) (fb:Cs X pins H bm)
  (hp:SqL X.K H p (zs.map V.str) \/ ∃ kvs,Rd H p (.dK kvs)/\kvs.map (·.1)=zs.map eJ) (nd:zs.Nodup) (h64:zs.length<64)
  (hk:∀ z∈zs,∀ H3,Same H H3->mi.i.sp [.ref a,.str z] H3 (fun v H4=>∃ q,v=.ref q/\Same H3 H4/\H4 q=some (.tup [.int (kf z),.str z])) (fun v _ _=>∃ a,v=aM a/\False))
  (q:∀ H3 D,Same H H3->H D=none->H3 D=some (.lst ((Ak (ltK kf) zs).map V.str))->Q (.ref D) H3) :
  aG (model X.prog X.w) X.A (call (.builtin "sorted") [.ref p] [("key", .ref bm)]) (EP X pins σ Q) X.xe s:=by
 refine PySem.W.sk_sorted (OKQ:=fun us h' tk=>(∀ b o,s.heap.get? b=some o->h'.get? b=some o)/\s.heap.objs.size<=h'.objs.size/\s.toks<=tk/\Vals (zs.map V.str) us) (fun R hR=>?_) fun us h' tk ⟨keep,hD,htk,rv⟩=>?_
 ·rcases hp with hp|⟨kvs,hp,ek⟩
  ·obtain⟨its,ri,pl,hz⟩:=I.list hp
   refine mC pl.isList (hR _ _ s.toks ⟨fun b o e=>?_,?_,ae _,ri⟩) (by have:=ri.length;rw [ag] at this;rw [bv];omega)
   ·have hlt:b<s.heap.objs.size:=au e
    rw [iI _ _ _ _ (aE hlt)]
    exact af _ e
   ·rw [ie,jw]
    exact ce _
  ·obtain⟨z,lo,vs,rel,dof⟩:=Cr I.hok hp
   obtain⟨ep,dat⟩:=dof.dictAt
   refine bE (ae _) (PySem.W.collect_src (jO lo) (by simp [I.ok.hd hc]) dat (by rw [<- rel.length];exact z) fun h' tk us hk hs hl hi htk=>?_)
   refine hR us h' tk ⟨hk,fQ hs,htk,?_⟩
   have v:=Hn rel hl hi
   have e:(kvs.map fun kv=>kV kv.1)=zs.map V.str:=by
    have:=congrArg (iA kV) ek
    rw [cS,cS] at this
    exact this
   rwa [e] at v
 ·have hl:us.length=zs.length:=by have:=rv.length;simpa using this.symm
  refine⟨by omega,fun D e1 kS h2 hD2 hDk gD gk k=>?_⟩
  have lD:s.heap.objs.size<=D:=aS hD hD2
  have lk:s.heap.objs.size<=kS:=aS lD (fQ hDk)
  have lb:bm<s.heap.objs.size:=au hbm
  have I2:Inv X pins σ H { s with heap:=h2,toks:=tk }:=I.kept (t':=tk) fun b o e=>k b o (keep b o e)
  have nD:∀ p∈X.pn++pins,p.1≠D:=(I.fpOk lD (I.hok.fresh lD)).2.2.2.2.2
  have fD:∀ {H':Hp},H' D=none->Cs X pins H' D:=fun hn=>I.fpOk lD hn
  have fk:∀ {H':Hp},H' kS=none->Cs X (pins++[(bm,cD (.ref mi.i.f) (.ref a)),(D,bj "list" #[] e1)]) H' kS:=fun hn=>by
   obtain⟨a1,a2,a3,a4,a5,a6⟩:=I.fpOk (H':=H) lk (I.hok.fresh lk)
   refine⟨hn,a2,a3,a4,a5,fun p hp=>?_⟩
   rw [<- cX] at hp
   rcases List.mem_append.mp hp with hp|hp
   ·exact a6 p hp
   ·simp only [aF,bN,or_false] at hp
    rcases hp with rfl|rfl
    ·exact aE (aO lb lk)
    ·exact aE hDk
  refine⟨fun ks s'=>∃ H',Inv X (pins++[(bm,cD (.ref mi.i.f) (.ref a)),(D,bj "list" #[] e1)]) σ H' s'/\Same H H'/\H' kS=none/\Po kf H' zs ks,⟨H,?_,Same.refl _,I.hok.fresh lk,fun i k z h=>by simp at h⟩,?_,?_⟩
  ·refine I2.pins_of fun p hp=>?_
   rcases List.mem_append.mp hp with hp|hp
   ·exact I2.pin p (bn _ hp)
   ·simp only [aF,bN,or_false] at hp
    rcases hp with rfl|rfl
    ·exact⟨k _ _ (keep _ _ hbm),fb.1,fb.2.1,fb.2.2.1,fun v z=>by cases z⟩
    ·have f:=fD (I.hok.fresh lD)
     exact⟨gD,f.1,f.2.1,f.2.2.1,fun v z=>by cases z⟩
  ·intro j x ks e s' hx hlk hks ⟨H',I',S,hn,ka⟩
   have hj:j<us.length:=(List.getElem?_eq_some_iff.mp hx).1
   obtain⟨u,hu,ru⟩:=rv.get (i:=j) (x:=.str (zs[j]'(by omega))) (by rw [aA,aj (by omega)];rfl)
   rw [hx] at hu
   cases hu
   have I1:Inv X ((pins++[(bm,cD (.ref mi.i.f) (.ref a)),(D,bj "list" #[] e1)])++[(kS,bj "list" ks.toArray e)]) σ H' s':=I'.pins_of fun p hp=>by
    rcases List.mem_append.mp hp with hp|hp
    ·exact I'.pin p (bn _ hp)
    ·have e:p=(kS,bj "list" ks.toArray e):=by simpa using hp
     subst e
     have f:=fk hn
     exact⟨hks,f.1,f.2.1,f.2.2.1,fun v z=>by cases z⟩
   have hb1:=(I'.pin (bm,cD (.ref mi.i.f) (.ref a)) (by simp)).1
   refine bL (ao8 K I1 hb1 ru (hk _ (cR _) H' S)) (fun k s'' hq=>?_) fun _ _ z=>z
   obtain⟨v,H'',I'',rk,q,rfl,S2,hq⟩:=hq
   cases rk
   have pk:=I''.pin (kS,bj "list" ks.toArray e) (by simp)
   refine⟨pk.1,fun h3 c g sb=>⟨H'',?_,S.trans S2,pk.2.1,fun i k' z h1 h2=>?_⟩⟩
   ·have f:=fk pk.2.1
    exact (I''.unpinned).turned (t':=s''.toks) (fun b o nb e=>(sb.2 b nb).trans e) f.1 f.2.1 f.2.2.2.1 f.2.2.2.2.1 f.2.2.2.2.2
   ·by_cases hi:i<ks.length
    ·rw [dW hi] at h1
     obtain⟨q',e',h'⟩:=ka i k' z h1 h2
     exact⟨q',e',S2 _ _ h'⟩
    ·have hi2:i<(ks++[aM q]).length:=(List.getElem?_eq_some_iff.mp h1).1
     rw [aI,cq] at hi2
     have ei:i=j:=by omega
     subst ei
     rw [cU (by omega),show i - ks.length=0 by omega] at h1
     cases h1
     rw [aj (by omega)] at h2
     cases h2
     exact⟨q,rfl,hq⟩
  ·intro ks e s' hlk hks ⟨H',I',S,hn,ka⟩
   have hlz:ks.length=zs.length:=by omega
   have pD:=I'.pin (D,bj "list" #[] e1) (by simp)
   have Iu:=I'.unpinned
   have fk':Cs X pins H' kS:=by
    have f:=fk hn
    exact⟨f.1,f.2.1,f.2.2.1,f.2.2.2.1,f.2.2.2.2.1,fun p hp=>f.2.2.2.2.2 p (by rw [<- cX];exact d7 _ hp)⟩
   have fin:∀ out:List Value,Vals ((Ak (ltK kf) zs).map V.str) out->PySem.W.SkFin D kS e e1 ks out (fun s3=>EP X pins σ Q (.ref D) s3) s':=fun out ro=>by
    refine⟨pD.1,hks,fun h4 c g sm=>?_⟩
    refine⟨.ref D,upd H' D (.lst ((Ak (ltK kf) zs).map V.str)),Iu.adopt (fD pD.2.1) fk' (fun b u b1 b2 e=>(sm b b1 b2).trans e) ⟨?_,out,c,ro,g⟩,rfl,q _ D (fun b o e=>?_) (I.hok.fresh lD) Ad⟩
    ·rw [ag,(Am _ zs).length_eq,bv];omega
    ·rw [Ah (A3 (S b o e) pD.2.1)]
     exact S b o e
   refine⟨fun h2=>fin us ?_,fun h2=>?_⟩
   ·rw [ap6 (by omega)]
    exact rv
   ·obtain⟨fs,kt,kl,ki⟩:=Jy I' hlz ka
    refine PySem.W.kat_kind (T:=.type "int") kt (by omega) (fun v hv=>by obtain⟨i,t,rfl⟩:=ki v hv;exact .now) rfl ?_
    obtain⟨pp,h1,h3,h4,h5⟩:=Ib (lt:=ltK kf) (zs:=zs) cQ (Fj nd) (by omega)
    refine PySem.W.kRun_wp (n:=us.length) (lt:=fun i j=>ltK kf (zs.getD i cQ) (zs.getD j cQ)) (a:=pp) (fun i j C hi hj hC=>?_) (by rw [hl];exact h1) (fin _ ?_)
    ·unfold kB
     have at_:∀ {i:Nat},i<us.length -> ∃ q,ks.getD i bh=.ref q/\H' q=some (.tup [.int (kf (zs.getD i cQ)),.str (zs.getD i cQ)]):=fun {i} hi=>by
      obtain⟨q,e,h⟩:=ka i (ks[i]'(by omega)) (zs[i]'(by omega)) (aj _) (aj _)
      refine⟨q,?_,?_⟩
      ·rw [av,aj (by omega)];exact e
      ·rw [av,aj (by omega)];exact h
     obtain⟨q1,e1,t1⟩:=at_ hi
     obtain⟨q2,e2,t2⟩:=at_ hj
     rw [e1,e2]
     exact Zo I' t1 t2 hC
    ·have v:=Fr rv pp.toList (fun i hi=>by rw [hl];exact h4 i hi)
     have e:(pp.toList.map fun i=>(zs.map V.str).getD i .non)=(Ak (ltK kf) zs).map V.str:=by
      rw [<- h5,cS]
      refine dH fun i hi=>?_
      have:=h4 i hi
      rw [av,aA,aj this]
      show V.str zs[i]=V.str (zs.getD i cQ)
      rw [av,aj this]
      rfl
     rwa [e] at v
end
end L2
set_option maxHeartbeats 400000
namespace L2
open PySem PySem.Spec PyProof.Rows
theorem Z3 {α β:Type} {f:α->β}:∀ {ds:List α},(ds.map f).Nodup -> ∀ a∈ds,∀ b∈ds,f a=f b->a=b
 | [],_,a,ha,_,_,_=>by cases ha
 | d::ds,nd,a,ha,b,hb,e=>by
  rw [aP,bA] at nd
  rcases List.mem_cons.mp ha with h1|h1
  ·rcases List.mem_cons.mp hb with h2|h2
   ·rw [h1,h2]
   ·exact (nd.1 (by rw [<- h1,e];exact bC h2)).elim
  ·rcases List.mem_cons.mp hb with h2|h2
   ·exact (nd.1 (by rw [<- h2,<- e];exact bC h1)).elim
   ·exact Z3 nd.2 a h1 b h2 e
theorem at8 {α β:Type} {f:α->β}:∀ {ds:List α},(ds.map f).Nodup->ds.Nodup
 | [],_=>f_
 | d::ds,nd=>by
  rw [aP,bA] at nd
  exact List.nodup_cons.mpr ⟨fun h=>nd.1 (bC h),at8 nd.2⟩
noncomputable def ltD (kf:Str->Int) (a b:Str×Addr):Bool:=ltK kf a.1 b.1
theorem ak3 {kf:Str->Int} {ds:List (Str×Addr)} (nd:(ds.map (·.1)).Nodup):OrdL (ltD kf) ds where
 tot:=fun a ha b hb n=>(Fj (kf:=kf) nd).tot a.1 (bC ha) b.1 (bC hb) fun e=>n (Z3 nd a ha b hb e)
 tr:=fun a ha b hb c hc=>(Fj (kf:=kf) nd).tr a.1 (bC ha) b.1 (bC hb) c.1 (bC hc)
 nd:=at8 nd
noncomputable def ad9 (K:aa):List V->Hp->VK->Prop:=fun xs H Q=>∃ (p:Addr) (ds:List (Str×Addr)) (kf:Str->Int),xs=[.ref p]/\SqL K H p (ds.map fun d=>.ref d.2)/\(∀ d∈ds,H d.2=some (.tup [.int (kf d.1),.str d.1]))/\(ds.map (·.1)).Nodup/\ds.length<64 /\ ∀ D,H D=none->Q (.ref D) (upd H D (.lst ((Ak (ltD kf) ds).map fun d=>.ref d.2)))
theorem Pd {kf:Str->Int} {zs:List (Str×Addr)} (h:zs.length<2):Ak (ltD kf) zs=zs:=by
 match zs,h with
 | [],_=>rfl
 | [z],_=>rfl
section
variable {X:Cx} {pins:List (Addr×Obj)} {σ:St} {H:Hp} {s:ai}
theorem Q8 {ds:List (Str×Addr)} {us:List Value} (r:Vals (ds.map fun d=>V.ref d.2) us) {i:Nat} (h:i<ds.length):us.getD i bh=.ref (ds[i]'h).2:=by
 obtain⟨u,hu,ru⟩:=r.get (i:=i) (x:=.ref (ds[i]'h).2) (by rw [aA,aj h];rfl)
 cases ru
 rw [av,hu]
 rfl
theorem P0:Cc X (.builtin "sorted") (ad9 X.K):=by
 intro pins s σ H xs us Q I r h
 obtain⟨p,ds,kf,rfl,hp,hd,nd,h64,q⟩:=h
 obtain⟨u,rfl,ru⟩:=Dq r
 cases ru
 refine PySem.W.so_sortedC (OKQ:=fun us h' tk=>(∀ b o,s.heap.get? b=some o->h'.get? b=some o)/\s.heap.objs.size<=h'.objs.size/\s.toks<=tk/\Vals (ds.map fun d=>V.ref d.2) us) (fun R hR=>?_) fun us h' tk ⟨keep,hD,htk,rv⟩=>?_
 ·obtain⟨its,ri,pl,hz⟩:=I.list hp
  refine mC pl.isList (hR _ _ s.toks ⟨fun b o e=>?_,?_,ae _,ri⟩) (by have:=ri.length;rw [ag] at this;rw [bv];omega)
  ·have hlt:b<s.heap.objs.size:=au e
   rw [iI _ _ _ _ (aE hlt)]
   exact af _ e
  ·rw [ie,jw]
   exact ce _
 ·have hl:us.length=ds.length:=by have:=rv.length;simpa using this.symm
  refine⟨by omega,fun h2 h2' c g k=>?_,fun h2 D e1 h2' hD2 gD k=>?_⟩
  ·refine⟨.ref h'.objs.size,_,I.laid (t':=tk) (fun b o e=>k b o (keep b o e)) hD (o:=.lst ((Ak (ltD kf) ds).map fun d=>.ref d.2)) ⟨?_,us,c,?_,g⟩,rfl,q _ (I.hok.fresh hD)⟩
   ·rw [Pd (by omega),ag,bv];omega
   ·rw [Pd (by omega)];exact rv
  ·have I2:Inv X pins σ H { s with heap:=h2',toks:=tk }:=I.kept (t':=tk) fun b o e=>k b o (keep b o e)
   have ka:Po kf H (ds.map (·.1)) us:=fun i v z h1 h2=>by
    have hi:i<ds.length:=by rw [<- hl];exact (List.getElem?_eq_some_iff.mp h1).1
    have e:=Q8 rv hi
    rw [av,h1] at e
    rw [aA,aj hi] at h2
    have h2:(ds[i]'hi).1=z:=aU h2
    subst h2
    exact⟨_,e,hd _ (cR hi)⟩
   obtain⟨fs,kt,kl,ki⟩:=Jy I2 (by rw [ag];exact hl) ka
   rw [ag] at kl
   refine PySem.W.kat_kind (T:=.type "int") kt (by omega) (fun v hv=>by obtain⟨i,t,rfl⟩:=ki v hv;exact .now) rfl ?_
   obtain⟨pp,h1,h3,h4,h5⟩:=Ib (lt:=ltD kf) (zs:=ds) (cQ,0) (ak3 nd) (by omega)
   refine PySem.W.kRun_wp (n:=us.length) (lt:=fun i j=>ltD kf (ds.getD i (cQ,0)) (ds.getD j (cQ,0))) (a:=pp) (fun i j C hi hj hC=>?_) (by rw [hl];exact h1) ⟨gD,fun h3' c g2 sb=>?_⟩
   ·unfold kB
    rw [hl] at hi hj
    rw [Q8 rv hi,Q8 rv hj]
    have g1:ds.getD i (cQ,0)=ds[i]'hi:=by rw [av,aj hi];rfl
    have g2:ds.getD j (cQ,0)=ds[j]'hj:=by rw [av,aj hj];rfl
    rw [g1,g2] at hC
    exact Zo I2 (hd _ (cR hi)) (hd _ (cR hj)) hC
   ·refine⟨.ref D,_,I.laid (t':=tk) (fun b o e=>(sb.2 b (aE (aO (au e) (aS hD hD2)))).trans (k b o (keep b o e))) (aS hD hD2) (o:=.lst ((Ak (ltD kf) ds).map fun d=>.ref d.2)) ⟨?_,_,c,?_,g2⟩,rfl,q D (I.hok.fresh (aS hD hD2))⟩
    ·rw [ag,(Am (ltD kf) ds).length_eq,bv];omega
    ·have v:=Fr rv pp.toList (fun i hi=>by rw [hl];exact h4 i hi)
     have e:(pp.toList.map fun i=>(ds.map fun d=>V.ref d.2).getD i .non)=(Ak (ltD kf) ds).map fun d=>.ref d.2:=by
      rw [<- h5,cS]
      refine dH fun i hi=>?_
      have:=h4 i hi
      rw [av,aA,aj this]
      show V.ref (ds[i]).2=V.ref (ds.getD i (cQ,0)).2
      rw [av,aj this]
      rfl
     rwa [e] at v
end
end L2
set_option maxHeartbeats 4000000
namespace PySem
section
variable {prog:aK} {w:bt} {K:Type} [DecidableEq K] {knd:HeapKind prog w K} {A:bg} {E:Value->ai->Prop} {s:ai}
theorem Du {d a:Addr} {xs:List (K×Addr×Value)} {k:K} {v:Value} {Q:Value->ai->Prop} (hu:knd.room A) (hkey:knd.is s.heap k a) (hm:s.heap.DictOfH knd d xs)
  (h1:∀ p,mH xs k=some p->Q p.2 { s with toks:=s.toks+knd.draws k })
  (h2:mH xs k=none -> ∀ h',h'.DictOfH knd d (storedH xs k a v)->a9 d s.heap h'->Q v { s with heap:=h',toks:=s.toks+knd.draws k })
  (hsz:xs.length<=sizeLine):aG (model prog w) A (kZ d (.ref a) v) Q E s:=by
 obtain⟨o,es,ep,ho,hc,hd,he,his,hn⟩:=hm
 unfold kZ
 try with_reducible refine bp ?_
 refine ac (knd.pyHash hu hkey ?_)
 refine ac (wpAny_dictFind_heap (s:={ s with toks:=s.toks+knd.draws k }) hu hkey ho hd he his hn ?_ ?_)
 ·intro hno
  have hnot:k∉xs.map (·.1):=not_mem_keys_of_get hno
  refine ac (gG (ac (wpAny_updateDictKeys (hz:=by have e:=size_of_entries he;omega) (s:={ s with toks:=s.toks+knd.draws k }) ho hd (ah (h2 (gY hno) _ ⟨_,_,ep+1,aW _ ho (Obj.isFreed_of_dict (kP hd _)),
   hc.mapDictKeys _,kP hd _,?_,?_,?_⟩ (bB ..))))))
  ·rw [mY (gY hno)]
   simp [he,entryOfKey]
  ·rw [mY (gY hno)]
   intro x hx
   rcases List.mem_append.mp hx with hx|hx
   ·exact knd.keeps (his x hx) ho hd (bB ..)
   ·simp only [bb] at hx
    subst hx
    exact knd.keeps hkey ho hd (bB ..)
  ·rw [mY (gY hno)]
   rw [ba,fW]
   refine⟨hn,by simp,?_⟩
   intro x hx y hy
   simp only [aP,hW,bb] at hy
   subst hy
   exact fun e=>hnot (e▸hx)
 ·intro j p hj
  refine ac (wpAny_dictEntries (s:={ s with toks:=s.toks+knd.draws k }) ho hd ?_)
  rw [entry_at he j,hj]
  exact ac (gG (ah (h1 p (atKey_of_get hn hj))))
theorem Gv (knd:HeapKind prog w K) (d a:Addr) (hd:(d==c4)=false) (dflt:Value) :
  MeetsIn prog w (aT.«dict.setdefault» ⟨[.ref d,.ref a,dflt],[]⟩) (fun A R s=>knd.room A.in1 /\ ∃ k xs,knd.is s.heap k a/\s.heap.DictOfH knd d xs/\xs.length<=sizeLine /\
   (∀ p,mH xs k=some p->R (.ok (.ret p.2)) { s with toks:=s.toks+knd.draws k }) /\
   (mH xs k=none -> ∀ h',h'.DictOfH knd d (storedH xs k a dflt)->a9 d s.heap h'->R (.ok (.ret dflt)) { s with heap:=h',toks:=s.toks+knd.draws k })):=
 .of_wp fun A R s ⟨hu,k,xs,hkey,hm,hz,h1,h2⟩=>by
  unfold aT.«dict.setdefault»
  refine ac ?_
  unfold Builtin.Dict.keyAndDefault
  refine ac (wpAny_notOrdered_dict hm.typeIs ?_)
  show aG _ _ (pure (d,aM a,some dflt)) _ _ s
  refine ah ?_
  show aG _ _ (if (d==c4)=true then _ else (kZ d (.ref a) dflt >>= _)) _ _ s
  rw [if_neg (by rw [hd];exact ak)]
  exact ac (Du hu hkey hm (fun p hp=>ah ⟨_,rfl,h1 p hp⟩) (fun hn h' hm' hs'=>ah ⟨dflt,rfl,h2 hn h' hm' hs'⟩) hz)
end
end PySem
namespace L2
open PySem PySem.Spec PyProof.Rows
noncomputable def Uu:V->List V->Hp->VK->Prop:=fun x xs H Q=>∃ p b kvs ks v,x=.ref p/\xs=[.ref b,v]/\H p=some (.dT kvs)/\H b=some (.tup (iA kV ks))/\kvs.length<sizeLine/\(match Bb kvs ks with
 | some w=>Q w H
 | none=>Q v (upd H p (.dT (Dp kvs ks v))))
theorem Wm {X:Cx} (hu:X.A.units+64<cLine):MtR X "dict.setdefault" Uu:=by
 intro pins s σ H x xs v us Q I rx rs h
 obtain⟨p,b,kvs,ks,y,rfl,rfl,e,eb,hl,q⟩:=h
 cases rx
 obtain⟨u1,u2,rfl,ru,rv⟩:=rs.two
 cases ru
 obtain⟨z,hd,ms,rel,dd⟩:=ar6 I.hok e
 have hz:ms.length<=sizeLine:=by rw [<- iC rel];exact z
 have hv:=rel.val ks
 refine fT fH dd.typeIs ij (ia _ _ _) (Gv (iR (Ap X.prog X.w)) p b hd u2) ⟨dm (by omega),ks,ms,E2 I.hok eb,dd,hz,fun r hr=>?_,fun hr h' dd' hs=>?_⟩
 ·rw [hr] at hv
  cases e2:Bb kvs ks with
  | none=>rw [e2] at hv;cases hv
  | some w=>rw [e2] at hv q;exact⟨w,H,I.tok _,hv,q⟩
 ·rw [hr] at hv
  cases e2:Bb kvs ks with
  | some w=>rw [e2] at hv;cases hv
  | none=>
   rw [e2] at q
   have hl2:(Dp kvs ks y).length<=sizeLine:=by have:=C5 kvs ks y;omega
   refine⟨y,_,?_,rv,q⟩
   obtain⟨q,es,ep,hq,h2,h3,h4,_,h5⟩:=dd'
   refine Fe I (by rw [e];exact bH) hs ⟨q,hq⟩ ⟨hl2,hd,_,(rel.put ks eb rv).keeps fun c ys ec=>?_,q,es,ep,hq,h2,h3,h4,h5⟩
   rw [Ah (at9 ec e (fun z=>nomatch z))]
   exact ec
noncomputable abbrev RF:=List V->Hp->VK->Prop
noncomputable def L5 (x:V) (T:String):Bool:=match x with
 | .int _=>T == "int"
 | .bl _=>T == "bool" || T == "int"
 | .str _=>T == "str"
 | _=>false
noncomputable def okT (T:String):Bool:=["int", "bool", "str", "list", "tuple", "dict"].contains T
noncomputable def Ww (K:aa):RF:=fun xs H Q=>match xs with
 | [.int i,.ty T]=>okT T=true/\Q (.bl (L5 (.int i) T)) H
 | [.bl i,.ty T]=>okT T=true/\Q (.bl (L5 (.bl i) T)) H
 | [.str i,.ty T]=>okT T=true/\Q (.bl (L5 (.str i) T)) H
 | [.non,.ty T]=>okT T=true/\Q (.bl (L5 .non T)) H
 | [x,.ty T]=>∃ t b,TyX K H x t/\fz K t (.type T)=some b/\Q (.bl b) H
 | [x,.ref C]=>(∃ t b,TyX K H x t/\fz K t (.ref C)=some b/\Q (.bl b) H)\/False
 | _=>False
noncomputable def O5 (K:aa):RF:=fun xs H Q=>match xs with
 | [.str z]=>z.length<=sizeLine/\Q (.int z.length) H
 | [.ref p]=>(∃ ys,(SqL K H p ys\/SqT K H p ys)/\Q (.int ys.length) H) \/ ∃ kvs,Rd H p (.dK kvs)/\Q (.int kvs.length) H
 | _=>False
noncomputable def ad0:RF:=fun xs H Q=>match xs with
 | [.int i]=>Q (.int i) H
 | [.bl k]=>Q (.int (if k then 1 else 0)) H
 | _=>False
noncomputable def Nm (K:aa):RF:=fun xs H Q=>match xs with
 | [.ref p]=>∃ ys,(SqL K H p ys\/SqT K H p ys) /\ ∀ l,H l=none->Q (.ref l) (upd H l (.lst ys))
 | _=>False
noncomputable def Kc (K:aa):RF:=fun xs H Q=>match xs with
 | [.ref p]=>∃ ys,(SqL K H p ys /\ ∀ l,H l=none->Q (.ref l) (upd H l (.tup ys)))\/(SqT K H p ys/\Q (.ref p) H)
 | _=>False
noncomputable def ao4:RF:=fun xs H Q=>match xs with
 | [.int i,.int j]=>Q (.int (if j > i then j else i)) H
 | _=>False
noncomputable def ad3 (K:aa) (calm:Bool):RF:=fun xs H Q=>Nm K xs H Q\/(calm=true/\ad4 xs H Q)
noncomputable def D4 (K:aa) (calm:Bool):RF:=fun xs H Q=>(False\/ad9 K xs H Q)\/(calm=true/\ad8 K xs H Q)
inductive BF where
 | bf (id:String)|ty (T:String)
noncomputable def a20 (K:aa) (calm:Bool) (x:Str):Option (BF×RF):=
 if x = "len" then some (.bf "len", O5 K) else
 if x = "isinstance" then some (.bf "isinstance", Ww K) else
 if x = "int" then some (.ty "int", ad0) else
 if x = "list" then some (.ty "list", ad3 K calm) else
 if x = "tuple" then some (.ty "tuple", Kc K) else
 if x = "max" then (if calm=true then some (.bf "max", ao4) else none) else
 if x = "sorted" then some (.bf "sorted", D4 K calm) else
 if x = "dict" then some (.ty "dict", Nl) else none
noncomputable def BF.val:BF->Value
 | .bf id=>.builtin id
 | .ty T=>.type T
section
variable {X:Cx}
theorem Qm {K:aa} {x:V} {T:String} (hx:Cd x=true) (h:okT T=true):∃ t,(∀ H,TyOf K H x t)/\fz K t (.type T)=some (L5 x T):=by
 have hT:T = "int" \/ T = "bool" \/ T = "str" \/ T = "list" \/ T = "tuple" \/ T = "dict" := by
  unfold okT at h
  simpa using h
 cases x with
 | int i=>refine⟨_,fun H=>TyOf.int i,?_⟩;rcases hT with rfl|rfl|rfl|rfl|rfl|rfl <;> rfl
 | bl i=>refine⟨_,fun H=>TyOf.bl i,?_⟩;rcases hT with rfl|rfl|rfl|rfl|rfl|rfl <;> rfl
 | str i=>refine⟨_,fun H=>TyOf.str i,?_⟩;rcases hT with rfl|rfl|rfl|rfl|rfl|rfl <;> rfl
 | non=>refine⟨_,fun H=>TyOf.non,?_⟩;rcases hT with rfl|rfl|rfl|rfl|rfl|rfl <;> rfl
 | _=>cases hx
theorem Yo:Cc X (.builtin "isinstance") (Ww X.K):=by
 intro pins s σ H xs us Q I r h
 have sc:∀ x T,xs=[x,.ty T]->Cd x=true->okT T=true->Q (.bl (L5 x T)) H->aG (model X.prog X.w) X.A (call (.builtin "isinstance") us) (EP X pins σ Q) X.xe s:=fun x T e hx hT q=>by
  subst e
  obtain⟨t,ht,hk⟩:=Qm (K:=X.K) hx hT
  exact Yn pins s σ H _ us Q I r ⟨x,T,t,_,rfl,ht H,hk,q⟩
 unfold Ww at h
 split at h
 ·exact sc _ _ rfl rfl h.1 h.2
 ·exact sc _ _ rfl rfl h.1 h.2
 ·exact sc _ _ rfl rfl h.1 h.2
 ·exact sc _ _ rfl rfl h.1 h.2
 ·obtain⟨t,b,ty,e,q⟩:=h
  obtain⟨u,v,rfl,ru,rv⟩:=r.two
  cases rv
  exact bE (ae _) (Jw I ru ty e fun tk htk=>⟨.bl b,H,I.tok tk htk,rfl,q⟩)
 ·obtain⟨u,v,rfl,ru,rv⟩:=r.two
  rcases h with ⟨t,b,ty,e,q⟩|h
  ·cases rv
   exact bE (ae _) (Jw I ru ty e fun tk htk=>⟨.bl b,H,I.tok tk htk,rfl,q⟩)
  ·exact h.elim
 ·exact h.elim
theorem Vi:Cc X (.builtin "len") (O5 X.K):=by
 intro pins s σ H xs us Q I r h
 unfold O5 at h
 split at h
 ·exact Mv pins s σ H _ us Q I r ⟨_,rfl,h.1,h.2⟩
 ·rcases h with ⟨ys,h1,h2⟩|⟨kvs,h1,h2⟩
  ·exact Mu pins s σ H _ us Q I r ⟨_,ys,rfl,h1,h2⟩
  ·obtain⟨u,rfl,ru⟩:=Dq r
   cases ru
   exact bj7 I h1 fun t s' I'=>⟨.int _,H,I',⟨t,rfl⟩,h2⟩
 ·exact h.elim
theorem Vh:Cc X (.type "int") ad0:=by
 intro pins s σ H xs us Q I r h
 unfold ad0 at h
 split at h
 ·exact Lp pins s σ H _ us Q I r (.inl ⟨_,rfl,h⟩)
 ·exact Lp pins s σ H _ us Q I r (.inr ⟨_,rfl,h⟩)
 ·exact h.elim
theorem Px:Cc X (.type "list") (Nm X.K):=by
 intro pins s σ H xs us Q I r h
 unfold Nm at h
 split at h
 ·obtain⟨ys,h1,h2⟩:=h
  exact Mw pins s σ H _ us Q I r ⟨_,ys,rfl,h1,h2⟩
 ·exact h.elim
theorem Vl:Cc X (.type "tuple") (Kc X.K):=by
 intro pins s σ H xs us Q I r h
 unfold Kc at h
 split at h
 ·obtain⟨ys,h1⟩:=h
  exact K5 pins s σ H _ us Q I r ⟨_,ys,rfl,h1⟩
 ·exact h.elim
theorem Vk (hc:X.calm=true):Cc X (.builtin "max") ao4:=by
 intro pins s σ H xs us Q I r h
 unfold ao4 at h
 split at h
 ·exact Vj hc pins s σ H _ us Q I r ⟨_,_,rfl,h⟩
 ·exact h.elim
theorem ah8 (hu:X.A.units+64<cLine) {x:Str} {f:BF} {r:RF} {c:Bool} (h:a20 X.K c x=some (f,r)) (hc:c=X.calm):cN x=some f.val/\Cc X f.val r:=by
 unfold a20 at h
 by_cases e:x = "len"
 ·rw [if_pos e] at h;cases h;rw [e];exact⟨PySem.boot_len,Vi⟩
 rw [if_neg e] at h
 by_cases e:x = "isinstance"
 ·rw [if_pos e] at h;cases h;rw [e];exact⟨PyProof.Rows.boot_isinstance,Yo⟩
 rw [if_neg e] at h
 by_cases e:x = "int"
 ·rw [if_pos e] at h;cases h;rw [e];exact⟨kx,Vh⟩
 rw [if_neg e] at h
 by_cases e:x = "list"
 ·rw [if_pos e] at h;cases h;rw [e];exact⟨gT,fun pins s σ H xs us Q I r h=>h.elim (Px pins s σ H xs us Q I r) fun z=>Py (hc▸z.1) pins s σ H xs us Q I r z.2⟩
 rw [if_neg e] at h
 by_cases e:x = "tuple"
 ·rw [if_pos e] at h;cases h;rw [e];exact⟨jD,Vl⟩
 rw [if_neg e] at h
 by_cases e:x = "max"
 ·rw [if_pos e] at h
  by_cases ec:c=true
  ·rw [if_pos ec] at h;cases h;rw [e];exact⟨PyProof.Rows.boot_max,Vk (hc▸ec)⟩
  ·rw [if_neg ec] at h;cases h
 rw [if_neg e] at h
 by_cases e:x = "sorted"
 ·rw [if_pos e] at h;cases h;rw [e];exact⟨Es,fun pins s σ H xs us Q I r h=>h.elim (fun h=>h.elim cA (P0 pins s σ H xs us Q I r)) fun z=>Pz (hc▸z.1) pins s σ H xs us Q I r z.2⟩
 rw [if_neg e] at h
 by_cases e:x = "dict"
 ·rw [if_pos e] at h;cases h;rw [e];exact⟨boot_dict,Pu⟩
 rw [if_neg e] at h
 cases h
noncomputable abbrev RM:=V->List V->Hp->VK->Prop
structure BM where
 T:String
 id:String
 r:RM
noncomputable def rMt (K:aa) (bs:List BM):V->Hp->(Hp->(List V->Hp->Prop)->Prop)->VK->Prop:=fun x H1 ta Q=>
 match bs with
 | []=>False
 | [b]=>tyV K b.T x H1/\ta H1 fun xs H2=>b.r x xs H2 Q
 | b::rest=>(tyV K b.T x H1/\ta H1 fun xs H2=>b.r x xs H2 Q)\/rMt K rest x H1 ta Q
structure ay0 (X:Cx) (m:Str) (b:BM):Prop where
 pa:PlainAttrs b.T
 slot:Slot b.T m b.id
 ty:typeOf (.builtin b.id)=pure (.type "method_descriptor")
 mt:MtR X b.id b.r
noncomputable def ad2 (K:aa):RM:=fun x xs H Q=>∃ z p ys,x=.str z/\xs=[.ref p]/\SqL K H p (ys.map V.str)/\(ys.map (·.length)).sum+ys.length * z.length<=16777216/\Q (.str (Txt.join z ys)) H
noncomputable def Me:RM:=fun x xs H Q=>match x,xs with
 | .ref a,[y]=>∃ o,Er H a y o/\Q (o.getD .non) H
 | .ref a,[y,z]=>∃ o,Er H a y o/\Q (o.getD z) H
 | _,_=>False
theorem ak4 (hu:X.A.units+64<cLine):MtR X "dict.get" Me:=by
 intro pins s σ H x xs v us Q I rx rs h
 unfold Me at h
 split at h
 ·obtain⟨o,g,q⟩:=h
  obtain⟨u,rfl,ru⟩:=rs.one
  cases rx
  exact a25 (by omega) I g ru fun w' s' I' r'=>⟨_,H,I',r',q⟩
 ·obtain⟨o,g,q⟩:=h
  obtain⟨u,w,rfl,ru,rw'⟩:=rs.two
  cases rx
  exact a26 (by omega) I g ru rw' fun w' s' I' r'=>⟨_,H,I',r',q⟩
 ·exact h.elim
noncomputable def Iz:RM:=fun x xs H Q=>∃ p kvs,x=.ref p/\xs=[]/\H p=some (.dK kvs)/\Q .non (upd H p (.dK []))
theorem Wk:MtR X "dict.clear" Iz:=by
 intro pins s σ H x xs v us Q I rx rs h
 obtain⟨p,kvs,rfl,rfl,e,q⟩:=h
 cases rx
 cases rs
 exact ai1 I e fun s' I'=>⟨.non,_,I',rfl,q⟩
noncomputable def ad6:RM:=fun x vs H Q=>bq5 x vs H Q\/ad5 x vs H Q
noncomputable def O3:RM:=fun x xs H Q=>∃ p k v kvs,x=.ref p/\xs=[kV k]/\H p=some (.dK kvs)/\Bb kvs k=some v/\Q v (upd H p (.dK (Jn kvs k)))
theorem ak5:MtR X "dict.pop" O3:=by
 intro pins s σ H x xs v us Q I rx rs h
 obtain⟨p,k,y,kvs,rfl,rfl,e,l,q⟩:=h
 obtain⟨u,rfl,ru⟩:=rs.one
 cases rx
 exact bj8 I e ru l (.inl rfl) fun w' s' I' r'=>⟨y,_,I',r',q⟩
noncomputable def ad7:RM:=fun x xs H Q=>∃ p k v kvs,x=.ref p/\xs=[kV k,v]/\H p=some (.dK kvs)/\kvs.length<sizeLine/\(match Bb kvs k with
 | some w=>Q w H
 | none=>Q v (upd H p (.dK (Dp kvs k v))))
theorem Z2:MtR X "dict.setdefault" ad7:=by
 intro pins s σ H x xs v us Q I rx rs h
 obtain⟨p,k,y,kvs,rfl,rfl,e,hl,q⟩:=h
 cases rx
 obtain⟨u1,u2,rfl,ru,rv⟩:=rs.two
 obtain⟨z,hd,vs,rel,dd⟩:=Tw I.hok e
 have hv:=rel.val k
 refine fT fH dd.typeIs ij (ia _ _ _) (kt_meets_setdefault (Ap X.prog X.w) p (En ru) hd u2) ⟨vs,dd,by rw [<- rel.length];exact z,fun r hr=>?_,fun hr h' dd' hs=>?_⟩
 ·rw [hr] at hv
  cases e2:Bb kvs k with
  | none=>rw [e2] at hv;cases hv
  | some w=>rw [e2] at hv q;exact⟨w,H,I.tok _,hv,q⟩
 ·rw [hr] at hv
  cases e2:Bb kvs k with
  | some w=>rw [e2] at hv;cases hv
  | none=>
   rw [e2] at q
   have hl2:(Dp kvs k y).length<=sizeLine:=by have:=C5 kvs k y;omega
   have he:∃ q,h'.get? p=some q:=let ⟨q,_,_,hq,_⟩:=dd';⟨q,hq⟩
   exact⟨y,_,Fe I (by rw [e];exact bH) hs he (Jm hl2 hd (rel.put k rv) dd'),rv,q⟩
noncomputable def Kb:RM:=fun x vs H Q=>Uu x vs H Q\/ad7 x vs H Q
noncomputable def mtR (K:aa) (m:Str):List BM:=
 if m = "append" then [⟨"list", "list.append", C3⟩] else
 if m = "get" then [⟨"dict", "dict.get", Me⟩] else
 if m = "extend" then [⟨"list", "list.extend", G3⟩] else
 if m = "clear" then [⟨"list", "list.clear", Q5⟩,⟨"dict", "dict.clear", Iz⟩] else
 if m = "join" then [⟨"str", "str.join", ad2 K⟩] else
 if m = "setdefault" then [⟨"dict", "dict.setdefault", Kb⟩] else
 if m = "pop" then [⟨"list", "list.pop", ad6⟩,⟨"dict", "dict.pop", O3⟩] else []
theorem Zz {m:Str} {b:BM} (hu:X.A.units+64<cLine) (h:b∈mtR X.K m):ay0 X m b:=by
 unfold mtR at h
 by_cases e:m = "append"
 ·rw [if_pos e] at h
  have:b=⟨"list", "list.append", C3⟩:=by simpa using h
  subst this;subst e
  exact⟨e_,PySem.F.slot_list_append,PySem.F.type_list_append,Ma⟩
 rw [if_neg e] at h
 by_cases e:m = "get"
 ·rw [if_pos e] at h
  have:b=⟨"dict", "dict.get", Me⟩:=by simpa using h
  subst this;subst e
  exact⟨eZ,dP,PySem.F.type_dict_get,ak4 hu⟩
 rw [if_neg e] at h
 by_cases e:m = "extend"
 ·rw [if_pos e] at h
  have:b=⟨"list", "list.extend", G3⟩:=by simpa using h
  subst this;subst e
  exact⟨e_,PySem.F.slot_list_extend,PySem.F.type_list_extend,Wl⟩
 rw [if_neg e] at h
 by_cases e:m = "clear"
 ·rw [if_pos e] at h
  rcases List.mem_cons.mp h with this|h
  ·subst this;subst e
   exact⟨e_,PySem.F.slot_list_clear,PySem.F.type_list_clear,Z0⟩
  ·have:b=⟨"dict", "dict.clear", Iz⟩:=by simpa using h
   subst this;subst e
   exact⟨eZ,jH,PySem.F.type_dict_clear,Wk⟩
 rw [if_neg e] at h
 by_cases e:m = "join"
 ·rw [if_pos e] at h
  have:b=⟨"str", "str.join", ad2 X.K⟩:=by simpa using h
  subst this;subst e
  exact⟨PySem.F.plainAttrs_str,PySem.F.slot_str_join,PySem.F.type_str_join,ak6⟩
 rw [if_neg e] at h
 by_cases e:m = "setdefault"
 ·rw [if_pos e] at h
  have:b=⟨"dict", "dict.setdefault", Kb⟩:=by simpa using h
  subst this;subst e
  exact⟨eZ,fH,PySem.F.type_dict_setdefault,fun pins s σ H x vs v us Q I rx rv h=>h.elim (Wm hu pins s σ H x vs v us Q I rx rv) (Z2 pins s σ H x vs v us Q I rx rv)⟩
 rw [if_neg e] at h
 by_cases e:m = "pop"
 ·rw [if_pos e] at h
  rcases List.mem_cons.mp h with this|h
  rotate_left
  ·have:b=⟨"dict", "dict.pop", O3⟩:=by simpa using h
   subst this;subst e
   exact⟨eZ,ky,PySem.F.type_dict_pop,ak5⟩
  subst this;subst e
  exact⟨e_,PySem.F.slot_list_pop,PySem.F.type_list_pop,fun pins s σ H x vs v us Q I rx rv h=>h.elim (a42 pins s σ H x vs v us Q I rx rv) (Z1 pins s σ H x vs v us Q I rx rv)⟩
 rw [if_neg e] at h
 cases h
theorem Nn {K:aa}:∀ {bs:List BM} {x:V} {H1:Hp} {ta:Hp->(List V->Hp->Prop)->Prop} {Q:VK},rMt K bs x H1 ta Q -> ∃ b∈bs,tyV K b.T x H1/\ta H1 fun xs H2=>b.r x xs H2 Q
 | [],_,_,_,_,h=>h.elim
 | [b],_,_,_,_,h=>⟨b,by simp,h⟩
 | b::c::rest,x,H1,ta,Q,h=>by
  rcases h with h|h
  ·exact⟨b,by simp,h⟩
  ·obtain⟨d,hd,q⟩:=Nn h
   exact⟨d,aJ _ hd,q⟩
noncomputable def Ci:Expr->Bool
 | .Call (.Name x _) [] [] _=>!(x==("super" : Str))
 | _=>true
theorem Do {e:Expr} (h:Ci e=true) (f:Str) (env:Env) (whole:Sem Value):jI e f env whole=whole:=by
 unfold jI
 split
 ·rename_i id p pos
  have:(id==("super" : Str))=false:=by
   have h':(!(id==("super" : Str)))=true:=h
   simpa using h'
  have e2:(id != "super")=true:=by
   show (!(id == "super"))=true
   rw [this]
   rfl
  rw [e2]
  simp
 ·rfl
variable {o:Expr} {do':DE} {es:List Expr} {r:DA} {m:Str} {apos cpos:Pos}
theorem a98 {bs:List BM} (hb:∀ b∈bs,ay0 X m b) (ho:QE X o do') (h1:Ci o=true) (h4:(apos.endLine==cpos.line)=true) :
  QE X (.Call (.Attribute o m apos) [] [] cpos) (dMt (rMt X.K bs) do' Af):=by
 intro Ex mt pins s σ H Q I h
 refine wpAny_Call_method0_late (Do h1 m X.env _) h4 (thn (ho Ex mt pins s σ H _ I h) fun v s1 ⟨x,H1,I1,r1,q1⟩=>?_)
 obtain⟨b,hbm,ty,q⟩:=Nn q1
 obtain⟨k1,k2⟩:=ag5 I1 r1 ty
 have B:=hb b hbm
 exact⟨b.T,b.id,B.pa,B.slot,B.ty,k1,k2,jV rfl (PySem.evalArgs_none (B.mt pins s1 σ H1 x [] v [] Q I1 r1 .nil q))⟩
theorem bp9 {bs:List BM} {e:Expr} (hb:∀ b∈bs,ay0 X m b) (ho:QE X o do') (ha:QA X (e::es) r) (h1:Ci o=true) (h2:(e::es).all noStar=true) (h3:(e::es).length<30) (h4:(apos.endLine==cpos.line)=true) :
  QE X (.Call (.Attribute o m apos) (e::es) [] cpos) (dMt (rMt X.K bs) do' r):=by
 intro Ex mt pins s σ H Q I h
 have hs:=bF▸h2
 rw [aw] at hs
 have hfew:((jv cpos (cV (e::es) X.env)).all (fun x=>!x.1)&&(nr cpos (lG [] X.env)).all (fun x=>x.1.isSome)
   && decide ((e::es).length+([]:List mN).length+(if ([]:List mN).isEmpty then 0 else 1)<30))=true:=by
  rw [Ii h2]
  have:decide ((e::es).length+([]:List mN).length+(if ([]:List mN).isEmpty then 0 else 1)<30)=true:=by
   rw [decide_eq_true_iff]
   simpa using h3
  rw [this]
  rfl
 refine wpAny_Call_method_late (Do h1 m X.env _) hfew h4 rfl (thn (ho Ex mt pins s σ H _ I h) fun v s1 ⟨x,H1,I1,r1,q1⟩=>?_)
 obtain⟨b,hbm,ty,q⟩:=Nn q1
 obtain⟨k1,k2⟩:=ag5 I1 r1 ty
 have B:=hb b hbm
 refine⟨b.T,b.id,B.pa,B.slot,B.ty,k1,k2,?_⟩
 have hA:=ha Ex mt cpos pins s1 σ H1 _ I1 q
 rw [As hs.1] at hA ⊢
 refine jV (by show (false||(jv cpos (cV es X.env)).any (·.1))=false;rw [Ba hs.2] <;> rfl) (Calls.evalArgs_plain ?_)
 exact thn hA fun us s2 ⟨vs,H2,I2,r2,q2⟩=>B.mt pins s2 σ H2 x vs v us Q I2 r1 r2 q2
variable {x:Str} {p pos:Pos} {G:Sg}
theorem a89 {f:BF} {rf:RF} {e:Expr} (hc:Cc X f.val rf) (hg:Gl X x) (hm:X.mg x=none) (hv:cN x=some f.val) (ha:QA X (e::es) r) (hs:(e::es).all noStar=true) (hn:x ≠ "__name__") (hdb:(x==("__debug__" : Str))=false) :
  QE X (.Call (.Name x p) (e::es) [] pos) (dFn (fun vs H Q _=>rf vs H Q) r):=by
 intro Ex mt
 have h:=bF▸hs
 rw [aw] at h
 cases f with
 | bf id=>exact aa4 hc hg hm hv (ha Ex mt) hn hdb (As h.1 es X.env) (Ba h.2 X.env pos)
 | ty T=>exact Ws hc hg hm hv (ha Ex mt) hn hdb (As h.1 es X.env) (Ba h.2 X.env pos)
noncomputable def spE (sp:Sp) (dvs:List V):List V->Hp->VK->EK->Prop:=fun vs H Q E=>sp (vs++dvs) H Q (fun v _ H'=>∃ a,v=.ref a/\E a H')
theorem Fn {i:FI} (F:Eg X i) {j:Nat} (hj:j<=i.dfs.length) {Ex:St->EK} (mt:Meets X Ex) {pins:List (Addr×Obj)} {σ:St} {H:Hp} {s:ai} {Q:VK} {us:List Value} {vs:List V}
  (I:Inv X pins σ H s) (r:Vals vs us) (h:spE i.sp (i.dfs.drop j) vs H Q (Ex σ)):aG (model X.prog X.w) X.A (call (.ref i.f) us) (EP X pins σ Q) X.xe s:=by
 obtain⟨CX,hx,FO⟩:=F.ok
 have r2:Vals (vs++i.dfs.drop j) (us++i.ds.drop j):=r.append (F.vals.drop j)
 have hl:(us++i.ds.drop j).length=i.ps.length:=by rw [<- r2.length];exact FO.len _ _ _ _ h
 refine dN (eU (FO.run X.A X.stack s H ⟨us,[]⟩ (us++i.ds.drop j) (vs++i.dfs.drop j) Q _ F.room I.env0 (F.binds j hj s us I.kIn hl) r2 h) fun r s' hq=>?_)
 cases r with
 | error e=>exact hx X rfl rfl Ex mt pins σ H s e s' I hq
 | ok fl=>
  cases fl with
  | ret u=>exact I.after hq
  | next=>exact cA hq
  | brk=>exact cA hq
  | cont=>exact cA hq
theorem ab6 {i:FI} (F:Eg X i) {j:Nat} (hj:j<=i.dfs.length) (hg:Gl X x) (hm:X.mg x=some (.ref i.f)) (hdb:(x==("__debug__" : Str))=false) :
  QE X (.Call (.Name x p) [] [] pos) (dFn (spE i.sp (i.dfs.drop j)) Af):=by
 intro Ex mt pins s σ H Q I h
 refine bI (Db I hg hm ?_ hdb)
 exact gu I.kIn F.kp (Fn (us:=[]) F hj mt I .nil h)
theorem an0 {i:FI} {e:Expr} (F:Eg X i) {j:Nat} (hj:j<=i.dfs.length) (hg:Gl X x) (hm:X.mg x=some (.ref i.f)) (ha:QA X (e::es) r) (hs:(e::es).all noStar=true) (hdb:(x==("__debug__" : Str))=false) :
  QE X (.Call (.Name x p) (e::es) [] pos) (dFn (spE i.sp (i.dfs.drop j)) r):=by
 intro Ex mt pins s σ H Q I h
 have h2:=bF▸hs
 rw [aw] at h2
 refine bI (Db I hg hm ?_ hdb)
 refine dQ (h₀:=X.base) I.ok.mod.kin F.kp (thn (ha Ex mt pos pins s σ H _ I h) fun us s1 ⟨vs,H1,I1,r,q⟩=>⟨I1.kIn,?_⟩) (As h2.1 es X.env) (Ba h2.2 X.env pos)
 exact Fn F hj mt I1 r q
noncomputable def bj3 (l:List FI) (n:Nat) (o:DE) (t:DA):DE:=fun σ H Q E=>o σ H (fun x H1=>∃ i,i∈l/\x=.ref i.f/\(n<=i.ps.length/\i.ps.length<=n+i.dfs.length)/\t σ H1 (fun vs H2=>spE i.sp (i.dfs.drop (n+i.dfs.length - i.ps.length)) vs H2 Q E) E) E
theorem a90 {l:List FI} {e:Expr} {d:DE} (hF:∀ i∈l,Eg X i) (ho:QE X (.Name x p) d) (ha:QA X (e::es) r) (hs:(e::es).all noStar=true) :
  QE X (.Call (.Name x p) (e::es) [] pos) (bj3 l (e::es).length d r):=by
 intro Ex mt pins s σ H Q I h
 have h2:=bF▸hs
 rw [aw] at h2
 refine bI (thn (ho Ex mt pins s σ H _ I h) fun v s1 ⟨x,H1,I1,r1,q1⟩=>?_)
 obtain⟨i,hi,rfl,hl,q⟩:=q1
 cases r1
 have F:=hF i hi
 refine dQ (h₀:=X.base) I1.ok.mod.kin F.kp (thn (ha Ex mt pos pins s1 σ H1 _ I1 q) fun us s2 ⟨vs,H2,I2,r,q⟩=>⟨I2.kIn,?_⟩) (As h2.1 es X.env) (Ba h2.2 X.env pos)
 exact Fn F (by have:=hl.1;omega) mt I2 r q
noncomputable def mkX (C:Addr):Option FI->Nat->List V->Hp->VK->EK->Prop
 | none,_=>fun _ H Q _=>∀ a,H a=none->Q (.ref a) (upd H a (Ep a C none))
 | some i,j=>fun vs H Q E=>∀ a,H a=none->i.sp (.ref a::(vs++i.dfs.drop j)) (upd H a (Ep a C none)) (fun v H2=>v=.non/\Q (.ref a) H2) (fun v _ H'=>∃ b,v=.ref b/\E b H')
theorem Uz {C:Addr} {oi:Option FI} {j:Nat} (c:ECls X.K C) (hi:Fv X C oi) (hj:∀ i,oi=some i->j<=i.dfs.length) {Ex:St->EK} (mt:Meets X Ex) {pins:List (Addr×Obj)} {σ:St} {H:Hp} {s:ai} {Q:VK} {us:List Value} {vs:List V}
  (I:Inv X pins σ H s) (rv:Vals vs us) (hl:vs.length<=1000) (h:mkX C oi j vs H Q (Ex σ)):aG (model X.prog X.w) X.A (call (.ref C) us) (EP X pins σ Q) X.xe s:=by
 cases oi with
 | none=>exact Rb c hi I rv hl h
 | some i=>
  obtain⟨h1,h2,F,hr⟩:=hi
  obtain⟨CX,hx,FO⟩:=F.ok
  exact Wz c h1 h2 FO hr (F.binds j (hj i rfl)) (F.vals.drop j) I rv hl (fun e s1 s' H1 I1 q=>hx X rfl rfl Ex mt pins σ H1 s1 e s' I1 q) h
theorem Uq {C:Addr} {oi:Option FI} {j:Nat} (c:ECls X.K C) (hi:Fv X C oi) (hj:∀ i,oi=some i->j<=i.dfs.length) (kp:aV X.K (.ref C)=true) (hg:Gl X x) (hm:X.mg x=some (.ref C)) (hdb:(x==("__debug__" : Str))=false) :
  QE X (.Call (.Name x p) [] [] pos) (dFn (mkX C oi j) Af):=by
 intro Ex mt pins s σ H Q I h
 refine bI (Db I hg hm ?_ hdb)
 exact gu I.kIn kp (Uz (us:=[]) c hi hj mt I .nil (by simp) h)
theorem Q0 {C:Addr} {oi:Option FI} {j:Nat} {e:Expr} (c:ECls X.K C) (hi:Fv X C oi) (hj:∀ i,oi=some i->j<=i.dfs.length) (kp:aV X.K (.ref C)=true) (hg:Gl X x) (hm:X.mg x=some (.ref C)) (ha:QA X (e::es) r) (hs:(e::es).all noStar=true) (hdb:(x==("__debug__" : Str))=false) :
  QE X (.Call (.Name x p) (e::es) [] pos) (dFn (fun vs H Q E=>vs.length<=1000/\mkX C oi j vs H Q E) r):=by
 intro Ex mt pins s σ H Q I h
 have h2:=bF▸hs
 rw [aw] at h2
 refine bI (Db I hg hm ?_ hdb)
 refine dQ (h₀:=X.base) I.ok.mod.kin kp (thn (ha Ex mt pos pins s σ H _ I h) fun us s1 ⟨vs,H1,I1,r,q⟩=>⟨I1.kIn,?_⟩) (As h2.1 es X.env) (Ba h2.2 X.env pos)
 exact Uz c hi hj mt I1 r q.1 q.2
noncomputable def mkC (C:Addr):Option FI->Nat->List V->Hp->VK->EK->Prop
 | none,_=>fun vs H Q _=>vs=[] /\ ∀ a dx,H a=none->H dx=none->dx≠a->Q (.ref a) (upd (upd H dx (.own a)) a (.ins C dx []))
 | some i,j=>fun vs H Q E=>∀ a dx,H a=none->H dx=none->dx≠a ->
   i.sp (.ref a::(vs++i.dfs.drop j)) (upd (upd H dx (.own a)) a (.ins C dx [])) (fun v H2=>v=.non/\Q (.ref a) H2) (fun v _ H'=>∃ b,v=.ref b/\E b H')
theorem Wy {C:Addr} (h1:cP X.K C=true) (h2:ar X.K (.ref C) "__init__" = some (some (.builtin "object.__init__"))) {pins:List (Addr×Obj)} {σ:St} {H:Hp} {s:ai} {Q:VK}
  (I:Inv X pins σ H s) (h:∀ a dx,H a=none->H dx=none->dx≠a->Q (.ref a) (upd (upd H dx (.own a)) a (.ins C dx []))):aG (model X.prog X.w) X.A (call (.ref C) []) (EP X pins σ Q) X.xe s:=by
 have hq:=h (s.heap.objs.size+1) s.heap.objs.size (I.hok.fresh (ce _)) (I.hok.fresh (ae _)) (aE (cT _))
 have I2:=Inv.made (C:=C) I
 have e2:((s.heap.push bG).push (bS C s.heap.objs.size)).get? (s.heap.objs.size+1)=some (bS C s.heap.objs.size):=by
  have z:=aq (s.heap.push bG) (o:=bS C s.heap.objs.size) rfl
  rwa [cx] at z
 refine dN (Wi I.kIn h1 h2 (fun self=>.of_pure (PySem.W.oi_bind self)) ?_)
 have ty:iD (model X.prog X.w) ((s.heap.push bG).push (bS C s.heap.objs.size)) (typeOf (.ref (s.heap.objs.size+1))) (.ref C):=(PySem.W.Looks.ld e2).andThen .now
 have io:iD (model X.prog X.w) ((s.heap.push bG).push (bS C s.heap.objs.size)) (gZ (.ref (s.heap.objs.size+1)) (.type "object")) true:=
  ty.andThen ((jP (M:=model X.prog X.w) I.kIn h1).top.keeps fun b o e=>af _ (af _ e))
 refine dv PySem.W.oi_plain PySem.W.entry_oi (PySem.W.check_slot (s:={ s with heap:=(s.heap.push bG).push (bS C s.heap.objs.size) }) (i := "object.__init__") (owner := "object") (self:=.ref (s.heap.objs.size+1)) PySem.W.oi_kind PySem.W.oi_split io (PySem.W.oi_args _) ?_)
 rw [PySem.W.oi_run]
 exact ah ⟨rfl,⟨.ref _,_,I2,rfl,hq⟩⟩
theorem ao9 {C f:Addr} {CX:CXT} {k:Nat} {fd:aH} {ps:List Str} {sp:Sp} {ds:List Value} {dvs:List V} {E:XK} {pins:List (Addr×Obj)} {σ:St} {H:Hp} {s:ai} {Q:VK} {us:List Value} {vs:List V}
  (M:Mk X.K C f) (F:FnOk X.prog X.w X.K X.mg X.base CX k f fd ps sp) (hr:Room (k+1) X.A) (hb:Binds X.K fd ps ds) (hd:Vals dvs ds) (hx:∀ H1 s1 e s',Inv X pins σ H1 s1->CX X.stack H1 s1 E e s'->X.xe e s') (I:Inv X pins σ H s) (r:Vals vs us)
  (h:∀ x dx,H x=none->H dx=none->dx≠x->sp (.ref x::(vs++dvs)) (upd (upd H dx (.own x)) x (.ins C dx [])) (fun v H2=>v=.non/\Q (.ref x) H2) E) :
  aG (model X.prog X.w) X.A (call (.ref C) us) (EP X pins σ Q) X.xe s:=by
 have hq:=h (s.heap.objs.size+1) s.heap.objs.size (I.hok.fresh (ce _)) (I.hok.fresh (ae _)) (aE (cT _))
 have I2:=Inv.made (C:=C) I
 have r2:Vals (V.ref (s.heap.objs.size+1)::(vs++dvs)) (aM (s.heap.objs.size+1)::(us++ds)):=.cons rfl (r.append hd)
 have hl:(aM (s.heap.objs.size+1)::us++ds).length=ps.length:=by
  have e:=r2.length
  rw [F.len _ _ _ _ hq] at e
  exact e.symm
 refine dN (Zw (f:=f) I.kIn M.makes M.init (beq_iff_eq.mp M.fn) (eU (F.run _ X.stack _ _ ⟨aM (s.heap.objs.size+1)::us,[]⟩ (aM (s.heap.objs.size+1)::(us++ds)) _ _ E (hr.make C us [])
  (I2.env0.make C us []) (hb _ (aM (s.heap.objs.size+1)::us) I2.kIn hl) r2 hq) fun r s' hq'=>?_))
 cases r with
 | error e=>exact hx _ _ e s' I2 hq'
 | ok fl=>
  cases fl with
  | ret u=>
   obtain⟨v,H',I3,rv,ev,q3⟩:=I2.after hq'
   subst ev
   exact⟨rv,⟨V.ref (s.heap.objs.size+1),H',I3,rfl,q3⟩⟩
  | next=>exact cA hq'
  | brk=>exact cA hq'
  | cont=>exact cA hq'
theorem Uy {C:Addr} {oi:Option FI} {j:Nat} (hi:Xg X C oi) (hj:∀ i,oi=some i->j<=i.dfs.length) {Ex:St->EK} (mt:Meets X Ex) {pins:List (Addr×Obj)} {σ:St} {H:Hp} {s:ai} {Q:VK} {us:List Value} {vs:List V}
  (I:Inv X pins σ H s) (rv:Vals vs us) (kp:aV X.K (.ref C)=true) (h:mkC C oi j vs H Q (Ex σ)):aG (model X.prog X.w) X.A (call (.ref C) us) (EP X pins σ Q) X.xe s:=by
 cases oi with
 | none=>
  obtain⟨rfl,h⟩:=h
  cases rv
  exact Wy hi.1 hi.2 I h
 | some i=>
  obtain⟨h0,h1,h2,F,hr⟩:=hi
  obtain⟨CX,hx,FO⟩:=F.ok
  exact ao9 ⟨h0,h1,h2,kp⟩ FO hr (F.binds j (hj i rfl)) (F.vals.drop j) (fun H1 s1 e s' I1 q=>hx X rfl rfl Ex mt pins σ H1 s1 e s' I1 q) I rv h
theorem Up {C:Addr} {oi:Option FI} {j:Nat} (hi:Xg X C oi) (hj:∀ i,oi=some i->j<=i.dfs.length) (kp:aV X.K (.ref C)=true) (hg:Gl X x) (hm:X.mg x=some (.ref C)) (hdb:(x==("__debug__" : Str))=false) :
  QE X (.Call (.Name x p) [] [] pos) (dFn (mkC C oi j) Af):=by
 intro Ex mt pins s σ H Q I h
 refine bI (Db I hg hm ?_ hdb)
 exact gu I.kIn kp (Uy (us:=[]) hi hj mt I .nil kp h)
theorem a97 {C:Addr} {oi:Option FI} {j:Nat} {e:Expr} (hi:Xg X C oi) (hj:∀ i,oi=some i->j<=i.dfs.length) (kp:aV X.K (.ref C)=true) (hg:Gl X x) (hm:X.mg x=some (.ref C)) (ha:QA X (e::es) r) (hs:(e::es).all noStar=true) (hdb:(x==("__debug__" : Str))=false) :
  QE X (.Call (.Name x p) (e::es) [] pos) (dFn (mkC C oi j) r):=by
 intro Ex mt pins s σ H Q I h
 have h2:=bF▸hs
 rw [aw] at h2
 refine bI (Db I hg hm ?_ hdb)
 refine dQ (h₀:=X.base) I.ok.mod.kin kp (thn (ha Ex mt pos pins s σ H _ I h) fun us s1 ⟨vs,H1,I1,r,q⟩=>⟨I1.kIn,?_⟩) (As h2.1 es X.env) (Ba h2.2 X.env pos)
 exact Uy hi hj mt I1 r kp q
noncomputable def An (m:Str) (n:Nat) (l:List MI) (o:DE) (t:DA):DE:=fun σ H Q E=>o σ H (fun x H1=>∃ a dx fs mi,x=.ref a/\mi∈l/\H1 a=some (.ins mi.C dx fs)/\fs.lookup m=none/\(n+1<=mi.i.ps.length/\mi.i.ps.length<=n+1+mi.i.dfs.length) /\
 t σ H1 (fun vs H2=>spE mi.i.sp (mi.i.dfs.drop (n+1+mi.i.dfs.length - mi.i.ps.length)) (.ref a::vs) H2 Q E) E) E
theorem J6 {es:List Expr} {P:Value->ai->Prop} {s:ai} (h1:Ci o=true) (h2:es.all noStar=true) (h3:es.length<30) (h4:(apos.endLine==cpos.line)=true)
  (h:aG (model X.prog X.w) X.A (eval o X.env) (fun ov s1=>∀ pl,aG (model X.prog X.w) X.A (getMethod ov m pl) (fun fx s2=>aG (model X.prog X.w) X.A (callWith cpos fx.1 fx.2 (jv cpos (cV es X.env)) (nr cpos (lG [] X.env))) P X.xe s2) X.xe s1) X.xe s) :
  aG (model X.prog X.w) X.A (eval (.Call (.Attribute o m apos) es [] cpos) X.env) P X.xe s:=by
 have few:methodCallForm (es.length+([]:List mN).length) (jv cpos (cV es X.env)) (nr cpos (lG [] X.env))=true:=by
  unfold methodCallForm
  rw [Ii h2]
  simpa [nr,lG] using h3
 rw [arm_eval_Call,Do h1]
 refine ac (thn h fun ov s1 h1=>ac (dS ?_))
 unfold methodCall calleeOf
 rw [few,if_pos rfl]
 refine ac (bp (thn (h1 _) fun fx s2 h2=>?_))
 have hp:methodCallPos true o X.env apos cpos=pure cpos:=by unfold methodCallPos;rw [h4];rfl
 rw [hp]
 exact ac (ah h2)
theorem an4 {l:List MI} (hl:∀ mi∈l,Cls X.K mi.C/\Ct X.K mi.C m mi.i.f/\Eg X mi.i) (ho:QE X o do') (h1:Ci o=true) (h4:(apos.endLine==cpos.line)=true) :
  QE X (.Call (.Attribute o m apos) [] [] cpos) (An m 0 l do' Af):=by
 intro Ex mt pins s σ H Q I h
 refine J6 (es:=[]) h1 rfl (by decide) h4 (thn (ho Ex mt pins s σ H _ I h) fun u s1 ⟨x,H1,I1,rx,a,dx,fs,mi,ex,hm,ea,hf,hn,q⟩ pl=>?_)
 subst ex
 obtain rfl:u=aM a:=rx
 obtain⟨c,k,F⟩:=hl mi hm
 refine Jt I1 ea c k hf ?_
 exact gu (first:=[.ref a]) I1.kIn k.kp (Fn (us:=[.ref a]) (vs:=[.ref a]) F (by omega) mt I1 (.cons rfl .nil) q)
theorem ba2 {l:List MI} {e:Expr} (hl:∀ mi∈l,Cls X.K mi.C/\Ct X.K mi.C m mi.i.f/\Eg X mi.i) (ho:QE X o do') (ha:QA X (e::es) r) (h1:Ci o=true) (h2:(e::es).all noStar=true) (h3:(e::es).length<30) (h4:(apos.endLine==cpos.line)=true) :
  QE X (.Call (.Attribute o m apos) (e::es) [] cpos) (An m (es.length+1) l do' r):=by
 intro Ex mt pins s σ H Q I h
 refine J6 h1 h2 h3 h4 (thn (ho Ex mt pins s σ H _ I h) fun u s1 ⟨x,H1,I1,rx,a,dx,fs,mi,ex,hm,ea,hf,hn,q⟩ pl=>?_)
 subst ex
 obtain rfl:u=aM a:=rx
 obtain⟨c,k,F⟩:=hl mi hm
 refine Jt I1 ea c k hf ?_
 have hs:=bF▸h2
 rw [aw] at hs
 refine dQ (first:=[.ref a]) (h₀:=X.base) I.ok.mod.kin k.kp (thn (ha Ex mt cpos pins s1 σ H1 _ I1 q) fun us s2 ⟨vs,H2,I2,r2,q2⟩=>⟨I2.kIn,?_⟩) (As hs.1 es X.env) (Ba hs.2 X.env cpos)
 exact Fn (us:=.ref a::us) (vs:=.ref a::vs) F (by omega) mt I2 (.cons rfl r2) q2
theorem a93 {C:Addr} {i:FI} {e:Expr} {x:Str} {p:Pos} (ho:QE X (.Name x p) (dC (.ref C))) (S:Yk X.K C i.f) (F:Eg X i) (hl:(e::es).length<=i.ps.length/\i.ps.length<=(e::es).length+i.dfs.length) (ha:QA X (e::es) r) (h1:Ci (.Name x p)=true) (h2:(e::es).all noStar=true) (h3:(e::es).length<30) (h4:(apos.endLine==cpos.line)=true) :
  QE X (.Call (.Attribute (.Name x p) "__init__" apos) (e::es) [] cpos) (dFn (spE i.sp (i.dfs.drop ((e::es).length+i.dfs.length - i.ps.length))) r):=by
 intro Ex mt pins s σ H Q I h
 refine J6 h1 h2 h3 h4 (thn (ho Ex mt pins s σ H (fun y H1=>y=.ref C/\H1=H) I ⟨rfl,rfl⟩) fun u s1 ⟨y,H1,I1,rx,ey,eH⟩ pl=>?_)
 subst ey eH
 obtain rfl:u=aM C:=rx
 refine PySem.W.method_cls I1.kIn S.ga (PySem.W.cls_value I1.kIn S.rd S.fc S.hh ?_)
 have I2:=I1.tok (s1.toks+1)
 have hs:=bF▸h2
 rw [aw] at hs
 refine dQ (first:=[]) (h₀:=X.base) I.ok.mod.kin F.kp (thn (ha Ex mt cpos pins _ σ _ _ I2 h) fun us s2 ⟨vs,H2,I3,r2,q2⟩=>⟨I3.kIn,?_⟩) (As hs.1 es X.env) (Ba hs.2 X.env cpos)
 exact Fn (us:=us) (vs:=vs) F (by omega) mt I3 r2 q2
noncomputable def Ig:DE:=fun _ H Q _=>∀ p,H p=none->Q (.ref p) (upd H p (.dK []))\/Q (.ref p) (upd H p (.dT []))
theorem an2:QE X (.Dict [] [] pos) Ig:=fun Ex mt pins s σ H Q I h=>by
 have fr:=I.hok.fresh (ae s.heap.objs.size)
 rcases h _ fr with q|q
 ·exact wpAny_Dict_empty ⟨.ref _,_,I.laid (a:=s.heap.objs.size) (o:=.dK []) (t':=s.toks) (fun _ _ q=>af _ q) (ae _) (Yy s.heap I.big),rfl,q⟩
 ·exact wpAny_Dict_empty ⟨.ref _,_,I.laid (a:=s.heap.objs.size) (o:=.dT []) (t':=s.toks) (fun _ _ q=>af _ q) (ae _) (Y0 s.heap I.big),rfl,q⟩
theorem Wv {a:Expr} {da:DE} {p2 pos2:Pos} (hc:X.calm=true) (hg:Gl X "sorted") (hm:X.mg "sorted" = none) (hg2:Gl X "set") (hm2:X.mg "set" = none) (ha:QE X a da) (hs:noStar a=true) :
  QE X (.Call (.Name "sorted" p) [.Call (.Name "set" p2) [a] [] pos2] [] pos) (dUn (G4 X.K) da):=by
 intro Ex mt pins s σ H Q I h
 refine bI (Dk I hg hm Es (h_ (fF ?_) rfl rfl) (by decide) (by decide))
 refine bI (Dk I hg2 hm2 PyProof.Rows.boot_set (bX ?_ (As hs [] X.env) rfl) (by decide) (by decide))
 rw [As hs]
 show aG _ _ (spliced ((false,eval a X.env)::jv pos2 (cV [] X.env))) _ _ s
 refine fF (thn (ha Ex mt pins s σ H _ I h) fun u s1 ⟨x,H1,I1,r1,q1⟩=>fU ?_)
 exact thn (ae7 hc I1 r1 q1) fun v s2 q=>fU q
theorem K4:cN "reversed" = some (.type "reversed"):=by decide +kernel
theorem Q3 {a:Expr} {da:DE} {p2 pos2:Pos} (hc:X.calm=true) (hg:Gl X "list") (hm:X.mg "list" = none) (hg2:Gl X "reversed") (hm2:X.mg "reversed" = none) (ha:QE X a da) (hs:noStar a=true) :
  QE X (.Call (.Name "list" p) [.Call (.Name "reversed" p2) [a] [] pos2] [] pos) (dUn (Ka X.K) da):=by
 intro Ex mt pins s σ H Q I h
 refine bI (Dk I hg hm gT (bX (fF ?_) rfl rfl) (by decide) (by decide))
 refine bI (Dk I hg2 hm2 K4 (bX ?_ (As hs [] X.env) rfl) (by decide) (by decide))
 rw [As hs]
 show aG _ _ (spliced ((false,eval a X.env)::jv pos2 (cV [] X.env))) _ _ s
 refine fF (thn (ha Ex mt pins s σ H _ I h) fun u s1 ⟨x,H1,I1,r1,q1⟩=>fU ?_)
 cases x with
 | ref b=>
  cases r1
  obtain⟨ys,hq,q⟩:=q1
  exact thn (Zs hc I1 hq q) fun v s2 q=>fU q
 | _=>exact (show False from q1).elim
end
end L2
set_option maxHeartbeats 1000000
namespace L2
open PySem PySem.Spec PyProof.Rows
noncomputable def Tq (K:aa) (m:Str) (l:List MI) (a o:DE):DE:=fun σ H Q E=>Aa a Af σ H (fun xs H1=>o σ H1 (fun y H2=>∃ (p b dx:Addr) (fs:List (Str×V)) (mi:MI) (zs:List Str) (kf:Str->Int),xs=[.ref p]/\(SqL K H2 p (zs.map V.str) \/ ∃ kvs,Rd H2 p (.dK kvs)/\kvs.map (·.1)=zs.map eJ)/\zs.Nodup/\zs.length<64/\y=.ref b/\mi∈l/\H2 b=some (.ins mi.C dx fs)/\fs.lookup m=none /\
 (∀ z∈zs,∀ H3,Same H2 H3->spE mi.i.sp [] [.ref b,.str z] H3 (fun v H4=>∃ q,v=.ref q/\Same H3 H4/\H4 q=some (.tup [.int (kf z),.str z])) (fun _ _=>False)) /\ ∀ H3 D,Same H2 H3->H2 D=none->H3 D=some (.lst ((Ak (ltK kf) zs).map V.str))->Q (.ref D) H3) E) E
section
variable {X:Cx} {a o:Expr} {da do':DE} {p ap kp pos:Pos} {m:Str}
theorem an5 {l:List MI} (hc:X.calm=true) (hl:∀ mi∈l,ah4 X m mi) (hg:Gl X "sorted") (hm:X.mg "sorted" = none) (ha:QE X a da) (ho:QE X o do') (hs:noStar a=true) (h1:Ci o=true):QE X (.Call (.Name "sorted" p) [a] [⟨some "key", .Attribute o m ap,kp⟩] pos) (Tq X.K m l da do'):=by
 intro Ex mt pins s σ H Q I h
 have hA:QA X [a] (Aa da Af):=Iy ha Nh hs
 refine bI (Dk I hg hm Es ?_ (by decide) (by decide))
 refine callWith_builtin_kwB (first:=[]) ?_ rfl ?_
 ·rw [As hs [] X.env];rfl
 have e0:cV [a] X.env=[(false,eval a X.env)]:=by rw [As hs [] X.env];rfl
 have hh:=hA Ex mt pos pins s σ H _ I h
 rw [e0] at hh ⊢
 refine ac (thn hh fun us s1 ⟨vs,H1,I1,r1,q1⟩=>ac (ah (bp ?_)))
 show aG (model X.prog X.w) X.A (do
  let l <- evalAll [do let v <- eval (.Attribute o m ap) X.env;lH pos;pure v]
  let ps <- (pure us:Sem (List Value))
  pure (⟨ps,[("key" : Str)].zip l⟩:Args)) _ _ s1
 refine ac (wpAny_evalAll_cons (ac (Ti (Do h1 _ X.env _) (thn (ho Ex mt pins s1 σ H1 _ I1 q1) fun ov s2 ⟨y,H2,I2,ry,q2⟩=>?_))))
 obtain⟨pp,b,dx,fs,mi,zs,kf,rfl,hp,nd,h64,rfl,hm,eb,hf,hk,q⟩:=q2
 cases ry
 obtain⟨u,rfl,ru⟩:=Dq r1
 cases ru
 have K:=hl mi hm
 refine V0 I2 eb K.c K.k K.sg K.tk K.cn hf fun s3 g3 l3 I3=>?_
 refine ac (dS (ah (wpAny_evalAll_nil (ac (ah (ah ?_))))))
 exact ap7 hc K I3 g3 (I2.fpOk (ae _) (I2.hok.fresh (ae _))) hp nd h64 hk q
end
end L2
set_option maxHeartbeats 4000000
namespace L2
open PySem PySem.Spec PyProof.Rows
noncomputable def ay5 (lo st:Int) (n:Nat):It:=⟨fun i _=>i<n,fun i H x H'=>H'=H/\x=.int (lo+(i:Int) * st),fun i _=>n<=i⟩
theorem Xc {P:aK} {w:bt} {K:aa} {tg:Expr} (it:Addr) (lo st:Int) (n:Nat):K3 P w K tg (ay5 lo st n) [it] it (fun i h=>k_ h it (lo+(i:Nat) * st) ((n:Int) - (i:Nat)) st) where
 mem:=List.mem_singleton.mpr rfl
 obj:=fun i h q b hb=>by
  obtain rfl:=List.mem_singleton.mp hb
  exact⟨_,q,fun v z=>by cases (show Data.fields _=Data.cell v from z)⟩
 keep:=fun i h h' q k=>k it (List.mem_singleton.mpr rfl) _ q
 item:=by
  intro X hP hw hK hc i pins s σ H E I hf q go
  subst hP hw hK
  obtain⟨g0,g1,_,g3,g4,g5⟩:=hf it (List.mem_singleton.mpr rfl)
  refine bE (ae _) ((Walks.range (prog:=X.prog) (w:=X.w) (I.ok.hd hc) it lo st n).item i s _ _ go q fun v h' tk hv q' kk htk=>?_)
  obtain⟨t,rfl⟩:=hv
  have I1:Inv X pins σ H { s with heap:=h',toks:=tk }:=I.turned (fun b o nb e=>kk b o (fun z=>nb (List.mem_singleton.mp z)) e) g0 g1 g3 g4 g5
  exact⟨_,rfl,Ju (s:={ s with heap:=h',toks:=tk }) (n := "range_iterator") q' rfl rfl (by decide) ⟨.int (lo+(i:Int) * st),H,I1,⟨t,rfl⟩,⟨rfl,rfl⟩,q',fun b hb=>(hf b hb).1⟩⟩
 done:=by
  intro X hP hw hK hc i pins s σ H E I hf q go
  subst hP hw hK
  obtain⟨g0,g1,_,g3,g4,g5⟩:=hf it (List.mem_singleton.mpr rfl)
  exact j9 (I.ok.hd hc) q (by have:n<=i:=go;omega) fun h' eb=>⟨rfl,I.turned (t':=s.toks) (fun b o nb e=>eb b o nb e) g0 g1 g3 g4 g5⟩
 self:=fun _ _ _ _ _ q h=>j7 q h
section
variable {X:Cx} {tg:Expr}
theorem ap8 {pins:List (Addr×Obj)} {σ:St} {H:Hp} {s:ai} {R:It->Hp->Prop} {E:Value->ai->Prop} {lo hi st:Int} {t u v:Tok} {tk:Nat} (I:Inv X pins σ H s) (htk:s.toks<=tk) (sm:k9 lo hi st=true)
  (q:R (ay5 lo st (cz lo hi st).toNat) H):aG (model X.prog X.w) X.A (mT (.ref s.heap.objs.size)) (PIE X pins σ tg R) E { s with heap:=s.heap.push { cls:=.type "range", data:=.fields #[.int lo t,.int hi u,.int st v] },toks:=tk }:=by
 refine mf (IsRange.new ..) sm ?_
 have I1:Inv X pins σ H { s with heap:=s.heap.push { cls:=.type "range", data:=.fields #[.int lo t,.int hi u,.int st v] },toks:=tk }:=I.kept fun b o e=>af _ e
 generalize s.heap.push { cls:=.type "range", data:=.fields #[.int lo t,.int hi u,.int st v] }=h1 at I1 ⊢
 refine⟨h1.objs.size,[h1.objs.size],_,_,H,rfl,I1.kept (t':=tk) fun b o e=>af _ e,Xc _ lo st (cz lo hi st).toNat,?_,fun b hb=>?_,q⟩
 ·have e:lo+((0:Nat):Int) * st=lo:=by rw [Int.natCast_zero,Int.zero_mul,Int.add_zero]
  have f:(((cz lo hi st).toNat:Nat):Int) - ((0:Nat):Int)=cz lo hi st:=by
   rw [<- rangeSize_toNat,Int.natCast_zero,Int.sub_zero]
  show k_ _ _ (lo+((0:Nat):Int) * st) ((((cz lo hi st).toNat:Nat):Int) - ((0:Nat):Int)) st
  rw [e,f]
  exact aq _ rfl
 ·obtain rfl:=List.mem_singleton.mp hb
  exact I1.fpOk (ae _) (I1.hok.fresh (ae _))
end
noncomputable def QI (X:Cx) (tg e:Expr) (t:DI):Prop:=∀ Ex,Meets X Ex->PI X tg e (fun σ H R=>t σ H R (Ex σ))
noncomputable def iNo:DI:=fun _ _ _ _=>False
noncomputable def onD (p:Addr) (H:Hp) (R:Obj->List (Key×V)->Hp->Prop):Prop:=(∃ kvs,H p=some (.dK kvs) /\ ∀ o,R o kvs (upd H p (.frz o (.dK kvs)))) \/ ∃ o kvs,H p=some (.frz o (.dK kvs))/\R o kvs H
theorem aa2 {X:Cx} {pins:List (Addr×Obj)} {σ:St} {H:Hp} {s:ai} {p:Addr} {R:Obj->List (Key×V)->Hp->Prop} (I:Inv X pins σ H s) (h:onD p H R):∃ o kvs H',Inv X pins σ H' s/\H' p=some (.frz o (.dK kvs))/\R o kvs H':=by
 rcases h with ⟨kvs,e,q⟩|⟨o,kvs,e,q⟩
 ·obtain⟨o,ep,_,_,I'⟩:=I.froze e
  exact⟨o,kvs,_,I',Ad,q o⟩
 ·exact⟨o,kvs,H,I,e,q⟩
noncomputable def Di (K:aa) (a:DE):DI:=fun σ H R E=>a σ H (fun x H1=>match x with
 | .str z=>R (Its z) H1
 | .ref p=>((∃ xs,SqL K H1 p xs)/\R (Itl K p) H1)\/((∃ xs,SqT K H1 p xs)/\R (Itt K p) H1)\/onD p H1 fun o kvs H2=>R (Itd p o kvs) H2
 | _=>False) E
noncomputable def Qh (t:DA):DI:=fun σ H R E=>t σ H (fun vs H1=>match vs with
 | [.int j]=>(-(2 ^ 62)<=j/\j<2 ^ 62)/\R (Itr 0 j.toNat) H1
 | [.int i,.int j]=>(-(2 ^ 62)<=i/\i<2 ^ 62 /\ -(2 ^ 62)<=j/\j<2 ^ 62)/\R (Itr i (j - i).toNat) H1
 | [.int i,.int j,.int k]=>(k9 i j k=true/\1<=k/\k<=1000)/\R (ay5 i k (cz i j k).toNat) H1
 | _=>False) E
noncomputable def iEn (K:aa) (t:DA):DI:=fun σ H R E=>t σ H (fun vs H1=>match vs with
 | [.ref a]=>((∃ xs,SqL K H1 a xs)/\R (Ite K a) H1)\/onD a H1 fun o kvs H2=>R (ay4 a o kvs) H2
 | _=>False) E
section
variable {X:Cx} {tg e a b:Expr} {da:DE} {r:DA} {p pos:Pos}
theorem au6:QI X tg e iNo:=fun _ _ _ _ _ _ _ _ h=>h.elim
theorem ac3 (ha:QE X e da):QI X tg e (Di X.K da):=by
 intro Ex mt pins s σ H R I h
 refine thn (ha Ex mt pins s σ H _ I h) fun v s1 ⟨x,H1,I1,r1,q1⟩=>?_
 cases x with
 | str z=>
  obtain⟨t,rfl⟩:=r1
  refine wpAny_pyIter_strU ?_
  refine⟨s1.heap.objs.size,[s1.heap.objs.size],_,_,H1,rfl,I1.kept (t':=s1.toks) fun b o e=>af _ e,ag3 s1.heap.objs.size z t (strIterType z) (by unfold strIterType;split <;> simp),⟨_,aq _ rfl,rfl,rfl⟩,fun b hb=>?_,q1⟩
  have e:b=s1.heap.objs.size:=by simpa using hb
  subst e
  exact I1.fpOk (ae _) (I1.hok.fresh (ae _))
 | ref a=>
  cases r1
  rcases q1 with ⟨⟨xs,hq⟩,q⟩|⟨⟨xs,hq⟩,q⟩|q
  ·obtain⟨its,rv,p,hz⟩:=I1.list hq
   refine wpAny_pyIter_list p.isList ?_
   refine⟨s1.heap.objs.size,[s1.heap.objs.size],_,_,H1,rfl,I1.kept (t':=s1.toks) fun b o e=>af _ e,Xb a _,⟨_,aq _ rfl,rfl,rfl⟩,fun b hb=>?_,q⟩
   have e:b=s1.heap.objs.size:=by simpa using hb
   subst e
   exact I1.fpOk (ae _) (I1.hok.fresh (ae _))
  ·obtain⟨its,rv,p,hz⟩:=I1.tuple hq
   refine wpAny_pyIter_tuple (show s1.heap.IsTuple a its.toArray from p) ?_
   refine⟨s1.heap.objs.size,[s1.heap.objs.size],_,_,H1,rfl,I1.kept (t':=s1.toks) fun b o e=>af _ e,Sx a _,⟨_,aq _ rfl,rfl,rfl⟩,fun b hb=>?_,q⟩
   have e:b=s1.heap.objs.size:=by simpa using hb
   subst e
   exact I1.fpOk (ae _) (I1.hok.fresh (ae _))
  ·obtain⟨o,kvs,H2,I2,e,q⟩:=aa2 I1 q
   exact ai3 I2 e q
 | _=>exact (show False from q1).elim
variable {es:List Expr}
theorem ac2 (hg:Gl X "range") (hm:X.mg "range" = none) (ha:QA X (a::es) r) (hs:(a::es).all noStar=true):QI X tg (.Call (.Name "range" p) (a::es) [] pos) (Qh r):=by
 intro Ex mt pins s σ H R I h
 have h2:=bF▸hs
 rw [aw] at h2
 refine Call_ (Dk I hg hm boot_range (bX (thn (ha Ex mt pos pins s σ H _ I h) fun us s1 ⟨vs,H1,I1,r1,q1⟩=>?_) (As h2.1 es X.env) (Ba h2.2 X.env pos)))
 dsimp only at q1
 split at q1
 ·obtain⟨⟨h1,h2⟩,q⟩:=q1
  obtain⟨u,rfl,t,rfl⟩:=Dq r1
  exact call_range_1 (O7 I1 (by first|exact ae _|exact bi _ _|omega|(dsimp only;omega)) (by omega) (by omega) h1 h2 (by simpa using q))
 ·obtain⟨⟨h1,h2,h3,h4⟩,q⟩:=q1
  obtain⟨u,v,rfl,⟨t,rfl⟩,⟨t',rfl⟩⟩:=ax7 r1
  exact call_range_2 (O7 I1 (by first|exact ae _|exact bi _ _|omega|(dsimp only;omega)) h1 h2 h3 h4 q)
 ·obtain⟨⟨h1,h2,h3⟩,q⟩:=q1
  cases r1 with
  | cons ra rr=>cases rr with
   | cons rb rr=>cases rr with
    | cons rc rr=>
     cases rr
     obtain⟨t,rfl⟩:=ra
     obtain⟨t',rfl⟩:=rb
     obtain⟨t2,rfl⟩:=rc
     exact call_range_3 (by omega) (ap8 I1 (by first|exact ae _|exact bi _ _|omega|(dsimp only;omega)) h1 q) (.inl (jZ (by omega)))
 ·exact q1.elim
theorem an7 {elts:List Expr} {kt:Nat} {pt:Pos} (hg:Gl X "enumerate") (hm:X.mg "enumerate" = none) (ha:QA X (a::es) r) (hs:(a::es).all noStar=true):QI X (.Tuple elts kt pt) (.Call (.Name "enumerate" p) (a::es) [] pos) (iEn X.K r):=by
 intro Ex mt pins s σ H R I h
 have hh:=bF▸hs
 rw [aw] at hh
 refine Call_ (Dk I hg hm boot_enumerate (bX (thn (ha Ex mt pos pins s σ H _ I h) fun us s1 ⟨vs,H1,I1,r1,q1⟩=>?_) (As hh.1 es X.env) (Ba hh.2 X.env pos)))
 dsimp only at q1
 split at q1
 ·rename_i l
  obtain⟨u,rfl,ru⟩:=Dq r1
  cases ru
  rcases q1 with ⟨⟨xs,q1⟩,q⟩|q
  case inr=>
   obtain⟨o,kvs,H2,I2,e,q⟩:=aa2 I1 q
   exact Y2 I2 e q
  obtain⟨its1,t1,p1,z1⟩:=I1.list q1
  refine call_enumerate_list p1.isList fun h' he hit hsz hk=>?_
  refine g8 he ?_
  refine⟨_,_,_,_,H1,rfl,I1.kept (t':=s1.toks) hk,Xa (jN _),⟨⟨_,he⟩,hit⟩,fun b hb=>?_,q⟩
  have hb:b=s1.heap.objs.size+1\/b=s1.heap.objs.size:=by simpa using hb
  have le:s1.heap.objs.size<=b:=by
   rcases hb with e|e
   ·rw [e];exact bi _ 1
   ·rw [e];exact ae _
  exact I1.fpOk le (I1.hok.fresh le)
 ·exact q1.elim
noncomputable def gNo:DG:=fun _ _ _ _=>False
noncomputable def gdS:List DG->List V->St->Hp->(St->Hp->Prop)->Prop
 | [],[],σ,H,Q=>Q σ H
 | g::gs,v::vs,σ,H,Q=>g v σ H fun σ' H'=>gdS gs vs σ' H' Q
 | _,_,_,_,_=>False
noncomputable def gdT (K:aa) (n:Nat) (gs:List DG):DG:=fun v σ H Q=>match v with
 | .ref a=>∃ xs,SqT K H a xs/\xs.length=n/\gdS gs xs σ H Q
 | _=>False
theorem Oy:PG X tg gNo:=fun _ _ _ _ _ _ _ _ _ h=>h.elim
theorem bp3:PGs X [] (gdS []):=by
 intro pins s σ H vs us Q I r h
 cases vs with
 | nil=>exact al9 pins s σ H [] us Q I r ⟨rfl,h⟩
 | cons v vs=>exact (show False from h).elim
theorem bp2 {g:DG} {gs:List DG} {ts:List Expr} (h1:PG X tg g) (h2:PGs X ts (gdS gs)) (hs:(dE (tg::ts) X.env).map (·.2)=mx tg X.env::(dE ts X.env).map (·.2)):PGs X (tg::ts) (gdS (g::gs)):=by
 intro pins s σ H vs us Q I r h
 cases vs with
 | nil=>exact (show False from h).elim
 | cons v vs=>exact aa6 h1 h2 hs pins s σ H (v::vs) us Q I r ⟨v,vs,rfl,h⟩
theorem b25 {ts:List Expr} {k n:Nat} {gs:List DG} (hc:X.calm=true) (h:PGs X ts (gdS gs)) (hn:(dE ts X.env).length=n) (hst:(dE ts X.env).findIdx? (·.1)=none):PG X (.Tuple ts k pos) (gdT X.K n gs):=by
 intro pins s σ H v u Q I r hw
 cases v with
 | ref a=>exact a80 hc h hn hst pins s σ H _ u Q I r (let ⟨xs,h1,h2,h3⟩:=hw;⟨a,xs,rfl,h1,h2,h3⟩)
 | _=>exact (show False from hw).elim
end
end L2
set_option maxHeartbeats 1000000
namespace L2
open PySem PySem.Spec PyProof.Rows
noncomputable def Nx (K:aa) (a:Addr) (n:Nat):It:=
 ⟨fun i H=>i<n /\ ∃ xs,SqL K H a xs/\xs.length=n,fun i H x H'=>H'=H /\ ∀ xs,SqL K H a xs->xs[n - 1 - i]? = some x,fun i _=>n<=i⟩
theorem ag2 {P:aK} {w:bt} {K:aa} {tg:Expr} (a it:Addr) (n:Nat):K3 P w K tg (Nx K a n) [it] it (fun i h=>i<=n/\h.IsRevIter it a ((n:Int) - 1 - (i:Int))) where
 mem:=by simp
 obj:=fun i h st b hb=>by
  have e:b=it:=by simpa using hb
  subst e
  obtain⟨_,o,e,c,d⟩:=st
  exact⟨o,e,fun v z=>by rw [d] at z;cases z⟩
 keep:=fun i h h' st k=>⟨st.1,by
  obtain⟨_,o,e,c,d⟩:=st
  exact⟨o,k it (by simp) o e,c,d⟩⟩
 item:=by
  intro X hP hw hK hc i pins s σ H E I hf st hg
  subst hP hw hK
  obtain⟨hi,xs,hq,hl⟩:=hg
  obtain⟨its,rv,p,hz⟩:=I.list hq
  have hx:xs[n - 1 - i]? = some (xs[n - 1 - i]'(by omega)):=aj _
  obtain⟨u,hu,ru⟩:=rv.get hx
  obtain⟨f0,f1,f2,f3,f4,f5⟩:=hf it (by simp)
  have e0:(n:Int) - 1 - (i:Int)=((n - 1 - i:Nat):Int):=by omega
  have st2:=st.2
  rw [e0] at st2
  refine wpAny_pyNext_rev_item st2 p.isList (x:=u) (by simpa using hu) fun h' st' sb=>?_
  have I1:Inv X pins σ H { s with heap:=h' }:=I.turned (t':=s.toks) (fun b o hb e=>(sb.2 b hb).trans e) f0 f1 f3 f4 f5
  obtain⟨o,e,c,d⟩:=id st'
  refine⟨u,rfl,Ju (s:={ s with heap:=h' }) e c d (by decide) ⟨_,H,I1,ru,⟨rfl,fun ys hy=>by rw [I.list_inj hy hq];exact hx⟩,⟨hi,?_⟩,fun b hb=>(hf b hb).1⟩⟩
  rw [show (n:Int) - 1 - ((i+1:Nat):Int)=((n - 1 - i:Nat):Int) - 1 by omega]
  exact st'
 done:=by
  intro X hP hw hK hc i pins s σ H E I hf st hg
  subst hP hw hK
  obtain⟨f0,f1,f2,f3,f4,f5⟩:=hf it (by simp)
  have hg:n<=i:=hg
  have st2:=st.2
  rw [show (n:Int) - 1 - (i:Int) = -1 by have:=st.1;omega] at st2
  exact wpAny_pyNext_rev_end (I.ok.hd hc) st2 fun h' eb=>⟨rfl,I.turned (t':=s.toks) (fun b o hb e=>eb b o hb e) f0 f1 f3 f4 f5⟩
 self:=fun _ _ _ _ _ st h=>iy st.2 h
noncomputable def aj3 (K:aa) (a:DE):DI:=fun σ H R E=>a σ H (fun x H1=>match x with
 | .ref p=>∃ xs,SqL K H1 p xs/\R (Nx K p xs.length) H1
 | _=>False) E
theorem Ym:cN "reversed" = some (.type "reversed"):=by decide +kernel
theorem ba5 {X:Cx} {tg a:Expr} {da:DE} {p pos:Pos} (hg:Gl X "reversed") (hm:X.mg "reversed" = none) (ha:QE X a da) (hs:noStar a=true):QI X tg (.Call (.Name "reversed" p) [a] [] pos) (aj3 X.K da):=by
 intro Ex mt pins s σ H R I h
 have hA:QA X [a] (Aa da Af):=Iy ha Nh hs
 refine Call_ (Dk I hg hm Ym (bX (thn (hA Ex mt pos pins s σ H (fun vs H1=>∃ x,vs=[x]/\(match x with | .ref p=>∃ xs,SqL X.K H1 p xs/\R (Nx X.K p xs.length) H1|_=>False)) I ?_) fun us s1 ⟨vs,H1,I1,r1,q1⟩=>?_) (As hs [] X.env) rfl))
 ·have h2:da σ H (fun x H1=>∃ y,[x]=[y]/\(match y with | .ref p=>∃ xs,SqL X.K H1 p xs/\R (Nx X.K p xs.length) H1|_=>False)) (Ex σ):=by
   have e:(fun (x:V) (H1:Hp)=>∃ y,[x]=[y]/\(match y with | .ref p=>∃ xs,SqL X.K H1 p xs/\R (Nx X.K p xs.length) H1|_=>False))=fun x H1=>(match x with | .ref p=>∃ xs,SqL X.K H1 p xs/\R (Nx X.K p xs.length) H1|_=>False):=by
    funext x H1
    apply propext
    constructor
    ·rintro⟨y,e,h⟩
     cases e
     exact h
    ·exact fun h=>⟨x,rfl,h⟩
   rw [e]
   exact h
  exact h2
 ·obtain⟨x,rfl,q⟩:=q1
  obtain⟨u,rfl,ru⟩:=Dq r1
  cases x with
  | ref l=>
   cases ru
   obtain⟨xs,hq,q⟩:=q
   obtain⟨its,rv,pl,hz⟩:=I1.list hq
   refine lV pl.isList ?_
   have e:((its.toArray.size:Nat):Int) - 1=(xs.length:Int) - 1 - ((0:Nat):Int):=by rw [am,rv.length];omega
   rw [e]
   have st:(s1.heap.push (nj l ((xs.length:Int) - 1 - ((0:Nat):Int)))).IsRevIter s1.heap.objs.size l ((xs.length:Int) - 1 - ((0:Nat):Int)):=⟨_,aq _ rfl,rfl,rfl⟩
   refine iy st ?_
   refine⟨s1.heap.objs.size,[s1.heap.objs.size],_,_,H1,rfl,I1.kept (t':=s1.toks) fun b o e=>af _ e,ag2 l s1.heap.objs.size xs.length,⟨bo _,st⟩,fun b hb=>?_,q⟩
   have e:b=s1.heap.objs.size:=by simpa using hb
   subst e
   exact I1.fpOk (ae _) (I1.hok.fresh (ae _))
  | _=>exact (show False from q).elim
end L2
set_option maxHeartbeats 4000000
namespace L2
open PySem PySem.Spec PyProof.Rows
noncomputable def Cp (cs:List (Str×Addr)):List (Str×cF)->List (Str×Addr)->List (Str×Addr)
 | [],acc=>acc
 | (n,k)::r,acc=>if k==.free then Cp cs r ((n,(cs.lookup n).getD 0)::acc) else Cp cs r acc
theorem K6 {scope:Scope} {env:Env} (h:∀ y∈scope.names,y.2=.free -> ∃ c,env.cells.lookup y.1=some c):closureFor scope env=pure (Cp env.cells scope.names []):=by
 unfold closureFor
 generalize scope.names=names at h
 suffices ∀ acc,(forIn names acc fun (x:Str×cF) cs=>do
   if (x.2==.free)=true then do
    let c <- cellOf env x.1
    pure (fO ((x.1,c)::cs))
   else pure (fO cs):Sem (List (Str×Addr)))=pure (Cp env.cells names acc) by
  have:=this []
  simp only [bind_pure]
  exact this
 induction names with
 | nil=>intro acc;rfl
 | cons y r ih=>
  intro acc
  obtain⟨n,k⟩:=y
  rw [List.forIn_cons]
  unfold Cp
  by_cases e:(k==eX)=true
  ·obtain⟨c,hc⟩:=h (n,k) (by simp) (cv e)
   have ec:cellOf env n=pure c:=by
    unfold cellOf
    rw [show env.cells.lookup n=some c from hc]
   simp only [e,if_true,ec,pure_bind]
   rw [ih (fun y hy=>h y (aJ _ hy))]
   rw [show env.cells.lookup n=some c from hc]
   rfl
  ·have e':(k==eX)=false:=by simpa using e
   simp only [e',cf,if_false,pure_bind]
   rw [ih (fun y hy=>h y (aJ _ hy))]
theorem G9 {cs:List (Str×Addr)}:∀ {names:List (Str×cF)} {acc:List (Str×Addr)} {p:Str×Addr},p∈Cp cs names acc->p∈acc\/((p.1,eX)∈names/\p.2=(cs.lookup p.1).getD 0)
 | [],_,_,h=>.inl h
 | (n,k)::r,acc,p,h=>by
  unfold Cp at h
  by_cases e:(k==eX)=true
  ·rw [if_pos e] at h
   rcases G9 h with h|⟨h1,h2⟩
   ·rcases List.mem_cons.mp h with h|h
    ·subst h
     exact .inr ⟨by rw [cv e];simp,rfl⟩
    ·exact .inl h
   ·exact .inr ⟨aJ _ h1,h2⟩
  ·rw [if_neg e] at h
   rcases G9 h with h|⟨h1,h2⟩
   ·exact .inl h
   ·exact .inr ⟨aJ _ h1,h2⟩
theorem G8 {cs:List (Str×Addr)}:∀ {names:List (Str×cF)} {acc:List (Str×Addr)} {p:Str×Addr},p∈acc->p∈Cp cs names acc
 | [],_,_,h=>h
 | (n,k)::r,acc,p,h=>by
  unfold Cp
  split
  ·exact G8 (aJ _ h)
  ·exact G8 h
theorem Lq {cs:List (Str×Addr)}:∀ {names:List (Str×cF)} {acc:List (Str×Addr)} {n:Str},(n,eX)∈names->n∈(Cp cs names acc).map (·.1)
 | [],_,_,h=>by cases h
 | (m,k)::r,acc,n,h=>by
  unfold Cp
  rcases List.mem_cons.mp h with e|h
  ·cases e
   rw [if_pos (show (eX==eX)=true from rfl)]
   exact List.mem_map.mpr ⟨_,G8 (bx),rfl⟩
  ·split <;> exact Lq h
noncomputable def O8 (sc:List (Str×cF)) (names:List (Str×cF)):List (Str×cF):=names.map fun (n,k)=>if (k==.free&&sc.lookup n==some .cell) then (n,.cell) else (n,k)
noncomputable def Op (names:List (Str×cF)):List Str:=(names.filter fun y=>(y.2==.local) && !(y.1==(".0" : Str))).map (·.1)
noncomputable def Qa (names:List (Str×cF)):List Str:=(names.filter fun y=>y.2==.free).map (·.1)
noncomputable def cfV (o:Option cF):Bool:=o==some .cell||o==some .free
noncomputable def Cq (G:Sg) (names:List (Str×cF)):Sg:={ G with N:=Op names++Qa names,sc:=O8 G.sc names,top:=false }
noncomputable def Fd (G:Sg) (names:List (Str×cF)):List (Option Nat):=(Op names).map (fun _=>none)++(Qa names).map (fun x=>Ca G.N x 0)
noncomputable def Et (G:Sg) (sc:Scope):Bool:=
 (sc.names.all fun y=>!(y.2==.cell))&&(sc.names.all fun y=>!(y.2==.local)||(sc.names.lookup y.1==some .local))&&(sc.kind==.function) &&
 decide (Op sc.names++Qa sc.names).Nodup&&((Qa sc.names).all fun x=>(Ca G.N x 0).isSome&&cfV (G.sc.lookup x)&&cfV ((O8 G.sc sc.names).lookup x)) &&
 ((Op sc.names).all fun x=>(O8 G.sc sc.names).lookup x==some .local)
section
variable {X:Cx} {G:Sg} {sc:Scope}
theorem Gj {o:Option cF} (h:cfV o=true):o=some .cell\/o=some .free:=by
 unfold cfV at h
 rw [d9] at h
 exact h.elim (fun e=>.inl (cv e)) fun e=>.inr (cv e)
theorem Ga (O:GOk X G):(je sc X.env).names=O8 G.sc sc.names:=by
 unfold je O8
 apply dH
 rintro⟨n,k⟩ _
 have e:X.env.kindOf n=G.sc.lookup n:=O.sc n
 dsimp only
 rw [e,O.kind]
 simp
theorem Mz (O:GOk X G) (h:Et G sc=true):Ja X (Cq G sc.names).N (Fd G sc.names) sc (Cp X.env.cells sc.names []):=by
 unfold Et at h
 simp only [aw,cy,jl,decide_eq_true_eq,d9] at h
 obtain⟨⟨⟨⟨⟨h1,h2⟩,h3⟩,h4⟩,h5⟩,h6⟩:=h
 have fr:∀ y∈sc.names,y.2=.free -> ∃ c,X.env.cells.lookup y.1=some c:=fun y hy hf=>by
  refine O.cel y.1 ?_
  rw [O.sc]
  refine Gj (h5 y.1 ?_).1.2
  exact List.mem_map.mpr ⟨y,List.mem_filter.mpr ⟨hy,by rw [hf];rfl⟩,rfl⟩
 have nc:∀ y∈sc.names,y.2≠.cell:=fun y hy e=>by
  have:=h1 y hy
  rw [e] at this
  cases this
 refine⟨K6 fr,nc,cv h3,fun y hy hl=>?_,fun x c hx=>?_,fun x hx=>?_,?_,fun k j x e1 e2=>?_⟩
 ·rcases h2 y hy with z|z
  ·rw [hl] at z;cases z
  ·exact cv z
 ·have hm:=b9 hx
  rcases G9 hm with z|⟨z1,z2⟩
  ·cases z
  ·obtain⟨c',hc'⟩:=fr _ z1 rfl
   have z2':c=(X.env.cells.lookup x).getD 0:=z2
   rw [show X.env.cells.lookup x=some c' from hc'] at z2' ⊢
   rw [z2']
   rfl
 ·have hn:(je sc X.env).names=O8 G.sc sc.names:=Ga O
  have key:∀ kd,(je sc X.env).names.lookup x=some kd->cfV (some kd)=true -> ∃ c,(Cp X.env.cells sc.names []).lookup x=some c:=fun kd hkd hc=>by
   rw [hn] at hkd
   have hm:=b9 hkd
   unfold O8 at hm
   obtain⟨⟨n,k⟩,hy,e⟩:=List.mem_map.mp hm
   dsimp only at e
   have hfree:k=.free/\n=x:=by
    have hkc:=nc _ hy
    by_cases e1:(k==eX&&G.sc.lookup n==some .cell)=true
    ·rw [if_pos e1] at e
     rw [aw] at e1
     exact⟨cv e1.1,congrArg Prod.fst e⟩
    ·rw [if_neg e1] at e
     cases e
     rcases Gj hc with z|z
     ·exact absurd (aU z) hkc
     ·exact⟨aU z,rfl⟩
   obtain⟨rfl,rfl⟩:=hfree
   exact Zx (Lq hy)
  rcases hx with hx|hx
  ·exact key _ hx rfl
  ·exact key _ hx rfl
 ·unfold Fd Cq
  simp
 ·have e1':(Op sc.names++Qa sc.names)[k]? = some x:=e1
  have e2':((Op sc.names).map (fun _=>(none:Option Nat))++(Qa sc.names).map (fun x=>Ca G.N x 0))[k]? = some (some j):=e2
  by_cases hlt:k<(Op sc.names).length
  ·rw [dW (by simpa using hlt),aA] at e2'
   cases q:(Op sc.names)[k]? with
   | none=>rw [q] at e2';cases e2'
   | some z=>rw [q] at e2';cases e2'
  ·rw [cU (by simpa using hlt)] at e1' 
   rw [cU (by simpa using hlt),ag,aA,e1'] at e2'
   have hs:Ca G.N x 0=some j:=aU e2'
   have hx:x∈Qa sc.names:=aY e1'
   obtain⟨⟨_,c1⟩,c2⟩:=h5 x hx
   refine⟨by rw [O.N];exact Ef hs,?_,?_⟩
   ·rw [O.sc];exact Gj c1
   ·rw [Ga O];exact Gj c2
theorem Tn (O:GOk X G) (h:Et G sc=true) (fp:List Addr) (C:Addr) (s:ai) (H:Hp) (xe:Value->ai->Prop) :
  GOk (X.comp (Cq G sc.names).N sc (Cp X.env.cells sc.names []) fp C s H xe) (Cq G sc.names):=by
 have S:=Mz O h
 unfold Et at h
 simp only [aw,cy,jl,decide_eq_true_eq,d9] at h
 obtain⟨⟨⟨⟨⟨h1,h2⟩,h3⟩,h4⟩,h5⟩,h6⟩:=h
 have hn:(je sc X.env).names=O8 G.sc sc.names:=Ga O
 refine⟨O.K,cv h3,(fun z=>by cases z),rfl,h4,fun x=>?_,fun x hx=>?_,fun z=>(by cases z),O.calm,O.hd,O.units,fun x hx=>S.has x hx,fun x g e=>?_,O.bl,fun z=>(by cases z),O.fr⟩
 ·show (je sc X.env).names.lookup x=_
  rw [hn]
  rfl
 ·show Vis (je sc X.env) x
  unfold Vis
  rw [hn]
  rcases List.mem_append.mp hx with q|q
  ·exact .inl (cv (h6 x q))
  ·exact .inr (Gj (h5 x q).2)
 ·refine GBOk.to (X:=X) ?_ ?_ ?_ ?_ ?_ ?_ (O.gb x g e)
  ·rfl
  ·rfl
  ·rfl
  ·rfl
  ·exact fun _ r=>r
  ·exact fun i F=>⟨F.kp,F.ok,F.room,F.binds,F.vals⟩
end
noncomputable def Cu:St->Hp->(Option Int->Hp->Prop)->EK->Prop:=fun _ H Q _=>Q none H
noncomputable def Df (a:DE):St->Hp->(Option Int->Hp->Prop)->EK->Prop:=fun σ H Q E=>a σ H (fun x H1=>match x with
 | .int i=>Q (some i) H1
 | _=>False) E
noncomputable abbrev DO:=St->Hp->(Option Int->Hp->Prop)->EK->Prop
noncomputable def b33 (K:aa):V->Option Int->Option Int->Hp->VK->Prop:=fun x lo hi H Q=>match x with
 | .str z=>z.length<=sizeLine/\Q (.str (mP z lo hi)) H
 | .ref a=>(∃ xs,SqL K H a xs /\ ∀ p,H p=none->Q (.ref p) (upd H p (.lst (D0 xs lo hi)))) \/
   (∃ xs,SqT K H a xs/\((HT.sIx xs.length 0 lo=0/\HT.sIx xs.length xs.length hi=xs.length)->Q (.ref a) H)/\(¬ (HT.sIx xs.length 0 lo=0/\HT.sIx xs.length xs.length hi=xs.length) -> ∀ p,H p=none->Q (.ref p) (upd H p (.tup (D0 xs lo hi)))))
 | _=>False
noncomputable def dSl (K:aa) (a:DE) (l h:DO):DE:=fun σ H Q E=>a σ H (fun x H1=>l σ H1 (fun lo H2=>h σ H2 (fun hi H3=>b33 K x lo hi H3 Q) E) E) E
noncomputable def QO (X:Cx) (e:Option Expr) (t:DO):Prop:=∀ Ex,Meets X Ex->PO X e (fun σ H Q=>t σ H Q (Ex σ))
theorem Gq {prog:aK} {w:bt} {A:bg} {E:Value->ai->Prop} {s:ai} {t sl:Addr} {items:Array Value} {vl vu:Value} {lo hi:Option Int} {Q:Value->ai->Prop} (ht:nF s.heap t items) (hs:s.heap.IsSliceOf sl vl vu .none) (pl:lM vl lo) (pu:lM vu hi)
  (hw:HT.sIx items.size 0 lo=0/\HT.sIx items.size items.size hi=items.size) (h:Q (.ref t) s):aG (model prog w) A (lF (.ref t) (.ref sl)) Q E s:=by
 obtain⟨os,hos,hcs,hds⟩:=id hs
 have hTs:s.TypeIs (.ref sl) "slice" := ⟨os,hos,hcs⟩
 unfold lF
 try with_reducible refine bp ?_
 first|refine ac (ah ?_)|skip
 refine ac (wpAny_sequenceKey ht.typeIs (by decide) ?_)
 refine ac (cE (name:=cr "__getitem__") ht.typeIs bY
  (cI bY ht.typeIs PyProof.Rows.entry_tuple_getitem ?_ (PyProof.Rows.args_tuple_getitem _ _)))
 show aG _ _ (iX (.ref t) >>= _) _ _ s
 refine ac (tupleItemsOf_ ht ?_)
 refine ac (ic hTs ?_)
 rw [if_pos (by decide)]
 refine ac (HT.sliceApplied_gen hs pl pu ?_)
 have hy:(((HT.sIx items.size 0 lo:Nat):Int)==0&&(1:Int)==1&&(HT.sIx items.size items.size hi - HT.sIx items.size 0 lo)==items.size)=true:=by
  rw [hw.1,hw.2]
  simp
 show aG _ _ (if (((HT.sIx items.size 0 lo:Nat):Int)==0&&(1:Int)==1&&(HT.sIx items.size items.size hi - HT.sIx items.size 0 lo)==items.size)=true then _ else _) _ _ s
 rw [if_pos hy]
 refine ac (m:=Builtin.Tuple.tupleIsExact _) (ac (ic ht.typeIs (ah ?_)))
 rw [if_pos (by decide)]
 exact ac (gG (ah ⟨_,rfl,ah h⟩))
noncomputable def b32 (K:aa):V->Option Int->Option Int->Hp->VK->Prop:=fun x lo hi H Q=>∃ a xs,x=.ref a/\SqT K H a xs/\(HT.sIx xs.length 0 lo=0/\HT.sIx xs.length xs.length hi=xs.length)/\Q (.ref a) H
theorem bf1 {X:Cx}:SlR X (b32 X.K):=by
 intro pins s σ H x v vl vu lo hi sl Q I rx hs pl pu h
 obtain⟨a,xs,rfl,hx,hw,q⟩:=h
 cases rx
 obtain⟨its,r,ht,hz⟩:=I.tuple hx
 have hlen:its.toArray.size=xs.length:=by rw [am];exact r.length.symm
 exact⟨"tuple", _,PyProof.Rows.slot_tuple_getitem.lookup,ht.typeIs,Gq ht hs pl pu (by rw [hlen];exact hw) ⟨.ref a,H,I,rfl,q⟩⟩
section
variable {X:Cx} {G:Sg} {e:Expr} {de:DE} {lo hi:Option Expr} {dl dh:DO} {pos p2:Pos}
theorem Ur:QO X none Cu:=fun _ _=>am0
theorem Us (h:QE X e de):QO X (some e) (Df de):=by
 intro Ex m pins s σ H Q I hw
 rw [evalPart_some]
 refine thn (h Ex m pins s σ H _ I hw) fun u s1 ⟨x,H1,I1,r1,q1⟩=>?_
 cases x with
 | int i=>obtain⟨t,rfl⟩:=r1;exact⟨some i,H1,I1,.int i t,q1⟩
 | _=>exact (show False from q1).elim
theorem Nb (e:Expr) (z:Str) (t:Tok) (r:Value):letTemporaryGo e (.str z t) r=pure ():=by
 cases e <;> rfl
theorem ac1 (he:QE X e de) (hl:QO X lo dl) (hh:QO X hi dh):QE X (.Subscript e (.Slice lo hi none p2) pos) (dSl X.K de dl dh):=by
 intro Ex m pins s σ H Q I h
 refine Subscript_ (thn (he Ex m pins s σ H _ I h) fun v s1 ⟨x,H1,I1,r1,q1⟩=>?_)
 refine wpAny_Slice (thn (hl Ex m pins s1 σ H1 _ I1 q1) fun vl s2 ⟨l,H2,I2,pl,q2⟩=>thn (hh Ex m pins s2 σ H2 _ I2 q2) fun vu s3 ⟨u,H3,I3,pu,q3⟩=>?_)
 rw [evalPart_none]
 refine ah ?_
 show aG (model X.prog X.w) X.A (lZ e (.Slice lo hi none p2) v (.ref s3.heap.objs.size)) (EP X pins σ Q) X.xe { s3 with heap:=s3.heap.push { cls:=.type "slice", data:=.fields #[vl,vu,.none] } }
 have I4:Inv X pins σ H3 { s3 with heap:=s3.heap.push { cls:=.type "slice", data:=.fields #[vl,vu,.none] } }:=I3.kept (t':=s3.toks) fun b ob q=>af _ q
 have gen:∀ r,SlR X r->r x l u H3 Q->aG (model X.prog X.w) X.A (lZ e (.Slice lo hi none p2) v (.ref s3.heap.objs.size)) (EP X pins σ Q) X.xe { s3 with heap:=s3.heap.push { cls:=.type "slice", data:=.fields #[vl,vu,.none] } }:=fun r hr q=>by
  obtain⟨T,id,hT,ht,hg⟩:=hr pins _ σ H3 x v vl vu l u s3.heap.objs.size Q I4 r1 (Heap.IsSliceOf.new ..) pl pu q
  exact nC (ops:=[.ref s3.heap.objs.size,v]) ht hT hg (by with_unfolding_all rfl)
 cases x with
 | str z=>
  obtain⟨hz,q⟩:=q3
  obtain⟨t,rfl⟩:=r1
  have hk:KeptH (fun h=>Inv X pins σ H3 { s3 with heap:=h }):=fun h ob J=>J.kept (t':=s3.toks) fun b o eb=>af _ eb
  have fin:∀ h' t' k,Inv X pins σ H3 { s3 with heap:=h' }->(fun (a:Value) (s':ai)=>s3.toks<=s'.toks->EP X pins σ Q a s') (.str (mP z l u) t') { s3 with heap:=h',toks:=k }:=fun h' t' k J htk=>⟨.str _,H3,J.tok k htk,⟨_,rfl⟩,q⟩
  refine bE (n:=s3.toks) (ae _) ?_
  cases pl with
  | none=>
   cases pu with
   | none=>exact jf (SBH.sliceItem_nn hk I3 fin hz) (by with_unfolding_all rfl) (Nb e z t)
   | int j uj=>exact jf (SBH.sliceItem_ns hk I3 fin hz) (by with_unfolding_all rfl) (Nb e z t)
  | int i ui=>
   cases pu with
   | none=>exact jf (SBH.sliceItem_sn hk I3 fin hz) (by with_unfolding_all rfl) (Nb e z t)
   | int j uj=>exact jf (SBH.sliceItem_ss hk I3 fin hz) (by with_unfolding_all rfl) (Nb e z t)
 | ref a=>
  rcases q3 with ⟨xs,h1,h2⟩|⟨xs,h1,h2,h3⟩
  ·exact gen _ ap3 ⟨a,xs,rfl,h1,h2⟩
  ·by_cases hw:HT.sIx xs.length 0 l=0/\HT.sIx xs.length xs.length u=xs.length
   ·exact gen _ bf1 ⟨a,xs,rfl,h1,hw,h2 hw⟩
   ·exact gen _ bf2 ⟨a,xs,rfl,h1,hw,h3 hw⟩
 | _=>exact (show False from q3).elim
noncomputable def J2:Expr->Bool
 | .Set _ _ _=>false
 | _=>true
theorem J3 {e:Expr} (h:J2 e=true) (env:Env) (x:Value):fX e env x=pure x:=by
 cases e with
 | Set _ _ _=>cases h
 | _=>rfl
theorem E5:Meets X (fun _ _ _=>False):=fun _ _ _ _ _ _ _ h=>h.elim
variable {tg iter elt:Expr} {ifs:List Expr} {sc:Scope} {wi:DI} {g:DG} {tc:DT}
noncomputable def Qt (G:Sg) (x:Str):Bool:=(G.sc.lookup x==some .local)||(G.top&&(G.sc.lookup x==some .cell))
noncomputable def wG:Nat->Sg->Expr->DG
 | 0,_,_=>gNo
 | n+1,G,e=>match e with
  | .Name x _=>match Ca G.N x 0 with
   | some i=>if Qt G x=true then gdN i else gNo
   | none=>gNo
  | .Tuple ts _ _=>if G.calm=true/\ts.all noStar=true then gdT G.K ts.length (ts.map (wG n G)) else gNo
  | _=>gNo
theorem Nc (O:GOk X G) {x:Str} (h:Qt G x=true):Loc X.env.scope x/\(X.fn x=true\/X.env.scope.names.lookup x=some .local):=by
 unfold Qt at h
 rw [d9,aw] at h
 rcases h with h|⟨h1,h2⟩
 ·have:X.env.scope.names.lookup x=some .local:=by rw [O.sc];exact cv h
  exact⟨.inl this,.inr this⟩
 ·have:X.env.scope.names.lookup x=some .cell:=by rw [O.sc];exact cv h2
  exact⟨.inr this,.inl (O.top h1 x)⟩
theorem Em {e:Expr} (h:noStar e=true) (es:List Expr) (env:Env):dE (e::es) env=(false,mx e env)::dE es env:=by
 cases e with
 | Starred _ _=>cases h
 | _=>rfl
theorem Jc {es:List Expr} (h:es.all noStar=true) (env:Env):(dE es env).length=es.length/\(dE es env).findIdx? (·.1)=none:=by
 induction es with
 | nil=>exact⟨rfl,rfl⟩
 | cons e es ih=>
  rw [bF,aw] at h
  obtain⟨h1,h2⟩:=ih h.2
  rw [Em h.1]
  refine⟨by rw [aR,aR,h1],?_⟩
  rw [List.findIdx?_cons,h2]
  rfl
theorem Pl:∀ (n:Nat) (X:Cx) (G:Sg),GOk X G -> ∀ e,PG X e (wG n G e)
 | 0,_,_,_,_=>Oy
 | n+1,X,G,O,e=>by
  cases e with
  | Name x p=>
   unfold wG
   dsimp only
   split
   ·rename_i i e
    split
    ·rename_i h
     obtain⟨h1,h2⟩:=Nc O h
     exact al8 (by rw [O.N];exact O.nd) (by rw [O.N];exact Ef e) h1 h2
    ·exact Oy
   ·exact Oy
  | Tuple ts k p=>
   unfold wG
   dsimp only
   split
   ·rename_i h
    obtain⟨h1,h2⟩:=h
    obtain⟨h3,h4⟩:=Jc h2 X.env
    rw [<- O.K]
    refine b25 (O.calm▸h1) ?_ h3 h4
    clear h3 h4
    induction ts with
    | nil=>exact bp3
    | cons t ts ih=>
     rw [bF,aw] at h2
     refine bp2 (Pl n X G O t) (ih h2.2) ?_
     rw [Em h2.1]
     rfl
   ·exact Oy
  | _=>exact Oy
end
end L2
namespace L2
open PySem PySem.Spec
structure S0 (l:List Addr) (e C:Addr) (dx:Option Addr) (h h':Heap):Prop where
 exc:∃ (vs':Array Value) (T:Addr) (oT:Obj) (ts':Array Value),h'.get? e=some (Aq C dx vs')/\vs'.size=6/\vs'[1]? = some (.ref T)/\h.objs.size<=T/\T≠e/\h'.get? T=some oT/\oT.data=.fields ts'/\3<ts'.size /\ ∀ vs,h.get? e=some (Aq C dx vs)->vs'[2]? = vs[2]?
 keep:∀ b o,b≠e->b∉l->h.get? b=some o->h'.get? b=some o
 slot:∀ b o,b≠e->h.get? b=some o -> ∃ sl,h'.get? b=some { o with slots:=sl }
noncomputable abbrev tbO (fs:Array Value):Obj:={ cls:=.type "traceback", dict:=none,data:=.fields fs }
noncomputable abbrev Jz (T:Addr):Obj->Obj:=bc (·.setIfInBounds 1 (.ref T))
noncomputable abbrev Ir (h:Heap) (e:Addr) (fs:Array Value):Heap:=(h.push (tbO fs)).update e (Jz h.objs.size)
section
variable {h:Heap} {e C:Addr} {dx:Option Addr} {vs fs:Array Value}
theorem apart (q:h.get? e=some (Aq C dx vs)):h.objs.size≠e:=dz (au q)
theorem Oo (T:Addr):(Jz T (Aq C dx vs)).data=.fields (vs.setIfInBounds 1 (.ref T)):=rfl
theorem P6 (q:h.get? e=some (Aq C dx vs)):(Ir h e fs).get? e=some (Aq C dx (vs.setIfInBounds 1 (.ref h.objs.size))):=
 aW (Jz h.objs.size) (af (tbO fs) q) (bR (Oo h.objs.size))
theorem P7 (q:h.get? e=some (Aq C dx vs)):(Ir h e fs).get? h.objs.size=some (tbO fs):=
 (aN (h.push (tbO fs)) (Jz h.objs.size) (apart q).symm).trans (aq h rfl)
theorem Ih {b:Addr} {o:Obj} (ne:b≠e) (q:h.get? b=some o):(Ir h e fs).get? b=some o:=
 (aN (h.push (tbO fs)) (Jz h.objs.size) ne.symm).trans (af (tbO fs) q)
theorem Qn {h0:Heap} {l:List Addr} (hz:h.objs.size=h0.objs.size) (k1:∀ b,b∉l->h.get? b=h0.get? b) (k2:∀ b o,h0.get? b=some o -> ∃ sl,h.get? b=some { o with slots:=sl }) (q:h.get? e=some (Aq C dx vs)) (hs:vs.size=6) (hf:3<fs.size) :
  S0 l e C dx h0 (Ir h e fs) where
 exc:=⟨_,h.objs.size,_,_,P6 q,by rw [d8];exact hs,fJ (by omega),by omega,apart q,P7 q,rfl,hf,fun vs0 q0=>by
  obtain⟨sl,z⟩:=k2 e _ q0
  rw [q] at z
  cases z
  exact cW (by decide)⟩
 keep:=fun b o ne nl hb=>Ih ne ((k1 b nl).trans hb)
 slot:=fun b o ne hb=>let ⟨sl,z⟩:=k2 b o hb;⟨sl,Ih ne z⟩
end
section
variable {M:nG} {A:bg} {E:Value->ai->Prop} {s:ai} {base:Heap} {env:Env} {outer:List Env} {L e C:Addr} {dx:Option Addr} {vs:Array Value} {Q:Unit->ai->Prop}
theorem Wn {head:Value} {hadNext:Bool} {env0:Env} (hfr:A.frames=some (env0::outer)) (hl:s.heap.FunFrames base (env0::outer)) (h0:env0.frame=some L) (hf:env.frame=some L) (q:s.heap.get? e=some (Aq C dx vs)) (hs:vs.size=6) (k:∀ h',S0 (frs (env0::outer)) e C dx s.heap h'->Q () { s with heap:=h' }) :
  aG M A ((nw env >>= fun a=>entryPlaceOf L hadNext >>= fun pl=>iH head a .none (dZ L) .none pl >>= fun b=>jL (.ref e) 1 b)) Q E s:=by
 have off:e∉frs (env0::outer):=fun z=>by
  obtain⟨_,o,z1,z2⟩:=hl.mem z
  rw [q] at z1
  cases z1
  exact z2 vs rfl
 have fe:nw env=nw env0:=by unfold nw;rw [hf,h0]
 rw [fe]
 refine ac (wpAny_frameOf_fun hfr hl h0 fun h1 ⟨a1,a2,a3⟩=>ac (wpAny_entryPlaceOf fun pl hpl=>?_))
 unfold iH newFields
 refine ac (b0 ?_ (hpl.sizeOk5 _ _ _ _ _))
 have q1:h1.get? e=some (Aq C dx vs):=(a2 e off).trans q
 have lt:3<([head,.ref L,.none,dZ L,.none]++(if pl.isEmpty then kW 6 bh else pl)).toArray.size:=by rw [am,aI];simp only [aR,List.length_nil];omega
 generalize ([head,.ref L,.none,dZ L,.none]++(if pl.isEmpty then kW 6 bh else pl)).toArray=fs at lt ⊢
 exact cG (af (tbO fs) q1) rfl (show 1<vs.size by omega) (k _ (Qn a1 a2 a3 q1 hs lt))
end
end L2
namespace L2
open PySem PySem.Spec PyProof.Rows
open Sem (wp)
noncomputable def bi5 (n:Nat) (a:Addr) (H':Hp) (s':ai):Prop:=
 ∃ (C:Addr) (dx:Option Addr) (vs:Array Value) (T:Addr) (oT:Obj) (ts:Array Value),FlO H' a C dx/\s'.heap.get? a=some (Aq C dx vs)/\vs.size=6/\vs[1]? = some (.ref T)/\T≠a/\s'.heap.get? T=some oT/\oT.data=.fields ts/\ts[3]? = some .none/\n<=T/\H' T=none
noncomputable def CXE (P:aK) (w:bt):CXT:=fun outer H s E e s'=>
 ∃ (a:Addr) (H':Hp),e=.ref a/\(s'.os=s.os/\s.toks<=s'.toks)/\jz s'.gens/\Un (frs outer) [] H H' s.heap s'.heap/\HOk P w H' s'.heap/\bi5 s.heap.objs.size a H' s'/\E e none H'
section
variable {X:Cx} {pins:List (Addr×Obj)} {σ:St} {H:Hp} {s:ai} {a C:Addr} {dx:Option Addr} {h':Heap}
theorem ak1 (I:Inv X pins σ H s) (ea:FlO H a C dx) (L:S0 (frs X.stack) a C dx s.heap h'):Un (frs X.stack) [] H H s.heap h' where
 keep:=fun b o q n hb _=>L.keep b o (fun z=>by rw [z] at n;rcases ea with ea|ea <;> (rw [ea] at n;cases n)) hb q
 slot:=fun b o q n _ _=>L.slot b o (fun z=>by rw [z] at n;rcases ea with ea|ea <;> (rw [ea] at n;cases n)) q
 free:=fun b o _ n _=>n
 there:=fun b o q _=>by
  by_cases hb:b=a
  ·obtain⟨vs',T,oT,ts',h1,_⟩:=L.exc
   exact⟨_,by rw [hb];exact h1⟩
  ·obtain⟨sl,h1⟩:=L.slot b o hb q
   exact⟨_,h1⟩
 tups:=fun _ _ e=>e
 frzs:=fun _ _ _ e=>e
 tbls:=fun b ps e=>⟨#[],by rw [e];simp⟩
theorem ak0 (I:Inv X pins σ H s) (ea:FlO H a C dx) (L:S0 (frs X.stack) a C dx s.heap h'):HOk X.prog X.w H h':=fun b o e=>by
 by_cases hb:b=a
 ·subst hb
  obtain⟨vs',T,oT,ts',h1,h2,_,_,_,_,_,_,hc⟩:=L.exc
  rcases ea with ea|ea
  ·obtain⟨vs,g1,_,g3⟩:=Y9 I ea
   rw [ea] at e
   cases e
   exact Y8 h1 h2 ((hc vs g1).trans g3)
  ·rw [ea] at e
   cases e
   exact Y7 h1 h2
 ·refine (I.hok b o e).stay (fun c u hc q=>L.keep c u ?_ ?_ q) (fun _ q=>q) fun _ _ q=>q
  ·rcases hc with rfl|hc
   ·exact hb
   ·rintro rfl
    rcases ea with ea|ea <;> (rw [ea] at hc;cases hc)
  ·intro hm
   have n:=I.stkFree c hm
   rcases hc with rfl|hc
   ·rw [n] at e;cases e
   ·rw [n] at hc;cases hc
end
end L2
namespace L2
open PySem PySem.Spec PyProof.Rows
open Sem (wp)
section
variable {X:Cx} {pins:List (Addr×Obj)} {σ:St} {H:Hp} {s:ai} {a:Addr} {E:Value->ai->Prop} {Q:Unit->ai->Prop}
noncomputable def FlyT (X:Cx) (pins:List (Addr×Obj)) (H:Hp) (a:Addr) (s:ai) (z:Value):Prop:=
 ∃ (C:Addr) (dx:Option Addr) (vs:Array Value) (T:Addr) (oT:Obj) (ts:Array Value),FlO H a C dx/\s.heap.get? a=some (Aq C dx vs)/\vs.size=6/\vs[1]? = some (.ref T)/\T≠a/\s.heap.get? T=some oT/\oT.data=.fields ts/\ts[3]? = some z/\Cs X pins H T
theorem FlyT.at {z:Value} (F:FlyT X pins H a s z):Ft X pins H a s:=by
 obtain⟨C,dx,vs,T,oT,ts,h1,h2,h3,q1,q2,q3,q4,q5,q6⟩:=F
 exact⟨C,dx,vs,h1,h2,h3,.inr ⟨T,oT,ts,q1,q2,q3,q4,⟨z,q5⟩,q6⟩⟩
theorem bw2 {C T:Addr} {dx:Option Addr} {vs ts:Array Value} {oT:Obj} {y:Value} (I:Inv X pins σ H s) (h1:FlO H a C dx) (h2:s.heap.get? a=some (Aq C dx vs)) (h3:vs.size=6) (q1:vs[1]? = some (.ref T)) (q2:T≠a) (q3:s.heap.get? T=some oT) (q4:oT.data=.fields ts) (q5:ts[3]? = some y) (q6:Cs X pins H T) (v:Value) :
  Inv X pins σ H { s with heap:=s.heap.update T (bc (·.setIfInBounds 3 v)) }/\FlyT X pins H a { s with heap:=s.heap.update T (bc (·.setIfInBounds 3 v)) } v/\(s.heap.update T (bc (·.setIfInBounds 3 v))).get? a=some (Aq C dx vs):=by
 have ha:(s.heap.update T (bc (·.setIfInBounds 3 v))).get? a=some (Aq C dx vs):=(aN _ _ q2).trans h2
 obtain⟨c0,d0,dt0,sl0⟩:=oT
 cases (show dt0=.fields ts from q4)
 have hT:(s.heap.update T (bc (·.setIfInBounds 3 v))).get? T=some ⟨c0,d0,.fields (ts.setIfInBounds 3 v),sl0⟩:=aW _ q3 (bR (vs:=ts.setIfInBounds 3 v) rfl)
 exact⟨I.turned (t':=s.toks) (fun b o ne e=>(aN _ _ (bO ne)).trans e) q6.1 q6.2.1 q6.2.2.2.1 q6.2.2.2.2.1 q6.2.2.2.2.2,⟨C,dx,vs,T,_,_,h1,ha,h3,q1,q2,hT,rfl,fJ (Array.getElem?_eq_some_iff.mp q5).1,q6⟩,ha⟩
theorem U0 {A:bg} {fr:Option Addr} {z:Value} (I:Inv X pins σ H s) (F:FlyT X pins H a s z) (h:∀ s',Inv X pins σ H s'->FlyT X pins H a s' (fr.elim .none fun f=>dZ f)->Q () s'):aG (model X.prog X.w) A (kI (.ref a) fr) Q E s:=by
 obtain⟨C,dx,vs,T,oT,ts,h1,h2,h3,q1,q2,q3,q4,q5,q6⟩:=F
 obtain⟨I',F',_⟩:=bw2 I h1 h2 h3 q1 q2 q3 q4 q5 q6 (fr.elim .none fun f=>dZ f)
 unfold kI
 refine ac (b_ h2 rfl q1 ?_)
 rw [if_pos (by simp)]
 exact cG q3 q4 (Array.getElem?_eq_some_iff.mp q5).1 (h _ I' F')
theorem aa0 {env:Env} (I:Inv X pins σ H s) {e0:Env} {o0:List Env} {L:Addr} (hs:X.stack=e0::o0) (h0:e0.frame=some L) (hf:env.frame=some L) (F:Ft X pins H a s) (h:∀ s' z,Inv X pins σ H s'->FlyT X pins H a s' z->Q () s') :
  aG (model X.prog X.w) X.A (lX (.ref a) env) Q E s:=by
 obtain⟨C,dx,vs,h1,h2,h3,h4⟩:=F
 have fr:X.A.frames=some (e0::o0):=hs▸I.ok.frames
 have new:∀ {s1:ai} {head:Value} {hadNext:Bool},Inv X pins σ H s1->s1.heap.get? a=some (Aq C dx vs)->aG (model X.prog X.w) X.A ((nw env >>= fun y=>entryPlaceOf L hadNext >>= fun pl=>iH head y .none (dZ L) .none pl >>= fun b=>jL (.ref a) 1 b)) Q E s1:=fun {s1 head hadNext} I1 q=>by
  have fn:s1.heap.FunFrames X.base (e0::o0):=hs▸I1.stack
  refine Wn (base:=X.base) fr fn h0 hf q h3 fun h' L=>?_
  rw [<- hs] at L
  have I':=I1.call (h':=h') (g':=s1.gens) (t':=s1.toks) (d':=s1.drawn) (ch:=[]) (ak1 I1 h1 L) (ak0 I1 h1 L) I1.bare (fun b z=>absurd z (by simp))
  obtain⟨vs',T,oT,ts',a1,a2,a3,a4,a5,a6,a7,a8,_⟩:=L.exc
  exact h _ _ I' ⟨C,dx,vs',T,oT,ts',h1,a1,a2,a3,a5,a6,a7,bw a8,I1.fpOk a4 (I1.hok.fresh a4)⟩
 unfold lX
 simp only [hf]
 rcases h4 with c|⟨T,oT,ts,c,ne,hT,hd,⟨z,hz⟩,fp⟩
 ·refine ac (b_ h2 rfl c ?_)
  rw [if_neg (by decide)]
  exact new I h2
 ·refine ac (b_ h2 rfl c ?_)
  rw [if_pos (by simp)]
  refine ac (b_ hT hd hz ?_)
  by_cases e:(z==dZ L)=true
  ·rw [if_pos e]
   exact ah (h s z I ⟨C,dx,vs,T,oT,ts,h1,h2,h3,c,ne,hT,hd,hz,fp⟩)
  ·rw [if_neg e]
   obtain⟨I',_,ha⟩:=bw2 I h1 h2 h3 c ne hT hd hz fp .none
   exact ac (cG hT hd (Array.getElem?_eq_some_iff.mp hz).1 (new I' ha))
theorem Uj (I:Inv X pins σ H s) (hs:X.stack=X.env::X.outer) (hf:X.env.frame=some X.env.locals) (F:Ft X pins H a s) (h:∀ s',Inv X pins σ H s'->FlyT X pins H a s' .none->Q () s') :
  aG (model X.prog X.w) X.A (lX (.ref a) X.env) (fun _ s1=>aG (model X.prog X.w) X.A (kI (.ref a) none) Q E s1) E s:=
 aa0 I hs hf hf F fun s1 z I1 F1=>U0 I1 F1 h
theorem Hi {A:bg} (I:Inv X pins σ H s) (F:Ft X pins H a s) (h:∀ s',Inv X pins σ H s'->Ft X pins H a s'->Q () s'):aG (model X.prog X.w) A (kI (.ref a) none) Q E s:=by
 obtain⟨C,dx,vs,h1,h2,h3,h4⟩:=F
 rcases h4 with h4|⟨T,oT,ts,q1,q2,q3,q4,⟨z,q5⟩,q6⟩
 ·unfold kI
  refine ac (b_ h2 rfl h4 ?_)
  rw [if_neg (by decide)]
  exact ah (h s I ⟨C,dx,vs,h1,h2,h3,.inl h4⟩)
 ·exact U0 I ⟨C,dx,vs,T,oT,ts,h1,h2,h3,q1,q2,q3,q4,q5,q6⟩ fun s' I' F'=>h s' I' F'.at
end
section
variable {prog:aK} {w:bt} {A:bg} {E:Value->ai->Prop} {s:ai} {K:aa} {a C D:Addr} {dx:Option Addr} {vs:Array Value} {b:Bool} {Q:Bool->ai->Prop}
open PySem.W in
theorem J0 (X:K.In s.heap) (c:ECls K C) (d:ECls K D) (ha:s.heap.get? a=some (Aq C dx vs)) (m:mroIn K C (.ref D)=some b) (h:Q b s) :
  aG (model prog w) A (excMatches (.ref a) (.ref D)) Q E s:=by
 obtain⟨nm,qn,N,bs,bm,hdct,sn,sub,ab,col,dd,k0,k1,k2,k3,k5,hl,ht,hd⟩:=c.obj
 obtain⟨nm',qn',N',bs',bm',hdct',sn',sub',ab',col',dd',k0',k1',k2',k3',k5',hl',ht',hd'⟩:=d.obj
 have hC:=X _ _ hl
 have hD:=X _ _ hl'
 have hcB:(aM D::bm').contains (.type "BaseException")=true:=by rw [bM,Bo ht' (show valTail.contains (.type "BaseException")=true by decide +kernel),fK]
 have hcD:(aM C::bm).contains (.ref D)=b:=by
  unfold mroIn at m
  obtain⟨cd,e,em⟩:∃ cd,mR K C=some cd/\cd.mro=.ref C::bm:=⟨_,by unfold mR;rw [hl],rfl⟩
  rw [e,cH,em] at m
  exact aU m
 have f:=tc_notTuple
 obtain⟨hp,g,dr,tk,os⟩:=s
 unfold excMatches
 repeat (first|with_reducible refine bu ha ?_|with_reducible refine bu hD ?_|(with_reducible refine cw hD ?_;rw [hcB])|(with_reducible refine cw hC ?_;rw [hcD])|wp_step)
 cases b <;> (wp_walk;exact h)
end
end L2
namespace L2
open PySem PySem.Spec PyProof.Rows
section
variable {X:Cx} {G:Sg} {elt tg iter:Expr} {ifs:List Expr} {sc:Scope} {wi:DI} {g:DG} {tc:DT} {de:DE} {pos:Pos}
theorem bk0 {pins pins':List (Addr×Obj)} {σ:St} {H2 H':Hp} {s2:ai} {N':List Str} {cl:List (Str×Addr)} {fp:List Addr} {C T:Addr} {xe:Value->ai->Prop} (I2:Inv X pins σ H2 s2) (f2:∀ b∈fp,Cs X pins H2 b)
  (F:Cs (X.comp N' sc cl fp C s2 H2 xe) pins' H' T):Cs X pins H' T:=by
 obtain⟨r1,r2,r3,r4,r5,r6⟩:=F
 rcases r4 with r4|r4
 ·exact⟨r1,(f2 T r4).2⟩
 ·exact I2.fpOk r4 r1
theorem J1 {Ex:St->EK} (m:Meets X Ex) (fr:FrH X) {pins:List (Addr×Obj)} {σ:St} {H2:Hp} {s2:ai} {N':List Str} {cl:List (Str×Addr)} {fp:List Addr} {C D:Addr} {us:Option (Value->Sem Unit)} {Q2:Value->ai->Prop} (I2:Inv X pins σ H2 s2) (f2:∀ b∈fp,Cs X pins H2 b)
  (hC:s2.heap.objs.size<=C):Meets (X.comp N' sc cl fp C s2 H2 (Bj X sc cl us Q2 D C)) (fun _ a H'=>Ex σ a H'):=by
 intro pins' σ' H' s' a I' F' hE
 obtain⟨e0,o0,L,f1,f3,f4⟩:=fr
 refine aa0 (X:=X.comp N' sc cl fp C s2 H2 (Bj X sc cl us Q2 D C)) (env:=nt sc cl C X.env) I' f1 f3 f4 F' fun s3 z I3 F3=>?_
 obtain⟨mm,hn,_⟩:=id I3.loc
 refine⟨mm,hn,fun h' sb cenv hce=>?_⟩
 have I4:Inv X pins σ H' s3:=I2.call' (ch:=fp) I3.os I3.base I3.hok I3.bare fun b hb=>⟨(f2 b hb).2.2.2.1,(f2 b hb).2.1,(f2 b hb).2.2.2.2.1,(f2 b hb).2.2.2.2.2⟩
 have fo:=I2.fpOk hC I3.free
 obtain⟨g0,g1,g2,g3,g4,g5⟩:=id fo
 have I5:Inv X pins σ H' { s3 with heap:=h' }:=I4.turned (t':=s3.toks) (fun b o hb e=>(sb.2 b hb).trans e) g0 g1 g3 g4 g5
 obtain⟨C0,dx,vs,T,oT,ts,h1,h2,h3,q1,q2,q3,q4,q5,q6⟩:=F3
 have na:a≠C:=fun z=>by rcases h1 with h1|h1 <;> (rw [z,g0] at h1;cases h1)
 have nT:T≠C:=q6.2.1
 have F5:FlyT X pins H' a { s3 with heap:=h' } z:=⟨C0,dx,vs,T,oT,ts,h1,(sb.2 a na).trans h2,h3,q1,q2,(sb.2 T nT).trans q3,q4,q5,bk0 I2 f2 q6⟩
 unfold PySem.passOn
 refine ac (b_ (s:={ s3 with heap:=h' }) ((sb.2 a na).trans h2) rfl q1 ?_)
 rw [if_neg (by simp)]
 refine ac (U0 I5 F5 fun s6 I6 F6=>?_)
 exact lK (m pins σ H' s6 a I6 F6.at hE)
noncomputable def ah5 (X:Cx) (ifs:List Expr) (t:DT):Prop:=∀ Ex,Meets X Ex->Vf X ifs (fun σ H Q=>t σ H Q (Ex σ))
theorem O1:ah5 X [] Hf:=fun _ _=>aa8
theorem O2 {c:Expr} {t:DT} (h:QT X c t):ah5 X [c] t:=fun Ex m=>aa9 (h Ex m)
theorem Uo (O:GOk X G) (hc:X.calm=true) (hk:Et G sc=true) (hs:J2 iter=true) (hi:QI X tg iter wi) (hg:∀ X',GOk X' (Cq G sc.names)->PG X' tg g) (ht:∀ X',GOk X' (Cq G sc.names)->ah5 X' ifs tc) (he:∀ X',GOk X' (Cq G sc.names)->QE X' elt de) :
  QE X (.ListComp elt [⟨tg,iter,ifs,0⟩] sc pos) (Dx (Fd G sc.names) wi g tc de):=by
 intro Ex m pins s σ H Q I h
 exact Yu hc (Mz O hk) (hi Ex m) (fun Q2 fp C D s2 H2 I2 f2 hC=>
  have M:=J1 (N':=(Cq G sc.names).N) (cl:=Cp X.env.cells sc.names []) (us:=none) (Q2:=Q2) (D:=D) m O.fr I2 f2 hC
  have K:=Tn O hk fp C s2 H2 (Bj X sc (Cp X.env.cells sc.names []) none Q2 D C)
  ⟨hg _ K,ht _ K _ M,he _ K _ M⟩) I h (fun x=>J3 hs X.env x)
end
noncomputable def Tl (K:aa) (op:BoolOp):List DE->DE
 | []=>dNo
 | [a]=>a
 | a::r=>match op with
  | .And=>D6 K a (Tl K op r)
  | .Or=>bj6 K a (Tl K op r)
noncomputable def Tk (op:BoolOp):List DT->DT
 | []=>fun _ _ _ _=>False
 | [a]=>a
 | a::r=>match op with
  | .And=>Vp a (Tk op r)
  | .Or=>dOr a (Tk op r)
noncomputable def Co:List DE->DA
 | []=>Af
 | a::r=>Aa a (Co r)
noncomputable def tNo:DT:=fun _ _ _ _=>False
noncomputable def Xe (G:Sg) (ops:List mL) (bs:List Expr) (a:DE) (ds:List DE):DE:=match ops,bs,ds with
 | [op],[b],[d]=>if dR op b=false then Ae (Ld G.K op) a d else dNo
 | [op,op'],[b,c],[d,d']=>if lastMarks [op,op'] [b,c]=false then P3 (Ld G.K op) (Ld G.K op') a d d' else dNo
 | _,_,_=>dNo
noncomputable def ag6 (G:Sg) (x:Str) (es:List Expr) (ds:List DE):DE:=
 if Fs G x=true/\(Ca G.N x 0)=none/\es.all noStar=true then (match G.gb.lookup x with
  | some (.fn i)=>if es.length<=i.ps.length/\i.ps.length<=es.length+i.dfs.length then dFn (spE i.sp (i.dfs.drop (es.length+i.dfs.length - i.ps.length))) (Co ds) else dNo
  | some (.exc C oi)=>(match oi with
   | none=>if es.isEmpty=true then dFn (mkX C none 0) (Co ds) else dFn (fun vs H Q E=>vs.length<=1000/\mkX C none 0 vs H Q E) (Co ds)
   | some i=>if es.length+1<=i.ps.length/\i.ps.length<=es.length+1+i.dfs.length then (if es.isEmpty=true then dFn (mkX C (some i) (es.length+1+i.dfs.length - i.ps.length)) (Co ds)
    else dFn (fun vs H Q E=>vs.length<=1000/\mkX C (some i) (es.length+1+i.dfs.length - i.ps.length) vs H Q E) (Co ds)) else dNo)
  | some (.cls C oi)=>(match oi with
   | none=>if es.isEmpty=true then dFn (mkC C none 0) (Co ds) else dNo
   | some i=>if es.length+1<=i.ps.length/\i.ps.length<=es.length+1+i.dfs.length then dFn (mkC C (some i) (es.length+1+i.dfs.length - i.ps.length)) (Co ds) else dNo)
  | some _=>dNo
  | none=>if G.bl.contains x=true then (match a20 G.K G.calm x with
   | some (_,r)=>if es.isEmpty=true then dNo else dFn (fun vs H Q _=>r vs H Q) (Co ds)
   | none=>dNo) else dNo) else dNo
noncomputable def ag8 (G:Sg) (o:Expr) (m:Str) (es:List Expr) (ap cp:Pos) (d:DE) (ds:List DE):DE:=
 if Ci o=true/\es.all noStar=true/\es.length<30/\(ap.endLine==cp.line)=true then (match B6 G.gb m with
  | none=>dMt (rMt G.K (mtR G.K m)) d (Co ds)
  | some l=>An m es.length l d (Co ds)) else dNo
noncomputable def ax3 (G:Sg) (o:Expr) (m:Str) (es:List Expr) (ap cp:Pos):Option FI:=match o with
 | .Name c _=>if m = "__init__" /\ Fs G c=true/\Ca G.N c 0=none/\es.isEmpty=false/\Ci o=true/\es.all noStar=true/\es.length<30/\(ap.endLine==cp.line)=true then (match G.gb.lookup c with
  | some (.ini _ i)=>if es.length<=i.ps.length/\i.ps.length<=es.length+i.dfs.length then some i else none
  | _=>none) else none
 | _=>none
noncomputable def ar5 (d:DE):DE:=fun σ H Q E=>d σ H (fun v H'=>Thaw H H' (Q v)) E
theorem an6 {X:Cx} {e:Expr} {d:DE} (h:QE X e d):QE X e (ar5 d):=fun Ex mt pins s σ H Q I q=>
 thn (h Ex mt pins s σ H _ I q) fun v s1 ⟨x,H1,I1,r1,q1⟩=>
  let ⟨H2,I2,q2⟩:=Thaw.inv I I1 q1
  ⟨x,H2,I2,r1,q2⟩
noncomputable def Sz (G:Sg) (o:Expr) (m:Str) (es:List Expr) (ap cp:Pos) (d:DE) (ds:List DE):DE:=match ax3 G o m es ap cp with
 | some i=>dFn (spE i.sp (i.dfs.drop (es.length+i.dfs.length - i.ps.length))) (Co ds)
 | none=>ag8 G o m es ap cp d ds
noncomputable def Oe (G:Sg) (e:Expr):Option (List (Key×V)):=match e with
 | .Name x _=>if Fs G x=true then (match G.gb.lookup x with
  | some (.dic _ kvs)=>some kvs
  | _=>none) else none
 | _=>none
noncomputable def Ub (G:Sg) (ops:List mL) (bs:List Expr):Option (Bool×List (Key×V)):=match ops,bs with
 | [.In],[b]=>if dR .In b=false then (Oe G b).map fun k=>(false,k) else none
 | [.NotIn],[b]=>if dR .NotIn b=false then (Oe G b).map fun k=>(true,k) else none
 | _,_=>none
noncomputable def at5 (G:Sg) (x:Str) (es:List Expr):Bool:=(Ca G.N x 0).isSome && !es.isEmpty&&es.all noStar
inductive Fz where
 | srtSet (a:Expr)|revList (a:Expr)
noncomputable def fzD (K:aa) (w:Expr->DE):Fz->DE
 | .srtSet a=>dUn (G4 K) (w a)
 | .revList a=>dUn (Ka K) (w a)
noncomputable def Wa (G:Sg) (x:Str):Bool:=Fs G x&&(G.gb.lookup x).isNone&&G.bl.contains x
noncomputable def Qc (G:Sg) (x:Str) (es:List Expr):Option Fz:=match es with
 | [.Call (.Name y _) [a] [] _]=>if x = "list" /\ y = "reversed" /\ Wa G x=true/\Wa G y=true/\noStar a=true/\G.calm=true then some (.revList a)
  else if x = "sorted" /\ y = "set" /\ Wa G x=true/\Wa G y=true/\noStar a=true/\G.calm=true then some (.srtSet a) else none
 | _=>none
mutual
noncomputable def wE:Nat->Sg->Expr->DE
 | 0,_,_=>dNo
 | n+1,G,e=>match e with
  | .Constant c _ _=>ag7 c
  | .Name x _=>Pm G x
  | .BinOp a op b _=>Ae (rOp G.K op) (wE n G a) (wE n G b)
  | .UnaryOp .USub a _=>dUn Ut (wE n G a)
  | .UnaryOp .Not a _=>ar3 G.K (wE n G a)
  | .UnaryOp .Invert a _=>dUn ad1 (wE n G a)
  | .BoolOp op es _=>Tl G.K op (es.map (wE n G))
  | .Compare a ops bs _=>match Ub G ops bs with
   | some (neg,kvs)=>dUn (Q6 neg kvs) (wE n G a)
   | none=>Xe G ops bs (wE n G a) (bs.map (wE n G))
  | .IfExp t a b _=>bj5 (wT n G t) (wE n G a) (wE n G b)
  | .List es _=>if es.all noStar=true then C6 (Co (es.map (wE n G))) else dNo
  | .Tuple es _ _=>if es.all noStar=true then Ij (Co (es.map (wE n G))) else dNo
  | .Subscript a (.Slice lo hi none _) _=>dSl G.K (wE n G a) (match lo with|none=>Cu|some l=>Df (wE n G l)) (match hi with|none=>Cu|some h=>Df (wE n G h))
  | .Subscript a b _=>if Fm b=true then (match Oe G a with
   | some kvs=>dUn (bc2 kvs) (wE n G b)
   | none=>Ae (A6 G.K) (wE n G a) (wE n G b)) else dNo
  | .Attribute o f _=>if Ci o=true then dUn (Cl G.K f) (wE n G o) else dNo
  | .Call (.Name x _) es [] _=>if at5 G x es=true then bj3 (ar9 G.gb) es.length (Pm G x) (Co (es.map (wE n G))) else match Qc G x es with
   | some z=>fzD G.K (wE n G) z
   | none=>ag6 G x es (es.map (wE n G))
  | .Call (.Name x _) [a] [⟨some k,.Attribute o m _,_⟩] _=>if x = "sorted" /\ k = "key" /\ Fs G x=true/\G.gb.lookup x=none/\G.bl.contains x=true/\noStar a=true/\Ci o=true/\G.calm=true then (match Go G.gb m with
   | some l=>Tq G.K m l (wE n G a) (wE n G o)
   | none=>dNo) else dNo
  | .Dict ks vs _=>if ks.isEmpty=true/\vs.isEmpty=true then Ig else dNo
  | .Call (.Attribute o m ap) es [] cp=>Sz G o m es ap cp (wE n G o) (es.map (wE n G))
  | .ListComp elt [⟨tg,iter,ifs,0⟩] sc _=>if G.calm=true/\Et G sc=true/\J2 iter=true then
    Dx (Fd G sc.names) (wI n G tg iter) (wG n (Cq G sc.names) tg) (match ifs with | []=>Hf | [c]=>wT n (Cq G sc.names) c|_=>tNo) (wE n (Cq G sc.names) elt) else dNo
  | _=>dNo
noncomputable def wT:Nat->Sg->Expr->DT
 | 0,_,_=>tNo
 | n+1,G,e=>match e with
  | .UnaryOp .Not a _=>Hd (wT n G a)
  | .BoolOp op es _=>Tk op (es.map (wT n G))
  | .Compare a ops bs _=>match Ub G ops bs with
   | some (neg,kvs)=>A7 (dUn (Q6 neg kvs) (wE n G a))
   | none=>A7 (Xe G ops bs (wE n G a) (bs.map (wE n G)))
  | .IfExp _ _ _ _=>tNo
  | e=>He G.K (wE n G e)
noncomputable def wI:Nat->Sg->Expr->Expr->DI
 | 0,_,_,_=>iNo
 | n+1,G,tg,e=>match e with
  | .Call (.Name x _) (a::es) [] _=>
   if x = "range" /\ Fs G x=true/\G.gb.lookup x=none/\G.bl.contains x=true/\(a::es).all noStar=true then Qh (Co ((a::es).map (wE n G)))
   else if x = "enumerate" /\ Fs G x=true/\G.gb.lookup x=none/\G.bl.contains x=true/\(a::es).all noStar=true then (match tg with
    | .Tuple _ _ _=>iEn G.K (Co ((a::es).map (wE n G)))
    | _=>iNo)
   else if x = "reversed" /\ Fs G x=true/\G.gb.lookup x=none/\G.bl.contains x=true/\noStar a=true/\es.isEmpty=true then aj3 G.K (wE n G a)
   else Di G.K (wE n G e)
  | .ListComp a b c d=>Di G.K (ar5 (wE n G (.ListComp a b c d)))
  | e=>Di G.K (wE n G e)
end
theorem au7 {X:Cx} {e:Expr}:QT X e tNo:=fun _ _ _ _ _ _ _ _ h=>h.elim
theorem Bx {X:Cx} {w:Expr->DE} (h:∀ e,QE X e (w e)):∀ {es:List Expr},es.all noStar=true->QA X es (Co (es.map w))
 | [],_=>Nh
 | e::es,hs=>by
  rw [bF,aw] at hs
  exact Iy (h e) (Bx h hs.2) hs.1
theorem Ni {X:Cx} {w:Expr->DE} {op:BoolOp} {pos:Pos} (h:∀ e,QE X e (w e)):∀ {es:List Expr},QE X (.BoolOp op es pos) (Tl X.K op (es.map w))
 | []=>Bf
 | [e]=>ba1 (h e)
 | e::e'::es=>by
  cases op with
  | And=>exact a87 (h e) (Ni h)
  | Or=>exact bq0 (h e) (Ni h)
theorem Nk {X:Cx} {w:Expr->DT} {op:BoolOp} {pos:Pos} (h:∀ e,QT X e (w e)):∀ {es:List Expr},QW X (.BoolOp op es pos) (Tk op (es.map w))
 | []=>fun _ _ _ _ _ _ _ _ _ h=>h.elim
 | [e]=>by
  cases op with
  | And=>exact ao3 (h e)
  | Or=>exact bb9 (h e)
 | e::e'::es=>by
  cases op with
  | And=>exact bb8 (h e) (Nk h)
  | Or=>exact bq2 (h e) (Nk h)
section
variable {X:Cx} {G:Sg}
theorem an1 (O:GOk X G) {w:Expr->DE} (h:∀ e,QE X e (w e)) (a:Expr) (ops:List mL) (bs:List Expr) (pos:Pos):QE X (.Compare a ops bs pos) (Xe G ops bs (w a) (bs.map w)):=by
 unfold Xe
 rw [<- O.K]
 split
 ·rename_i op b d e
  have:d=w b:=by simpa using e.symm
  subst this
  split
  ·exact a91 O.units op (h a) (h b) ‹_›
  ·exact Bf
 ·rename_i op op' b c d d' e
  have:w b=d/\w c=d':=by simpa using e
  obtain⟨rfl,rfl⟩:=this
  split
  ·exact ab8 O.units op op' (h a) (h b) (h c) ‹_›
  ·exact Bf
 ·exact Bf
theorem ao2 (O:GOk X G) {w:Expr->DE} (h:∀ e,QE X e (w e)) (a:Expr) (ops:List mL) (bs:List Expr) (pos:Pos):QT X (.Compare a ops bs pos) (A7 (Xe G ops bs (w a) (bs.map w))):=by
 unfold Xe
 rw [<- O.K]
 split
 ·rename_i op b d e
  have:d=w b:=by simpa using e.symm
  subst this
  split
  ·exact bb4 O.units op (h a) (h b) ‹_›
  ·exact fun _ _ _ _ _ _ _ _ h=>h.elim
 ·rename_i op op' b c d d' e
  have:w b=d/\w c=d':=by simpa using e
  obtain⟨rfl,rfl⟩:=this
  split
  ·exact ac8 O.units op op' (h a) (h b) (h c) ‹_›
  ·exact fun _ _ _ _ _ _ _ _ h=>h.elim
 ·exact fun _ _ _ _ _ _ _ _ h=>h.elim
theorem ab7 (O:GOk X G) {w:Expr->DE} (h:∀ e,QE X e (w e)) (x:Str) (es:List Expr) (p pos:Pos):QE X (.Call (.Name x p) es [] pos) (ag6 G x es (es.map w)):=by
 unfold ag6
 split
 ·rename_i hh
  obtain⟨hg,_,hs⟩:=hh
  have dd:=Hl hg
  split
  ·rename_i i e
   obtain⟨hm,F⟩:=O.at_ x _ e
   split
   ·rename_i hl
    cases es with
    | nil=>exact ab6 F (by have:=hl.1;omega) (O.gl hg) hm dd.1
    | cons e es=>exact an0 F (by have:=hl.1;omega) (O.gl hg) hm (Bx h hs) hs dd.1
   ·exact Bf
  ·rename_i C oi e
   obtain⟨hm,kp,c,hi⟩:=O.at_ x _ e
   split
   ·cases es with
    | nil=>exact Uq (j:=0) c hi (fun i z=>nomatch z) kp (O.gl hg) hm dd.1
    | cons e es=>exact Q0 (j:=0) c hi (fun i z=>nomatch z) kp (O.gl hg) hm (Bx h hs) hs dd.1
   ·rename_i i
    split
    ·rename_i hl
     cases es with
     | nil=>exact Uq c hi (fun i z=>by cases z;have:=hl.1;omega) kp (O.gl hg) hm dd.1
     | cons e es=>exact Q0 c hi (fun i z=>by cases z;have:=hl.1;omega) kp (O.gl hg) hm (Bx h hs) hs dd.1
    ·exact Bf
  ·rename_i C oi e
   obtain⟨hm,kp,hi⟩:=O.at_ x _ e
   split
   ·cases es with
    | nil=>exact Up (j:=0) hi (fun i z=>nomatch z) kp (O.gl hg) hm dd.1
    | cons e es=>exact Bf
   ·rename_i i
    split
    ·rename_i hl
     cases es with
     | nil=>exact Up hi (fun i z=>by cases z;have:=hl.1;omega) kp (O.gl hg) hm dd.1
     | cons e es=>exact a97 hi (fun i z=>by cases z;have:=hl.1;omega) kp (O.gl hg) hm (Bx h hs) hs dd.1
    ·exact Bf
  ·exact Bf
  ·rename_i e
   split
   ·rename_i hb
    split
    ·rename_i f r er
     split
     ·exact Bf
     ·rename_i hne
      cases es with
      | nil=>exact absurd rfl hne
      | cons e es=>
       rw [<- O.K] at er
       obtain⟨b1,b2⟩:=ah8 O.units er O.calm
       exact a89 b2 (O.gl hg) (O.bl x hb) b1 (Bx h hs) hs dd.2.2 dd.1
    ·exact Bf
   ·exact Bf
 ·exact Bf
theorem ac0 (O:GOk X G) {w:Expr->DE} (h:∀ e,QE X e (w e)) (o:Expr) (m:Str) (es:List Expr) (ap cp:Pos):QE X (.Call (.Attribute o m ap) es [] cp) (ag8 G o m es ap cp (w o) (es.map w)):=by
 unfold ag8
 rw [<- O.K]
 split
 ·rename_i hh
  obtain⟨h1,h2,h3,h4⟩:=hh
  split
  ·cases es with
   | nil=>exact a98 (fun b hb=>Zz O.units hb) (h o) h1 h4
   | cons e es=>exact bp9 (fun b hb=>Zz O.units hb) (h o) (Bx h h2) h1 h2 h3 h4
  ·rename_i l e
   cases es with
   | nil=>exact an4 (O.met m l e) (h o) h1 h4
   | cons e es=>exact ba2 (O.met m l ‹_›) (h o) (Bx h h2) h1 h2 h3 h4
 ·exact Bf
end
theorem ab9 {X:Cx} {G:Sg} (O:GOk X G) {w:Expr->DE} (h:∀ e,QE X e (w e)) (o:Expr) (m:Str) (es:List Expr) (ap cp:Pos):QE X (.Call (.Attribute o m ap) es [] cp) (Sz G o m es ap cp (w o) (es.map w)):=by
 unfold Sz
 split
 ·rename_i i e
  unfold ax3 at e
  split at e
  ·rename_i c p
   split at e
   ·rename_i hh
    obtain⟨rfl,h1,h2,h3,h4,h5,h6,h7⟩:=hh
    split at e
    ·rename_i C i' eg
     split at e
     ·rename_i hl
      cases e
      obtain⟨g1,g2,g3⟩:=O.at_ c _ eg
      have hn:QE X (.Name c p) (dC (.ref C)):=by
       have q:=Nj O c p
       unfold Pm at q
       rw [h2] at q
       simp only [h1,if_true,eg] at q
       exact q
      cases es with
      | nil=>cases h3
      | cons e es=>exact a93 hn g2 g3 hl (Bx h h5) h4 h5 h6 h7
     ·cases e
    ·cases e
   ·cases e
  ·cases e
 ·exact ac0 O h o m es ap cp
theorem Dy {X:Cx} {G:Sg} (O:GOk X G) {x:Str} (h:Wa G x=true):Gl X x/\X.mg x=none:=by
 unfold Wa at h
 rw [aw,aw] at h
 exact⟨O.gl h.1.1,O.bl _ h.2⟩
theorem an3 {X:Cx} {G:Sg} (O:GOk X G) {w:Expr->DE} (h:∀ e,QE X e (w e)) {x:Str} {es:List Expr} {p pos:Pos} {z:Fz} (e:Qc G x es=some z) :
  QE X (.Call (.Name x p) es [] pos) (fzD G.K w z):=by
 unfold Qc at e
 split at e
 ·split at e
  ·rename_i hh
   obtain⟨rfl,rfl,h1,h2,h3,h4⟩:=hh
   cases e
   rw [<- O.K]
   exact Q3 (O.calm▸h4) (Dy O h1).1 (Dy O h1).2 (Dy O h2).1 (Dy O h2).2 (h _) h3
  ·split at e
   ·rename_i hh
    obtain⟨rfl,rfl,h1,h2,h3,h4⟩:=hh
    cases e
    rw [<- O.K]
    exact Wv (O.calm▸h4) (Dy O h1).1 (Dy O h1).2 (Dy O h2).1 (Dy O h2).2 (h _) h3
   ·cases e
 ·cases e
theorem Jl {X:Cx} {G:Sg} (O:GOk X G) {e:Expr} {kvs:List (Key×V)} (h:Oe G e=some kvs):∃ x p a,e=.Name x p/\Ny X.prog X.w X.K a kvs/\QE X (.Name x p) (dC (.ref a)):=by
 unfold Oe at h
 split at h
 ·rename_i x p
  split at h
  ·rename_i hg
   split at h
   ·rename_i a kvs' e
    cases h
    obtain⟨hm,k⟩:=O.at_ x _ e
    exact⟨x,p,a,rfl,k,fun Ex m=>G1 (O.gl hg) hm rfl (Hl hg).1⟩
   ·cases h
  ·cases h
 ·cases h
theorem On {X:Cx} {G:Sg} (O:GOk X G) {ops:List mL} {bs:List Expr} {neg:Bool} {kvs:List (Key×V)} (h:Ub G ops bs=some (neg,kvs)):∃ x p a,ops=[if neg then .NotIn else .In]/\bs=[.Name x p]/\Ny X.prog X.w X.K a kvs/\QE X (.Name x p) (dC (.ref a))/\dR (if neg then .NotIn else .In) (.Name x p)=false:=by
 unfold Ub at h
 split at h
 ·split at h
  ·rename_i hb
   obtain⟨k,hk,e⟩:=Option.map_eq_some_iff.mp h
   cases e
   obtain⟨x,p,a,rfl,h1,h2⟩:=Jl O hk
   exact⟨x,p,a,rfl,rfl,h1,h2,hb⟩
  ·cases h
 ·split at h
  ·rename_i hb
   obtain⟨k,hk,e⟩:=Option.map_eq_some_iff.mp h
   cases e
   obtain⟨x,p,a,rfl,h1,h2⟩:=Jl O hk
   exact⟨x,p,a,rfl,rfl,h1,h2,hb⟩
  ·cases h
 ·cases h
theorem bi0:∀ (n:Nat) (X:Cx) (G:Sg),GOk X G->(∀ e,QE X e (wE n G e))/\(∀ e,QT X e (wT n G e))/\(∀ tg e,QI X tg e (wI n G tg e)):=by
 intro n
 induction n with
 | zero=>
  intro X G O
  refine⟨fun e=>?_,fun e=>?_,fun tg e=>?_⟩
  ·unfold wE;exact Bf
  ·unfold wT;exact au7
  ·unfold wI;exact au6
 | succ n ih=>
  intro X G O
  obtain⟨hE,hT,hI⟩:=ih X G O
  have hv:∀ tg e,QI X tg e (Di G.K (wE n G e)):=fun tg e=>by rw [<- O.K];exact ac3 (hE e)
  refine⟨fun e=>?_,fun e=>?_,fun tg e=>?_⟩
  ·unfold wE
   split
   ·exact O0 _ _ _
   ·exact Nj O _ _
   ·rw [<- O.K];exact a88 _ (hE _) (hE _)
   ·exact a99 (hE _)
   ·rw [<- O.K];exact ba0 (hE _)
   ·exact a94 (hE _)
   ·rw [<- O.K];exact Ni hE
   ·split
    ·rename_i neg kvs e
     obtain⟨x,p,a,rfl,rfl,h1,h2,h3⟩:=On O e
     exact a92 h1 h2 (hE _) h3
    ·exact an1 O hE _ _ _ _
   ·exact bp7 (hT _) (hE _) (hE _)
   ·split
    ·exact a96 (Bx hE ‹_›)
    ·exact Bf
   ·split
    ·exact ba3 (Bx hE ‹_›)
    ·exact Bf
   ·rw [<- O.K]
    refine ac1 (hE _) ?_ ?_
    ·split
     ·exact Ur
     ·exact Us (hE _)
    ·split
     ·exact Ur
     ·exact Us (hE _)
   ·split
    ·rename_i hs
     split
     ·rename_i kvs e
      obtain⟨x,p,a,rfl,h1,h2⟩:=Jl O e
      exact a95 h1 h2 (hE _) hs
     ·rw [<- O.K];exact bp8 O.units (hE _) (hE _) hs
    ·exact Bf
   ·split
    ·rw [<- O.K];exact am9 (hE _) (Do ‹_› _ X.env _)
    ·exact Bf
   ·split
    ·rename_i x p es pos hl
     unfold at5 at hl
     rw [aw,aw] at hl
     cases es with
     | nil=>cases hl.1.2
     | cons e es=>exact a90 (fun i hi=>O.fns hi) (Nj O x p) (Bx hE hl.2) hl.2
    ·split
     ·exact an3 O hE ‹_›
     ·exact ab7 O hE _ _ _ _
   ·split
    ·rename_i hh
     obtain⟨rfl,rfl,h1,_,h2,h3,h4,h5⟩:=hh
     split
     ·rename_i l el
      obtain⟨k,hk⟩:=Ez el
      rw [<- O.K]
      exact an5 (O.calm▸h5) (O.gb _ _ hk) (O.gl h1) (O.bl _ h2) (hE _) (hE _) h3 h4
     ·exact Bf
    ·exact Bf
   ·rename_i ks vs p0
    split
    ·rename_i hh
     have e1:ks=[]:=by simpa using hh.1
     have e2:vs=[]:=by simpa using hh.2
     subst e1 e2
     exact an2
    ·exact Bf
   ·exact ab9 O hE _ _ _ _ _
   ·split
    ·rename_i hh
     obtain⟨h1,h2,h3⟩:=hh
     refine Uo O (O.calm▸h1) h2 h3 (hI _ _) (fun X' O'=>Pl n X' _ O' _) (fun X' O'=>?_) (fun X' O'=>(ih X' _ O').1 _)
     split
     ·exact O1
     ·exact O2 ((ih X' _ O').2.1 _)
     ·exact fun _ _ _ _ _ _ _ _ h=>h.elim
    ·exact Bf
   ·exact Bf
  ·unfold wT
   split
   ·exact bb6 (hT _)
   ·exact fun Ex m=>PW.pt (Nk hT Ex m)
   ·split
    ·rename_i neg kvs e
     obtain⟨x,p,a,rfl,rfl,h1,h2,h3⟩:=On O e
     exact bb5 h1 h2 (hE _) h3
    ·exact ao2 O hE _ _ _ _
   ·exact au7
   ·rename_i h1 h2 h3 h4
    rw [<- O.K]
    refine bb7 (hE _) ?_
    cases e with
    | UnaryOp op a p=>cases op <;> first|rfl|exact absurd rfl (h1 _ _)
    | BoolOp op es p=>exact absurd rfl (h2 _ _ _)
    | Compare a b c p=>exact absurd rfl (h3 _ _ _ _)
    | IfExp a b c p=>exact absurd rfl (h4 _ _ _ _)
    | _=>rfl
  ·unfold wI
   split
   ·split
    ·rename_i hh
     obtain⟨rfl,h1,_,h2,h3⟩:=hh
     exact ac2 (O.gl h1) (O.bl _ h2) (Bx hE h3) h3
    ·split
     ·rename_i hh
      obtain⟨rfl,h1,_,h2,h3⟩:=hh
      split
      ·rw [<- O.K];exact an7 (O.gl h1) (O.bl _ h2) (Bx hE h3) h3
      ·exact au6
     ·split
      ·rename_i hh
       obtain⟨rfl,h1,_,h2,h3,h4⟩:=hh
       rw [List.isEmpty_iff.mp h4,<- O.K]
       exact ba5 (O.gl h1) (O.bl _ h2) (hE _) h3
      ·exact hv _ _
   ·rw [<- O.K];exact ac3 (an6 (hE _))
   ·exact hv _ _
noncomputable def Cx.tr (X:Cx) (pn:List (Addr×Obj)) (xe:Value->ai->Prop):Cx:={ X with pn:=pn,xe:=xe }
noncomputable def Cx.hd (X:Cx) (a:Addr):Cx:={ X with A:=X.A.mark (some (.ref a)),calm:=false,xe:=fun _ _=>False }
section
variable {X:Cx} {pins pins':List (Addr×Obj)} {σ:St} {H:Hp} {s:ai} {a C:Addr} {dx:Option Addr} {xe:Value->ai->Prop}
theorem bl9 {pn:List (Addr×Obj)} (o:X.Ok):(X.tr pn xe).Ok:=⟨o.mod,o.kind,o.glob,o.blt,o.above,o.inj,o.has,o.cab,o.hd,o.frames,o.stk,o.exf,o.bs,o.bsz,o.noex,o.exfs,o.funs,o.frf,o.tk⟩
theorem ak9 {pn:List (Addr×Obj)} (o:(X.tr pn xe).Ok):X.Ok:=⟨o.mod,o.kind,o.glob,o.blt,o.above,o.inj,o.has,o.cab,o.hd,o.frames,o.stk,o.exf,o.bs,o.bsz,o.noex,o.exfs,o.funs,o.frf,o.tk⟩
theorem a33 (I:Inv X pins σ H s):Inv (X.tr (X.pn++pins) xe) [] σ H s:=
 ⟨bl9 I.ok,I.os,I.bare,I.base,I.loc,I.cell,I.free,I.freeC,fun p hp=>I.pin p (by rw [cO] at hp;exact hp),I.hok,I.len⟩
theorem E1 (I:Inv (X.tr (X.pn++pins) xe) pins' σ H s):Inv X pins σ H s:=
 ⟨ak9 I.ok,I.os,I.bare,I.base,I.loc,I.cell,I.free,I.freeC,fun p hp=>I.pin p (d7 _ hp),I.hok,I.len⟩
theorem Za (F:Ft (X.tr (X.pn++pins) xe) pins' H a s):Ft X pins H a s:=by
 obtain⟨C,dx,vs,h1,h2,h3,h4⟩:=F
 refine⟨C,dx,vs,h1,h2,h3,h4.imp id fun⟨T,oT,ts,q1,q2,q3,q4,q5,q6⟩=>⟨T,oT,ts,q1,q2,q3,q4,q5,?_⟩⟩
 obtain⟨r1,r2,r3,r4,r5,r6⟩:=q6
 exact⟨r1,r2,r3,r4,r5,fun p hp=>r6 p (d7 _ hp)⟩
theorem ap5 {D:K2} {f:Flow} (h:SP (X.tr (X.pn++pins) xe) pins' D f s):SP X pins D f s:=by
 cases f with
 | next=>obtain⟨σ',H',I,q⟩:=h;exact⟨σ',H',E1 I,q⟩
 | brk=>obtain⟨σ',H',I,q⟩:=h;exact⟨σ',H',E1 I,q⟩
 | cont=>obtain⟨σ',H',I,q⟩:=h;exact⟨σ',H',E1 I,q⟩
 | ret u=>obtain⟨v,σ',H',I,r,q⟩:=h;exact⟨v,σ',H',E1 I,r,q⟩
theorem Hk (I:Inv X pins σ H s):Inv (X.hd a) pins σ H s:=
 ⟨⟨I.ok.mod,I.ok.kind,I.ok.glob,I.ok.blt,I.ok.above,I.ok.inj,I.ok.has,I.ok.cab,(fun z=>by cases z),I.ok.frames,I.ok.stk,I.ok.exf,I.ok.bs,I.ok.bsz,I.ok.noex,I.ok.exfs,I.ok.funs,I.ok.frf,I.ok.tk⟩,I.os,I.bare,I.base,I.loc,I.cell,I.free,I.freeC,I.pin,I.hok,I.len⟩
theorem D7 (o:X.Ok) (I:Inv (X.hd a) pins σ H s):Inv X pins σ H s:=⟨o,I.os,I.bare,I.base,I.loc,I.cell,I.free,I.freeC,I.pin,I.hok,I.len⟩
theorem U4 {D:K2} {f:Flow} (o:X.Ok) (h:SP (X.hd a) pins D f s):SP X pins D f s:=by
 cases f with
 | next=>obtain⟨σ',H',I,q⟩:=h;exact⟨σ',H',D7 o I,q⟩
 | brk=>obtain⟨σ',H',I,q⟩:=h;exact⟨σ',H',D7 o I,q⟩
 | cont=>obtain⟨σ',H',I,q⟩:=h;exact⟨σ',H',D7 o I,q⟩
 | ret u=>obtain⟨v,σ',H',I,r,q⟩:=h;exact⟨v,σ',H',D7 o I,r,q⟩
end
inductive HK where
 | no
 | as (i:Nat)
 | up (T:Addr)
noncomputable def asD (a:Addr) (u:DS):HK->DS
 | .no=>fun D σ H=>u { D with ex:=fun _ _ _=>False } σ H
 | .up T=>fun D σ H=>(∃ C dx,H a=some (flO a C dx)) /\ ∀ b,H b=none->D.ex σ b (upd H b (fcO b T none))
 | .as i=>fun D σ H=>u ⟨fun σ' H'=>D.nx (σ'.set i none) H',D.rt,fun σ' H'=>D.bk (σ'.set i none) H',fun σ' H'=>D.ct (σ'.set i none) H',fun _ _ _=>False⟩ (σ.set i (some (.ref a))) H
noncomputable def Jf (K:aa) (C a:Addr):List (Addr×HK×DS)->Mo->St->Hp->Prop
 | [],_,_,_=>False
 | (T,oi,u)::r,D,σ,H=>∃ b,gM K C (.ref T)=some b/\(if b=true then asD a u oi D σ H else Jf K C a r D σ H)
noncomputable def ai0 (K:aa) (tb:DS) (us:List (Addr×HK×DS)):DS:=fun D σ H=>tb { D with ex:=fun σ' a H'=>∃ C dx,FlO H' a C dx/\ECls K C/\Jf K C a us D σ' H' } σ H
inductive Xf (X:Cx):Option Str->HK->Prop where
 | no:Xf X none .no
 | as {n:Str} {i:Nat} (hN:X.N.Nodup) (hi:X.N[i]? = some n) (hl:X.env.scope.names.lookup n=some .local):Xf X (some n) (.as i)
inductive Nw (X:Cx):List ExceptHandler->List (Addr×HK×DS)->Prop where
 | nil:Nw X [] []
 | cons {x:Str} {p pos:Pos} {nm:Option Str} {oi:HK} {b:Stmt} {suite:List Stmt} {rest:List ExceptHandler} {T:Addr} {u:DS} {us:List (Addr×HK×DS)} (hg:Gl X x) (hm:X.mg x=some (.ref T)) (hd:(x==("__debug__" : Str))=false) (ec:ECls X.K T) (ha:Xf X nm oi) (hs:∀ a,QSs (X.hd a) (b::suite) u) (r:Nw X rest us) :
   Nw X (.ExceptHandler (some (.Name x p)) nm (b::suite) pos::rest) ((T,oi,u)::us)
 | up {x y z:Str} {p p1 p2 p3 p4 p5 pos:Pos} {k k2:Nat} {rest:List ExceptHandler} {T T':Addr} {u:DS} {us:List (Addr×HK×DS)} (hg:Gl X x) (hm:X.mg x=some (.ref T)) (hd:(x==("__debug__" : Str))=false) (ec:ECls X.K T)
   (hgy:Gl X y) (hmy:X.mg y=some (.ref T')) (hdy:(y==("__debug__" : Str))=false) (ecy:ECls X.K T') (kpy:aV X.K (.ref T')=true) (iny:Fv X T' none) (r:Nw X rest us) :
   Nw X (.ExceptHandler (some (.Name x p)) none [.Raise (some (.Call (.Name y p1) [.Constant (.str z) k p2] [] p3)) (some (.Constant .none k2 p4)) p5] pos::rest) ((T,.up T',u)::us)
theorem K7:nv table "proto.unchain" = some aT.«proto.unchain»:=entryFor_of_fast (by kernel_rfl)
theorem O6 {prog:aK} {w:bt} {A:bg} {E:Value->ai->Prop} {s:ai} {Q:Flow->ai->Prop} {e a:Addr} {oa oe:Obj} {va ve:Array Value} (hh:A.handled=some (.ref a)) (ne:a≠e) (ha:s.heap.get? a=some oa) (hda:oa.data=.fields va) (h2:va[2]? = some .none)
  (he:s.heap.get? e=some oe) (hde:oe.data=.fields ve) (hz:2<ve.size) (h:E (.ref e) { s with heap:=s.heap.update e (bc (·.setIfInBounds 2 (.ref a))) }):aG (model prog w) A (mJ (.ref e):Sem Flow) Q E s:=by
 unfold mJ
 refine ac (md ?_)
 rw [hh]
 have hne:(aM a != aM e)=true:=by simpa using ne
 simp only [hne,if_true]
 refine ac (bp (jj (c7 K7 ?_)))
 unfold aT.«proto.unchain»
 refine ac (b_ ha hda h2 ?_)
 rw [if_pos (by rfl)]
 refine ah ?_
 show aG (model prog w) A (jL (.ref e) 2 (.ref a) >>= fun _=>throw (.ref e)) Q E s
 refine ac (cG he hde hz ?_)
 exact lK h
section
variable {X:Cx} {pins:List (Addr×Obj)}
theorem ae1 {σ:St} {H:Hp} {s1:ai} {a C1 T':Addr} {dx1:Option Addr} {y z:Str} {p1 p2 p3 p4 p5:Pos} {k k2:Nat} {Qf:Flow->ai->Prop} {Ee:Value->ai->Prop} (I1:Inv X pins σ H s1) (ea:H a=some (flO a C1 dx1))
  (hgy:Gl X y) (hmy:X.mg y=some (.ref T')) (hdy:(y==("__debug__" : Str))=false) (ecy:ECls X.K T') (kpy:aV X.K (.ref T')=true) (iny:Fv X T' none)
  (hE:∀ b s',H b=none->Inv X pins σ (upd H b (fcO b T' none)) s'->Ft X pins (upd H b (fcO b T' none)) b s'->Ee (.ref b) s') :
  aG (model X.prog X.w) (X.A.mark (some (.ref a))) (exec (.Raise (some (.Call (.Name y p1) [.Constant (.str z) k p2] [] p3)) (some (.Constant .none k2 p4)) p5) X.env) Qf Ee s1:=by
 have he:QE (X.hd a) (.Call (.Name y p1) [.Constant (.str z) k p2] [] p3) _:=Q0 (X:=X.hd a) (oi:=none) (j:=0) (r:=Aa (dC (.str z)) Af) ecy iny (fun i h=>by cases h) kpy hgy hmy (Iy (O0 (.str z) k p2) Nh rfl) rfl hdy
 rw [arm_exec_Raise]
 show aG _ _ (do lH p5;mU X.env (some (do let v <- eval (.Call (.Name y p1) [.Constant (.str z) k p2] [] p3) X.env;lH p5;pure v)) (some (do let v <- eval (.Constant .none k2 p4) X.env;lH p5;pure v))) _ _ _
 refine ac (dS ?_)
 unfold mU
 refine ac (ac (bL (he _ E5 pins s1 σ H (fun x H1=>∃ b,x=.ref b/\H b=none/\H1=upd H b (Ep b T' none)) (Hk I1) ⟨by simp,fun b hb=>⟨b,rfl,hb,rfl⟩⟩) (fun v s2 ⟨x,H1,I2,r1,b,e1,hb,e2⟩=>ac (dS (ah ?_))) fun _ _ z=>z.elim))
 subst e1 e2
 cases r1
 have I2:=D7 I1.ok I2
 obtain⟨vs,g1,g2,g3,g4⟩:=Jq I2 Ad
 obtain⟨nm,qn,N,bs,bm,hdct,sn,sub,ab,col,dd,k0,k1,k2',k3,k5,hl,ht,hd⟩:=ecy.obj
 have hC:=I2.kIn _ _ hl
 have hb0:bm.contains (.type "BaseException")=true:=Bo ht (by decide +kernel)
 have hcB:(aM T'::bm).contains (.type "BaseException")=true:=by rw [bM,hb0,fK]
 have nab:a≠b:=fun z=>by rw [z,hb] at ea;cases ea
 obtain⟨va,ga1,ga2,ga3⟩:=Y9 I2 (a:=a) (C:=C1) (dx:=dx1) (by rw [Ah nab];exact ea)
 obtain⟨hp,g,d,tk,os⟩:=s2
 repeat (first|with_reducible refine b_ g1 rfl g3 ?_|with_reducible refine bu g1 ?_|with_reducible refine bu hC ?_|(with_reducible refine cw hC ?_;rw [hcB])|wp_step)
 have nTb:T'≠b:=fun z=>by
  rw [z] at hC
  rw [hC] at g1
  have:=congrArg (fun o=>o.map Obj.data) g1
  simp [fj] at this
 have q3:(hp.update b (bc fun x=>x.setIfInBounds 3 bh)).get? b=some (Aq T' none (vs.setIfInBounds 3 .none)):=aW _ g1 (bR (vs:=vs.setIfInBounds 3 .none) rfl)
 have q4:((hp.update b (bc fun x=>x.setIfInBounds 3 bh)).update b (bc fun x=>x.setIfInBounds 4 (iF true))).get? b=some (Aq T' none ((vs.setIfInBounds 3 .none).setIfInBounds 4 (.bool true))):=aW _ q3 (bR (vs:=(vs.setIfInBounds 3 .none).setIfInBounds 4 (.bool true)) rfl)
 have keep:∀ c u,c≠b->hp.get? c=some u->((hp.update b (bc fun x=>x.setIfInBounds 3 bh)).update b (bc fun x=>x.setIfInBounds 4 (iF true))).get? c=some u:=fun c u ne e=>(aN _ _ ne.symm).trans ((aN _ _ ne.symm).trans e)
 have hC2:=keep _ _ nTb hC
 have ga':=keep _ _ nab ga1
 have w1:((vs.setIfInBounds 3 .none).setIfInBounds 4 (.bool true))[1]? = some bh:=by rw [cW (by decide),cW (by decide)];exact g3
 have wz:((vs.setIfInBounds 3 .none).setIfInBounds 4 (.bool true)).size=6:=by rw [d8,d8];exact g2
 generalize ((vs.setIfInBounds 3 .none).setIfInBounds 4 (.bool true))=v2 at q4 w1 wz
 generalize (hp.update b (bc fun x=>x.setIfInBounds 3 bh)).update b (bc fun x=>x.setIfInBounds 4 (iF true))=hp2 at q4 keep hC2 ga' ⊢
 repeat (first|with_reducible refine b_ q4 rfl w1 ?_|with_reducible refine bu q4 ?_|with_reducible refine bu hC2 ?_|wp_step)
 have q5:(hp2.update b (bc fun x=>x.setIfInBounds 2 (.ref a))).get? b=some (Aq T' none (v2.setIfInBounds 2 (.ref a))):=aW _ q4 (bR (vs:=v2.setIfInBounds 2 (.ref a)) rfl)
 have wz5:(v2.setIfInBounds 2 (.ref a)).size=6:=by rw [d8];exact wz
 have w5:(v2.setIfInBounds 2 (.ref a))[1]? = some bh:=by rw [cW (by decide)];exact w1
 refine O6 rfl nab ga' rfl ga3 q4 rfl (by rw [wz];decide) ?_
 have I3:Inv X pins σ (upd H b (fcO b T' none)) { heap:=hp2.update b (bc fun x=>x.setIfInBounds 2 (.ref a)),gens:=g,drawn:=d,toks:=tk,os:=os }:=by
  have:=I2.write (x:=b) (e:=b) (h':=hp2.update b (bc fun x=>x.setIfInBounds 2 (.ref a))) (t':=tk) (o:=fcO b T' none) (by rw [Ad];exact bH) (.inl rfl) (fun c u ne z=>(aN _ _ ne.symm).trans (keep c u ne z)) ⟨_,q5⟩ (Y7 q5 wz5)
  rw [aq7] at this
  exact this
 exact hE b _ hb I3 ⟨T',none,_,.inr Ad,q5,wz5,.inl w5⟩
theorem Fl {M:nG} {A:bg} {E:Value->ai->Prop} {σ:St} {H:Hp} {s:ai} {i:Nat} {x:Str} {pos:Pos} {Q:Unit->ai->Prop} (I:Inv X pins σ H s) (hN:X.N.Nodup) (hi:X.N[i]? = some x) (hk:X.env.scope.names.lookup x=some .local)
  (h:∀ s',Inv X pins (σ.set i none) H s'->Q () s'):aG M A (do bindName X.env x .none;unbindBehindTheSuite X.env x pos) Q E s:=by
 obtain⟨m,hn,hl⟩:=id I.loc
 refine wpAny_nameGoes_keeps hk hn (by rw [I.ok.kind];rfl) fun h' v hn' sb=>h _ ?_
 have old:∀ {b o},X.s₀.heap.get? b=some o->h'.get? b=s.heap.get? b:=fun {b o} e=>sb.2 b (aE (aO (au e) I.ok.above))
 exact {
  ok:=I.ok
  os:=⟨I.os.1,Nat.le_succ_of_le I.os.2⟩
  bare:=I.bare
  base:={ I.base with
   keep:=fun b o e n hb hx=>by show h'.get? b=_;rw [old e];exact I.base.keep b o e n hb hx
   slot:=fun b o e n hb hx=>by show ∃ sl,h'.get? b=_;rw [old e];exact I.base.slot b o e n hb hx
   there:=fun b o e hx=>by show ∃ o',h'.get? b=_;rw [old e];exact I.base.there b o e hx }
  loc:=⟨_,hn',fun j y w e1 e2 e3=>by
   have hj:j≠i:=fun z=>by
    have lt:i<σ.length:=by rw [I.len];exact (List.getElem?_eq_some_iff.mp hi).1
    rw [z,gR lt] at e2
    cases e2
   rw [ir (bO hj)] at e2
   obtain⟨u,r,q⟩:=hl j y w e1 e2 e3
   have ny:y≠x:=fun z=>hj (J5 hN e1 (z▸hi))
   refine⟨u,r,q.imp (fun⟨k,e⟩=>⟨k,(if_neg ny).trans e⟩) fun⟨k,c,e,z⟩=>⟨k,c,e,z.sameBut sb (I.cne y c e)⟩⟩⟩
  cell:=fun y c e=>let ⟨w,z⟩:=I.cell y c e;⟨w,z.sameBut sb (I.cne y c e)⟩
  free:=I.free
  freeC:=I.freeC
  pin:=fun p hp=>let ⟨e,n,ne,nf,d⟩:=I.pin p hp;⟨(sb.2 p.1 ne).trans e,n,ne,nf,d⟩
  hok:=fun b ob e=>(I.hok b ob e).stay (fun c w hc q=>(sb.2 c (by
   rintro rfl
   have f:=I.free
   rcases hc with rfl|hc
   ·rw [f] at e;cases e
   ·rw [f] at hc;cases hc)).trans q) (fun _ q=>q) fun _ _ q=>q
  len:=by rw [kh];exact I.len }
theorem V2 (hst:X.stack=X.env::X.outer) (hfr:X.env.frame=some X.env.locals) {Ex:St->EK} (mt:Meets X Ex) {D:K2} {hl:List ExceptHandler} {us:List (Addr×HK×DS)} (K:Nw X hl us):∀ {σ:St} {H:Hp} {s:ai} {a C:Addr} {dx:Option Addr},Inv X pins σ H s->Ft X pins H a s->FlO H a C dx->ECls X.K C->Jf X.K C a us (al4 Ex D) σ H ->
  aG (model X.prog X.w) X.A (handleBy (.ref a) X.env hl) (SP X pins D) X.xe s:=by
 induction K with
 | nil=>intro σ H s a C dx I F e ec h;exact h.elim
 | @cons x p pos nm oi b suite rest T u us hg hm hd ecT ha hs r ih=>
  intro σ H s a C dx I F e ec h
  obtain⟨m,hm2,h⟩:=h
  have hx:∃ vs:Array Value,s.heap.get? a=some (Aq C dx vs):=by
   obtain⟨vs,z,_⟩:=Gn I (.inr e)
   exact⟨vs,z⟩
  obtain⟨vs,hx⟩:=hx
  refine lI (kE (Db (X:=X.hd a) (Hk I) hg hm ?_ hd)) (by intro q;cases q)
  refine J0 (A:=(X.hd a).A) I.kIn ec ecT hx hm2 ?_
  cases m with
  | false=>exact ih I F e ec h
  | true=>
   cases ha with
   | no=>
    refine j5 (Hi (A:=(X.hd a).A) I F fun s1 I1 F1=>?_)
    exact bL (hs a (fun _ _ _=>False) E5 pins s1 σ H D (Hk I1) h) (fun f s2 q=>U4 I.ok q) fun _ _ z=>z.elim
   | @as n i hN hi hlo=>
    refine codeAny_handlers_suite_as (Hi (A:=(X.hd a).A) I F fun s1 I1 F1=>?_)
    refine G6 (i:=i) (v:=.ref a) I1 hN hi (.inl hlo) rfl (fun s2 I2=>?_) (.inr hlo)
    refine bL (hs a (fun _ _ _=>False) E5 pins s2 (σ.set i (some (.ref a))) H ⟨fun σ' H'=>D.nx (σ'.set i none) H',D.rt,fun σ' H'=>D.bk (σ'.set i none) H',fun σ' H'=>D.ct (σ'.set i none) H'⟩ (Hk I2) h) (fun f s3 q=>?_) fun _ _ z=>z.elim
    have q:=U4 I.ok q
    cases f with
    | next=>obtain⟨σ',H',I',q⟩:=q;exact Fl I' hN hi hlo fun s4 I4=>⟨_,H',I4,q⟩
    | brk=>obtain⟨σ',H',I',q⟩:=q;exact Fl I' hN hi hlo fun s4 I4=>⟨_,H',I4,q⟩
    | cont=>obtain⟨σ',H',I',q⟩:=q;exact Fl I' hN hi hlo fun s4 I4=>⟨_,H',I4,q⟩
    | ret w=>obtain⟨v,σ',H',I',r,q⟩:=q;exact Fl I' hN hi hlo fun s4 I4=>⟨v,_,H',I4,r,q⟩
 | @up x y z p p1 p2 p3 p4 p5 pos k k2 rest T T' u us hg hm hd ecT hgy hmy hdy ecy kpy iny r ih=>
  intro σ H s a C dx I F e ec h
  obtain⟨m,hm2,h⟩:=h
  obtain⟨vs,hx,_⟩:=Gn I (.inr e)
  refine lI (kE (Db (X:=X.hd a) (Hk I) hg hm ?_ hd)) (by intro q;cases q)
  refine J0 (A:=(X.hd a).A) I.kIn ec ecT hx hm2 ?_
  cases m with
  | false=>exact ih I F e ec h
  | true=>
   refine j5 (Hi (A:=(X.hd a).A) I F fun s1 I1 F1=>?_)
   obtain⟨⟨C1,dx1,ea⟩,hE⟩:=h
   refine wpAny_execs_cons (ae1 I1 ea hgy hmy hdy ecy kpy iny fun b s2 hb I2 F2=>?_)
   refine aa0 (X:=X.hd a) (Hk I2) hst hfr hfr F2 fun s3 z I3 F3=>?_
   have I3:=D7 I.ok I3
   have F3:FlyT X pins (upd H b (fcO b T' none)) b s3 z:=F3
   obtain⟨Cb,dxb,vb,Tb,oT,ts,h1,h2,h3,q1,q2,q3,q4,q5,q6⟩:=id F3
   refine ac (b_ h2 rfl q1 ?_)
   rw [if_neg (by simp)]
   refine U0 I3 F3 fun s4 I4 F4=>?_
   exact mt pins σ _ s4 b I4 F4.at (hE b hb)
theorem bb3 {Y:Cx} {body:List Stmt} {h0:ExceptHandler} {hs:List ExceptHandler} {pos:Pos} {tb:DS} {us:List (Addr×HK×DS)} (hst:Y.stack=Y.env::Y.outer) (hfr:Y.env.frame=some Y.env.locals)
  (hb:∀ pn xe,hZ (model Y.prog Y.w) Y.A Y.env xe->QSs (Y.tr pn xe) body tb) (hh:Nw Y (h0::hs) us):QS Y (.Try body (h0::hs) [] [] pos) (ai0 Y.K tb us):=by
 intro Ex m pins s σ H D I hw
 refine wpAny_Try_except ?_
 refine bL (hb (Y.pn++pins) (fun e s1=>aG (model Y.prog Y.w) Y.A (lX e Y.env) (fun _ s2=>aG (model Y.prog Y.w) Y.A (kI e none) (fun _ s3=>aG (model Y.prog Y.w) Y.A (handleBy e Y.env (h0::hs)) (SP Y pins D) Y.xe s3) Y.xe s2) Y.xe s1) PassesOwn.looking
  (fun σ' a H'=>∃ C dx,FlO H' a C dx/\ECls Y.K C/\Jf Y.K C a us (al4 Ex D) σ' H') ?_ [] s σ H D (a33 I) hw) (fun f s1 q=>?_) fun _ _ z=>z
 ·intro pins' σ' H' s' a I' F' ⟨C,dx,e,ec,h⟩
  exact Uj (E1 I') hst hfr (Za F') fun s2 I2 F2=>V2 hst hfr m hh I2 F2.at e ec h
 ·have q:=ap5 q
  cases f with
  | next=>exact iT q
  | _=>exact q
end
noncomputable def Hu:Expr->Bool
 | .ListComp _ _ _ _=>false
 | .SetComp _ _ _ _=>false
 | .DictComp _ _ _ _ _=>false
 | _=>true
theorem Hv {e:Expr} (h:Hu e=true) (t:Option Expr) (l:Nat) (env:Env):jx e t l env=pure false:=by
 cases e with
 | ListComp _ _ _ _=>cases h
 | SetComp _ _ _ _=>cases h
 | DictComp _ _ _ _ _=>cases h
 | _=>rfl
section
variable {X:Cx} {G:Sg} {st:Stmt} {rest:List Stmt} {t u:DS} {e:Expr} {de:DE} {pos p':Pos}
theorem Bm:QS X st Ck:=fun _ _ _ _ _ _ _ _ h=>h.elim
theorem ao1:QSs X [] Ai:=fun _ _=>am5
theorem ac7 (h1:QS X st t) (h2:QSs X rest u):QSs X (st::rest) (Ag t u):=fun Ex m=>ab5 (h1 Ex m) (h2 Ex m)
theorem an9:QS X (.Pass pos) Ai:=fun _ _=>am3
theorem ba7:QS X (.Break pos) bj2:=fun _ _=>ab2
theorem ba8:QS X (.Continue pos) bj4:=fun _ _=>Oz
theorem bb1 (h:QE X e de):QS X (.Return (some e) pos) (A5 de):=fun Ex m=>a82 (h Ex m)
theorem ao0:QS X (.Return none pos) ar4:=fun _ _=>am4
theorem an8 (h:QE X e de) (hn:Hu e=true):QS X (.Expr e pos) (A9 de):=fun Ex m=>am2 (h Ex m) (Hv hn _ _ _)
theorem bq1 {c:Expr} {a b:List Stmt} {tc:DT} (hc:QT X c tc) (ha:QSs X a t) (hb:QSs X b u):QS X (.If c a b pos) (dIf tc t u):=fun Ex m=>bp5 (hc Ex m) (ha Ex m) (hb Ex m)
theorem ac5 {i:Nat} {x:Str} (O:GOk X G) (hi:Ca G.N x 0=some i) (hx:Qt G x=true) (h:QE X e de) (hn:jx e (some (.Name x p')) pos.line X.env=pure false):QS X (.Assign [.Name x p'] e pos) (Ax i de):=by
 obtain⟨h1,h2⟩:=Nc O hx
 exact fun Ex m=>a83 (by rw [O.N];exact O.nd) (by rw [O.N];exact Ef hi) h1 (h Ex m) hn h2
variable {tg iter elt:Expr} {ifs:List Expr} {sc:Scope} {wi:DI} {g:DG} {tc:DT}
theorem Q4 {i:Nat} {x:Str} {cp:Pos} (O:GOk X G) (hi:Ca G.N x 0=some i) (hx:Qt G x=true) (hc:X.calm=true) (hk:Et G sc=true) (hs:J2 iter=true) (hq:QI X tg iter wi) (hg:∀ X',GOk X' (Cq G sc.names)->PG X' tg g)
  (ht:∀ X',GOk X' (Cq G sc.names)->ah5 X' ifs tc) (he:∀ X',GOk X' (Cq G sc.names)->QE X' elt de) :
  QS X (.Assign [.Name x p'] (.ListComp elt [⟨tg,iter,ifs,0⟩] sc cp) pos) (Ax i (Dx (Fd G sc.names) wi g tc de)):=by
 obtain⟨h1,h2⟩:=Nc O hx
 have sw:jx (.ListComp elt [⟨tg,iter,ifs,0⟩] sc cp) (some (.Name x p')) pos.line X.env=pure (X.env.blockKind==.function&&X.env.kindOf x==some .local&&p'.line==(Expr.ListComp elt [⟨tg,iter,ifs,0⟩] sc cp).pos.line
   && !(sc.names.any fun (n,k)=>n==x&&(k==.local||k==.cell))):=rfl
 cases hb:(X.env.blockKind==.function&&X.env.kindOf x==some .local&&p'.line==(Expr.ListComp elt [⟨tg,iter,ifs,0⟩] sc cp).pos.line
   && !(sc.names.any fun (n,k)=>n==x&&(k==.local||k==.cell))) with
 | false=>
  rw [hb] at sw
  exact ac5 O hi hx (Uo O hc hk hs hq hg ht he) sw
 | true=>
  rw [hb] at sw
  simp only [aw] at hb
  have hl:X.env.scope.names.lookup x=some .local:=cv hb.1.1.2
  intro Ex m pins s σ H D I h
  exact Yt hc (by rw [O.N];exact O.nd) (by rw [O.N];exact Ef hi) hl (Mz O hk) (hq Ex m) (fun us Q2 fp C D s2 H2 I2 f2 hC=>
   have M:=J1 (N':=(Cq G sc.names).N) (cl:=Cp X.env.cells sc.names []) (us:=us) (Q2:=Q2) (D:=D) m O.fr I2 f2 hC
   have K:=Tn O hk fp C s2 H2 (Bj X sc (Cp X.env.cells sc.names []) us Q2 D C)
   ⟨hg _ K,ht _ K _ M,he _ K _ M⟩) I h sw (fun x=>J3 hs X.env x)
theorem bb0 {body:List Stmt} (O:GOk X G) (ht:G.top=true) (hc:X.calm=true) (hi:QI X tg iter wi) (hg:PG X tg g) (hb:QSs X body t) (hs:J2 iter=true):QS X (.For tg iter body [] pos) (Eo wi g t):=by
 intro Ex m pins s σ H D I h
 refine bL (a81 (O.own ht) hc (hi Ex m) hg (hb Ex m) (fun x=>J3 hs X.env x) pins s σ H { D with nx:=fun σ' H'=>Thaw H H' (D.nx σ') } I h) (fun f s' q=>?_) fun _ _ z=>z
 cases f with
 | next=>
  obtain⟨σ',H',I',q⟩:=q
  obtain⟨H2,I2,q2⟩:=Thaw.inv I I' q
  exact⟨σ',H2,I2,q2⟩
 | _=>exact q
theorem ac6 {c:Expr} {body:List Stmt} (O:GOk X G) (ht:G.top=true) (hc:QT X c tc) (hb:QSs X body t):QS X (.While c body [] pos) (P4 tc t):=fun Ex m=>ab4 (O.own ht) (hc Ex m) (hb Ex m)
noncomputable def M1 (K:aa) (e:DE):DS:=fun D σ H=>e σ H (Q7 K (D.ex σ)) (D.ex σ)
theorem ac4 (O:GOk X G) (hc:X.A.handled=none) (h:QE X e de):QS X (.Raise (some e) none pos) (M1 X.K de):=fun Ex m=>ab3 m hc (h Ex m)
noncomputable def Z5:Expr->Bool
 | .Tuple _ _ _=>false
 | _=>true
theorem Z6 {e:Expr} (h:Z5 e=true) (tg:Expr) (env:Env):swappedStores [tg] e env=pure none:=by
 cases e with
 | Tuple _ _ _=>cases h
 | _=>cases tg <;> rfl
theorem ba6 {ts:List Expr} {kt:Nat} {pt:Pos} {g:DG} (h:QE X e de) (hg:PG X (.Tuple ts kt pt) g) (hn:Hu e=true) (ht:Z5 e=true):QS X (.Assign [.Tuple ts kt pt] e pos) (Hc de g):=
 fun Ex m=>ab1 (h Ex m) hg (show l_ [.Tuple ts kt pt] e pos.line X.env=pure false from Hv hn (some (.Tuple ts kt pt)) pos.line X.env) (Z6 ht _ _)
noncomputable def Js (K:aa) (o i:DE):DG:=fun v σ H Q=>o σ H (fun x H1=>i σ H1 (fun y H2=>ae0 x y v H2 (Q σ)) fun _ _=>False) fun _ _=>False
theorem bb2 {o i:Expr} {do' di:DE} (hu:X.A.units+64<cLine) (ho:QE X o do') (hi:QE X i di) (h:QE X e de) (hsl:Fm i=true):QS X (.Assign [.Subscript o i p'] e pos) (Hc de (Js X.K do' di)):=by
 intro Ex m
 have hg:PG X (.Subscript o i p') (Js X.K do' di):=a79 (ho _ E5) (hi _ E5) (bw4 hu) (by
  intro v
  cases i with
  | Slice _ _ _ _=>cases hsl
  | _=>rfl)
 exact ab1 (h Ex m) hg (show l_ [.Subscript o i p'] e pos.line X.env=pure false from by show jx e (some (.Subscript o i p')) pos.line X.env=pure false;cases e <;> rfl) (by cases e <;> rfl)
noncomputable def Vq (K:aa) (f:Str) (o e:DE):DS:=fun D σ H=>e σ H (fun y H1=>o σ H1 (fun x H2=>av0 K f x y H2 (D.nx σ)) (D.ex σ)) (D.ex σ)
theorem ba9 {o:Expr} {f:Str} {do':DE} (ho:QE X o do') (h:QE X e de):QS X (.Assign [.Attribute o f p'] e pos) (Vq X.K f do' de):=by
 intro Ex m pins s σ H D I hw
 refine plainObj_wpAny_Assign_Attribute (thn (h Ex m pins s σ H _ I hw) fun u s1 ⟨y,H1,I1,ry,q⟩=>thn (ho Ex m pins s1 σ H1 _ I1 q) fun ov s2 ⟨x,H2,I2,rx,q2⟩=>?_) (by cases e <;> rfl)
 exact bw3 I2 rx ry q2 fun H' s' I' hN=>⟨σ,H',I',hN⟩
end
noncomputable def by4:GB->GB
 | .val v u=>.val v u
 | .exc C _=>.val (.ref C) (.ref C)
 | .cls C _=>.val (.ref C) (.ref C)
 | .ini C _=>.val (.ref C) (.ref C)
 | _=>.met "" []
noncomputable def bg6 (gb:List (Str×GB)):List (Str×GB):=gb.map fun p=>(p.1,by4 p.2)
noncomputable def hdG (G:Sg):Sg:={ G with gb:=bg6 G.gb,calm:=false }
noncomputable def Oj (gb:List (Str×GB)) (x:Str):Option Addr:=match gb.lookup x with
 | some (.exc T _)=>some T
 | _=>none
noncomputable def okH (G:Sg):ExceptHandler->Bool
 | .ExceptHandler (some (.Name x _)) nm (_::_) _=>Fs G x&&(Oj G.gb x).isSome&&(match nm with
  | none=>true
  | some n=>(Ca G.N n 0).isSome&&(G.sc.lookup n==some .local))
 | _=>false
noncomputable def bl7 (G:Sg):ExceptHandler->Option Nat
 | .ExceptHandler _ (some n) _ _=>Ca G.N n 0
 | _=>none
noncomputable def ar7 (G:Sg) (y:Str):Option Addr:=match G.gb.lookup y with
 | some (.exc T none)=>if Fs G y=true then some T else none
 | _=>none
noncomputable def Z8:Expr->Bool
 | .Constant .none _ _=>true
 | _=>false
noncomputable def bf3:Expr->Bool
 | .Constant (.str _) _ _=>true
 | _=>false
theorem Qs {e:Expr} (h:Z8 e=true):∃ k p,e=.Constant .none k p:=by
 unfold Z8 at h
 split at h
 ·exact⟨_,_,rfl⟩
 ·cases h
theorem W3 {e:Expr} (h:bf3 e=true):∃ z k p,e=.Constant (.str z) k p:=by
 unfold bf3 at h
 split at h
 ·exact⟨_,_,_,rfl⟩
 ·cases h
noncomputable def ar2 (G:Sg):Expr->Option Addr
 | .Call (.Name y _) [a] [] _=>if bf3 a=true then ar7 G y else none
 | _=>none
noncomputable def bg5 (G:Sg):ExceptHandler->Option Addr
 | .ExceptHandler _ none [.Raise (some e) (some c) _] _=>if Z8 c=true then ar2 G e else none
 | _=>none
noncomputable def L8 (G:Sg) (h:ExceptHandler):HK:=match bg5 G h with
 | some T=>.up T
 | none=>match bl7 G h with
  | some i=>.as i
  | none=>.no
noncomputable def a21 (G:Sg):ExceptHandler->Addr
 | .ExceptHandler (some (.Name x _)) _ _ _=>(Oj G.gb x).getD 0
 | _=>0
noncomputable def ar1:ExceptHandler->List Stmt
 | .ExceptHandler _ _ b _=>b
theorem a30 {X:Cx} {G:Sg} (O:GOk X G) (a:Addr):GOk (X.hd a) (hdG G) where
 K:=O.K
 kind:=O.kind
 own:=fun _=>PassesOwn.never
 N:=O.N
 nd:=O.nd
 sc:=O.sc
 vis:=O.vis
 top:=O.top
 calm:=rfl
 hd:=fun z=>by cases z
 units:=O.units
 cel:=O.cel
 gb:=fun x g e=>by
  obtain⟨⟨y,g'⟩,hg,z⟩:=List.mem_map.mp (show (x,g)∈G.gb.map fun p=>(p.1,by4 p.2) from e)
  cases z
  have h:=O.gb _ g' hg
  cases g' with
  | val v u=>exact h
  | exc C i=>exact⟨h.1,rfl⟩
  | cls C i=>exact⟨h.1,rfl⟩
  | ini C i=>exact⟨h.1,rfl⟩
  | fn i=>exact fun mi hm=>by cases hm
  | met m l=>exact fun mi hm=>by cases hm
  | dic a kvs=>exact fun mi hm=>by cases hm
  | key m l=>exact fun mi hm=>by cases hm
 bl:=O.bl
 frm:=O.frm
 fr:=O.fr
theorem by3 {X:Cx} {pn:List (Addr×Obj)} {xe:Value->ai->Prop} {i:FI} (F:Eg X i):Eg (X.tr pn xe) i:=⟨F.kp,F.ok,F.room,F.binds,F.vals⟩
theorem bg2 {X:Cx} {G:Sg} (O:GOk X G) {pn:List (Addr×Obj)} {xe:Value->ai->Prop} (ho:hZ (model X.prog X.w) X.A X.env xe):GOk (X.tr pn xe) G where
 K:=O.K
 kind:=O.kind
 own:=fun _=>ho
 N:=O.N
 nd:=O.nd
 sc:=O.sc
 vis:=O.vis
 top:=O.top
 calm:=O.calm
 hd:=O.hd
 units:=O.units
 cel:=O.cel
 gb:=fun x g e=>by
  refine GBOk.to (X:=X) ?_ ?_ ?_ ?_ ?_ ?_ (O.gb x g e)
  ·rfl
  ·rfl
  ·rfl
  ·rfl
  ·exact fun _ r=>r
  ·exact fun i F=>by3 F
 bl:=O.bl
 frm:=O.frm
 fr:=O.fr
theorem aa1 {G:Sg} {h:ExceptHandler} (hh:okH G h=true):∃ x p nm b suite pos,h=.ExceptHandler (some (.Name x p)) nm (b::suite) pos/\Fs G x=true/\(Oj G.gb x).isSome=true /\ ∀ n,nm=some n->(Ca G.N n 0).isSome=true/\G.sc.lookup n=some .local:=by
 unfold okH at hh
 split at hh
 ·rw [aw,aw] at hh
  refine⟨_,_,_,_,_,_,rfl,hh.1.1,hh.1.2,fun n e=>?_⟩
  have h2:=hh.2
  rw [e] at h2
  have h2:((Ca G.N n 0).isSome&&(G.sc.lookup n==some .local))=true:=h2
  rw [aw] at h2
  exact⟨h2.1,cv h2.2⟩
 ·cases hh
theorem Zi {X:Cx} {G:Sg} (O:GOk X G) {w:List Stmt->DS} (h:∀ a ss,QSs (X.hd a) ss (w ss)):∀ {hl:List ExceptHandler},hl.all (okH G)=true->Nw X hl (hl.map fun h=>(a21 G h,L8 G h,w (ar1 h)))
 | [],_=>.nil
 | e0::r,hh=>by
  rw [bF,aw] at hh
  obtain⟨h1,h2⟩:=hh
  obtain⟨x,p,nm,b,suite,pos,rfl,hg,hs,hnm⟩:=aa1 h1
  obtain⟨T,hT⟩:=Option.isSome_iff_exists.mp hs
  have hl:∃ oi,G.gb.lookup x=some (.exc T oi):=by
   unfold Oj at hT
   split at hT
   ·rename_i T' oi e;cases hT;exact⟨oi,e⟩
   ·cases hT
  obtain⟨oi,hl⟩:=hl
  obtain⟨m,kp,ec,_⟩:=O.at_ x _ hl
  have e:a21 G (.ExceptHandler (some (.Name x p)) nm (b::suite) pos)=T:=by show (Oj G.gb x).getD 0=T;rw [hT];rfl
  rw [aP,e]
  cases hu:bg5 G (.ExceptHandler (some (.Name x p)) nm (b::suite) pos) with
  | some T'=>
   have ek:L8 G (.ExceptHandler (some (.Name x p)) nm (b::suite) pos)=.up T':=by unfold L8;rw [hu]
   rw [ek]
   unfold bg5 at hu
   split at hu
   ·rename_i heq
    cases heq
    split at hu
    ·rename_i hc
     obtain⟨k2,p4,rfl⟩:=Qs hc
     unfold ar2 at hu
     split at hu
     ·split at hu
      ·rename_i hs'
       obtain⟨z,k,p2,rfl⟩:=W3 hs'
       unfold ar7 at hu
       split at hu
       ·rename_i T'' hy
        split at hu
        ·rename_i hgy
         cases hu
         obtain⟨my,kpy,ecy,iny⟩:=O.at_ _ _ hy
         exact .up (O.gl hg) m (Hl hg).1 ec (O.gl hgy) my (Hl hgy).1 ecy kpy iny (Zi O h h2)
        ·cases hu
       ·cases hu
      ·cases hu
     ·cases hu
    ·cases hu
   ·cases hu
  | none=>
  have ao:Xf X nm (L8 G (.ExceptHandler (some (.Name x p)) nm (b::suite) pos)):=by
   unfold L8
   rw [hu]
   cases nm with
   | none=>exact .no
   | some n=>
    obtain⟨z1,z2⟩:=hnm n rfl
    obtain⟨i,hi⟩:=Option.isSome_iff_exists.mp z1
    show Xf X (some n) (match Ca G.N n 0 with|some i=>HK.as i|none=>HK.no)
    rw [hi]
    exact .as (by rw [O.N];exact O.nd) (by rw [O.N];exact Ef hi) (by rw [O.sc];exact z2)
  exact .cons (O.gl hg) m (Hl hg).1 ec ao (fun a=>h a _) (Zi O h h2)
mutual
noncomputable def wS:Nat->Sg->Stmt->DS
 | 0,_,_=>Ck
 | n+1,G,st=>match st with
  | .Pass _=>Ai
  | .Break _=>bj2
  | .Continue _=>bj4
  | .Return (some e) _=>A5 (wE n G e)
  | .Return none _=>ar4
  | .Expr e _=>if Hu e=true then A9 (wE n G e) else Ck
  | .If c a b _=>dIf (wT n G c) (wSs n G a) (wSs n G b)
  | .Assign [.Name x _] (.ListComp elt [⟨tg,iter,ifs,0⟩] sc _) _=>match Ca G.N x 0 with
   | some i=>if Qt G x=true/\G.calm=true/\Et G sc=true/\J2 iter=true then
     Ax i (Dx (Fd G sc.names) (wI n G tg iter) (wG n (Cq G sc.names) tg) (match ifs with | []=>Hf | [c]=>wT n (Cq G sc.names) c|_=>tNo) (wE n (Cq G sc.names) elt)) else Ck
   | none=>Ck
  | .Assign [.Name x _] e _=>match Ca G.N x 0 with
   | some i=>if Qt G x=true/\Hu e=true then Ax i (wE n G e) else Ck
   | none=>Ck
  | .Assign [.Tuple ts kt pt] e _=>if Hu e=true/\Z5 e=true then Hc (wE n G e) (wG n G (.Tuple ts kt pt)) else Ck
  | .Assign [.Attribute o f _] e _=>Vq G.K f (wE n G o) (wE n G e)
  | .Assign [.Subscript o i _] e _=>if Fm i=true then Hc (wE n G e) (Js G.K (wE n G o) (wE n G i)) else Ck
  | .Raise (some e) none _=>if G.calm=true then M1 G.K (wE n G e) else Ck
  | .For tg iter body [] _=>if G.calm=true/\J2 iter=true/\G.top=true then Eo (wI n G tg iter) (wG n G tg) (wSs n G body) else Ck
  | .While c body [] _=>if G.top=true then P4 (wT n G c) (wSs n G body) else Ck
  | .Try body (h::hs) [] [] _=>if G.top=true/\(h::hs).all (okH G)=true then ai0 G.K (wSs n G body) ((h::hs).map fun h=>(a21 G h,L8 G h,wSs n (hdG G) (ar1 h))) else Ck
  | _=>Ck
noncomputable def wSs:Nat->Sg->List Stmt->DS
 | 0,_,_=>Ck
 | _+1,_,[]=>Ai
 | n+1,G,s::r=>Ag (wS n G s) (wSs n G r)
end
theorem ax8:∀ (n:Nat) (X:Cx) (G:Sg),GOk X G->(∀ s,QS X s (wS n G s))/\(∀ ss,QSs X ss (wSs n G ss)):=by
 intro n
 induction n with
 | zero=>
  intro X G O
  refine⟨fun s=>?_,fun s=>?_⟩
  ·unfold wS;exact Bm
  ·unfold wSs;exact fun _ _ _ _ _ _ _ _ h=>h.elim
 | succ n ih=>
  intro X G O
  obtain⟨hS,hSs⟩:=ih X G O
  obtain⟨hE,hT,hI⟩:=bi0 n X G O
  refine⟨fun s=>?_,fun s=>?_⟩
  ·unfold wS
   split
   ·exact an9
   ·exact ba7
   ·exact ba8
   ·exact bb1 (hE _)
   ·exact ao0
   ·split
    ·exact an8 (hE _) ‹_›
    ·exact Bm
   ·exact bq1 (hT _) (hSs _) (hSs _)
   ·split
    ·rename_i i e
     split
     ·rename_i hh
      obtain⟨h1,h2,h3,h4⟩:=hh
      refine Q4 O e h1 (O.calm▸h2) h3 h4 (hI _ _) (fun X' O'=>Pl n X' _ O' _) (fun X' O'=>?_) (fun X' O'=>(bi0 n X' _ O').1 _)
      split
      ·exact O1
      ·exact O2 ((bi0 n X' _ O').2.1 _)
      ·exact fun _ _ _ _ _ _ _ _ h=>h.elim
     ·exact Bm
    ·exact Bm
   ·split
    ·rename_i i e
     split
     ·rename_i hh
      exact ac5 O e hh.1 (hE _) (Hv hh.2 _ _ _)
     ·exact Bm
    ·exact Bm
   ·split
    ·rename_i hh
     exact ba6 (hE _) (Pl n X G O _) hh.1 hh.2
    ·exact Bm
   ·rw [<- O.K];exact ba9 (hE _) (hE _)
   ·split
    ·rename_i hh
     rw [<- O.K];exact bb2 O.units (hE _) (hE _) (hE _) hh
    ·exact Bm
   ·split
    ·rename_i hcm
     rw [<- O.K];exact ac4 O (O.hd (O.calm▸hcm)) (hE _)
    ·exact Bm
   ·split
    ·rename_i hh
     exact bb0 O hh.2.2 (O.calm▸hh.1) (hI _ _) (Pl n X G O _) (hSs _) hh.2.1
    ·exact Bm
   ·split
    ·rename_i hh
     exact ac6 O hh (hT _) (hSs _)
    ·exact Bm
   ·split
    ·rename_i hh
     rw [<- O.K]
     exact bb3 (O.frm hh.1).1 (O.frm hh.1).2 (fun pn xe ho=>(ih _ _ (bg2 O ho)).2 _) (Zi O (fun a ss=>(ih _ _ (a30 O a)).2 ss) hh.2)
    ·exact Bm
   ·exact Bm
  ·cases s with
   | nil=>unfold wSs;exact ao1
   | cons a r=>unfold wSs;exact ac7 (hS a) (hSs r)
section
variable {P:aK} {w:bt} {K:aa} {mg:Str->Option Value} {base:Heap}
structure FnIn (P:aK) (w:bt) (K:aa) (mg:Str->Option Value) (base:Heap) (k:Nat) (x:Str) (i:FI):Prop where
 at_:mg x=some (.ref i.f)
 kp:aV K (.ref i.f)=true
 ok:∃ CX,(∀ X':Cx,X'.prog=P->X'.w=w->Lh CX X')/\FnOk P w K mg base CX i.k i.f i.fd i.ps i.sp
 le:i.k<=k
 binds:∀ j,j<=i.dfs.length->Binds K i.fd i.ps (i.ds.drop j)
 vals:Vals i.dfs i.ds
noncomputable def ay3 (P:aK) (w:bt) (K:aa) (mg:Str->Option Value) (base:Heap) (k:Nat) (C:Addr):Option FI->Prop
 | none=>ar K (.ref C) "__init__" = some (some (.builtin "ValueError.__init__"))
 | some i=>ar K (.ref C) "__init__" = some (some (.ref i.f))/\c6 K (.ref i.f)=true/\aV K (.ref i.f)=true/\(∃ CX,(∀ X':Cx,X'.prog=P->X'.w=w->Lh CX X')/\FnOk P w K mg base CX i.k i.f i.fd i.ps i.sp) /\
   i.k+1<=k/\(∀ j,j<=i.dfs.length->Binds K i.fd i.ps (i.ds.drop j))/\Vals i.dfs i.ds
structure ExcIn (P:aK) (w:bt) (K:aa) (mg:Str->Option Value) (base:Heap) (k:Nat) (x:Str) (C:Addr) (oi:Option FI):Prop where
 at_:mg x=some (.ref C)
 kp:aV K (.ref C)=true
 cls:ECls K C
 init:ay3 P w K mg base k C oi
structure FiIn (P:aK) (w:bt) (K:aa) (mg:Str->Option Value) (base:Heap) (k:Nat) (i:FI):Prop where
 kp:aV K (.ref i.f)=true
 ok:∃ CX,(∀ X':Cx,X'.prog=P->X'.w=w->Lh CX X')/\FnOk P w K mg base CX i.k i.f i.fd i.ps i.sp
 le:i.k<=k
 binds:∀ j,j<=i.dfs.length->Binds K i.fd i.ps (i.ds.drop j)
 vals:Vals i.dfs i.ds
theorem FiIn.mono {k k':Nat} {i:FI} (F:FiIn P w K mg base k i) (h:k<=k'):FiIn P w K mg base k' i:=⟨F.kp,F.ok,aS F.le h,F.binds,F.vals⟩
noncomputable def b12 (P:aK) (w:bt) (K:aa) (mg:Str->Option Value) (base:Heap) (k:Nat) (C:Addr):Option FI->Prop
 | none=>cP K C=true/\ar K (.ref C) "__init__" = some (some (.builtin "object.__init__"))
 | some i=>cP K C=true/\ar K (.ref C) "__init__" = some (some (.ref i.f))/\c6 K (.ref i.f)=true/\FiIn P w K mg base k i/\i.k+1<=k
structure ClsIn (P:aK) (w:bt) (K:aa) (mg:Str->Option Value) (base:Heap) (k:Nat) (x:Str) (C:Addr) (oi:Option FI):Prop where
 at_:mg x=some (.ref C)
 kp:aV K (.ref C)=true
 made:b12 P w K mg base k C oi
theorem ClsIn.mono {k k':Nat} {x:Str} {C:Addr} {oi:Option FI} (F:ClsIn P w K mg base k x C oi) (h:k<=k'):ClsIn P w K mg base k' x C oi:=by
 refine⟨F.at_,F.kp,?_⟩
 cases oi with
 | none=>exact F.made
 | some i=>obtain⟨a,b,c,d,e⟩:=F.made;exact⟨a,b,c,d.mono h,aS e h⟩
structure MetIn (P:aK) (w:bt) (K:aa) (mg:Str->Option Value) (base:Heap) (k:Nat) (m:Str) (mi:MI):Prop where
 cls:Cls K mi.C
 at_:Ct K mi.C m mi.i.f
 fi:FiIn P w K mg base k mi.i
theorem MetIn.mono {k k':Nat} {m:Str} {mi:MI} (F:MetIn P w K mg base k m mi) (h:k<=k'):MetIn P w K mg base k' m mi:=⟨F.cls,F.at_,F.fi.mono h⟩
theorem ExcIn.mono {P:aK} {w:bt} {K:aa} {mg:Str->Option Value} {base:Heap} {k k':Nat} {x:Str} {C:Addr} {oi:Option FI} (F:ExcIn P w K mg base k x C oi) (h:k<=k'):ExcIn P w K mg base k' x C oi:=by
 refine⟨F.at_,F.kp,F.cls,?_⟩
 cases oi with
 | none=>exact F.init
 | some i=>obtain⟨a,b,c,d,e,f⟩:=F.init;exact⟨a,b,c,d,aS e h,f⟩
structure bi8 (P:aK) (w:bt) (K:aa) (mg:Str->Option Value) (base:Heap) (k:Nat) (x:Str) (C:Addr) (i:FI):Prop where
 at_:mg x=some (.ref C)
 sup:Yk K C i.f
 fi:FiIn P w K mg base k i
structure bi6 (P:aK) (w:bt) (K:aa) (mg:Str->Option Value) (base:Heap) (k:Nat) (m:Str) (mi:MI):Prop where
 met:MetIn P w K mg base k m mi
 sg:dD K (.ref mi.i.f) "__get__" = some (some (.builtin "function.__get__"))
 tk:fR K (.ref mi.i.f)=some false
 cn:PySem.W.copiedNames.contains m=false
 le:mi.i.k+2<=k
noncomputable def GBIn (P:aK) (w:bt) (K:aa) (mg:Str->Option Value) (base:Heap) (k:Nat) (x:Str):GB->Prop
 | .fn i=>FnIn P w K mg base k x i
 | .val v u=>mg x=some u/\RelV v u
 | .exc C oi=>ExcIn P w K mg base k x C oi
 | .cls C oi=>ClsIn P w K mg base k x C oi
 | .met m l=>∀ mi∈l,MetIn P w K mg base k m mi
 | .ini C i=>bi8 P w K mg base k x C i
 | .dic a kvs=>mg x=some (.ref a)/\Ny P w K a kvs
 | .key m l=>∀ mi∈l,bi6 P w K mg base k m mi
structure Tab (P:aK) (w:bt) (K:aa) (mg:Str->Option Value) (base:Heap) (k:Nat) (gb:List (Str×GB)) (bl:List Str):Prop where
 all:∀ x g,(x,g)∈gb->GBIn P w K mg base k x g
 bl:∀ x∈bl,mg x=none
theorem FnIn.mono {k k':Nat} {x:Str} {i:FI} (F:FnIn P w K mg base k x i) (h:k<=k'):FnIn P w K mg base k' x i:=⟨F.at_,F.kp,F.ok,aS F.le h,F.binds,F.vals⟩
theorem GBIn.mono {k k':Nat} {x:Str} {g:GB} (F:GBIn P w K mg base k x g) (h:k<=k'):GBIn P w K mg base k' x g:=by
 cases g with
 | fn i=>exact FnIn.mono F h
 | val v u=>exact F
 | exc C oi=>exact ExcIn.mono F h
 | cls C oi=>exact ClsIn.mono F h
 | met m l=>exact fun mi hm=>(F mi hm).mono h
 | ini C i=>exact⟨F.at_,F.sup,F.fi.mono h⟩
 | dic a kvs=>exact F
 | key m l=>exact fun mi hm=>let q:=F mi hm;⟨q.met.mono h,q.sg,q.tk,q.cn,aS q.le h⟩
theorem Tab.nil {bl:List Str} (h:∀ x∈bl,mg x=none):Tab P w K mg base 0 [] bl:=⟨fun _ _ h=>(by cases h),h⟩
theorem Tab.mono {k k':Nat} {gb:List (Str×GB)} {bl:List Str} (T:Tab P w K mg base k gb bl) (h:k<=k'):Tab P w K mg base k' gb bl:=⟨fun x g hx=>(T.all x g hx).mono h,T.bl⟩
theorem Tab.put {k:Nat} {gb:List (Str×GB)} {bl:List Str} {x:Str} {g:GB} (T:Tab P w K mg base k gb bl) (F:GBIn P w K mg base k x g):Tab P w K mg base k ((x,g)::gb) bl:=
 ⟨fun y j hy=>by
  rcases List.mem_cons.mp hy with e|e
  ·cases e;exact F
  ·exact T.all y j e,T.bl⟩
theorem Tab.cons {k:Nat} {gb:List (Str×GB)} {bl:List Str} {x:Str} {i:FI} (T:Tab P w K mg base k gb bl) (F:FnIn P w K mg base k x i):Tab P w K mg base k ((x,.fn i)::gb) bl:=T.put F
theorem Tab.consX {k:Nat} {gb:List (Str×GB)} {bl:List Str} {x:Str} {C:Addr} {oi:Option FI} (T:Tab P w K mg base k gb bl) (F:ExcIn P w K mg base k x C oi):Tab P w K mg base k ((x,.exc C oi)::gb) bl:=T.put F
theorem Tab.consV {k:Nat} {gb:List (Str×GB)} {bl:List Str} {x:Str} {v:V} {u:Value} (T:Tab P w K mg base k gb bl) (F:mg x=some u) (r:RelV v u):Tab P w K mg base k ((x,.val v u)::gb) bl:=T.put ⟨F,r⟩
theorem Tab.consC {k:Nat} {gb:List (Str×GB)} {bl:List Str} {x:Str} {C:Addr} {oi:Option FI} (T:Tab P w K mg base k gb bl) (F:ClsIn P w K mg base k x C oi):Tab P w K mg base k ((x,.cls C oi)::gb) bl:=T.put F
theorem Tab.consM {k:Nat} {gb:List (Str×GB)} {bl:List Str} {x:Str} {m:Str} {l:List MI} (T:Tab P w K mg base k gb bl) (F:∀ mi∈l,MetIn P w K mg base k m mi):Tab P w K mg base k ((x,.met m l)::gb) bl:=T.put F
theorem Tab.consK {k:Nat} {gb:List (Str×GB)} {bl:List Str} {x:Str} {m:Str} {l:List MI} (T:Tab P w K mg base k gb bl) (F:∀ mi∈l,bi6 P w K mg base k m mi):Tab P w K mg base k ((x,.key m l)::gb) bl:=T.put F
theorem GBIn.there {X:Cx} {k:Nat} {x:Str} {g:GB} (F:GBIn X.prog X.w X.K X.mg X.base k x g) (hr:Room k X.A):GBOk X x g:=by
 cases g with
 | fn i=>exact⟨F.at_,F.kp,F.ok,hr.mono F.le,F.binds,F.vals⟩
 | val v u=>exact F
 | exc C oi=>
  refine⟨F.at_,F.kp,F.cls,?_⟩
  cases oi with
  | none=>exact F.init
  | some i=>obtain⟨a,b,c,d,e,f,g⟩:=F.init;exact⟨a,b,⟨c,d,hr.mono (by omega),f,g⟩,hr.mono e⟩
 | cls C oi=>
  refine⟨F.at_,F.kp,?_⟩
  cases oi with
  | none=>exact F.made
  | some i=>obtain⟨a,b,c,d,e⟩:=F.made;exact⟨a,b,c,⟨d.kp,d.ok,hr.mono d.le,d.binds,d.vals⟩,hr.mono e⟩
 | met m l=>exact fun mi hm=>⟨(F mi hm).cls,(F mi hm).at_,⟨(F mi hm).fi.kp,(F mi hm).fi.ok,hr.mono (F mi hm).fi.le,(F mi hm).fi.binds,(F mi hm).fi.vals⟩⟩
 | ini C i=>exact⟨F.at_,F.sup,⟨F.fi.kp,F.fi.ok,hr.mono F.fi.le,F.fi.binds,F.fi.vals⟩⟩
 | dic a kvs=>exact F
 | key m l=>exact fun mi hm=>let q:=F mi hm;⟨q.met.cls,q.met.at_,q.sg,q.tk,q.cn,⟨q.met.fi.kp,q.met.fi.ok,hr.mono q.met.fi.le,q.met.fi.binds,q.met.fi.vals⟩,hr.mono q.le⟩
theorem G0 (X:Cx):Lh CX0 X:=fun _ _ _ _ _ _ _ _ _ h=>h.elim
noncomputable def Bg (K:aa) (N:List Str) (sc:Scope) (gb:List (Str×GB)) (bl:List Str):Sg:=⟨K,N,sc.names,gb,bl,true,true⟩
noncomputable def A2 (N:List Str) (sc:Scope):Bool:=N.all fun x=>(sc.names.lookup x==some .local)||(sc.names.lookup x==some .cell)
noncomputable def Jp (Q:VK) (E:EK):Mo:=⟨fun _ H'=>Q .non H',Q,fun _ _=>False,fun _ _=>False,fun _=>E⟩
structure FunD (K:aa) (x qual:Str) (st:Stmt) (f:Addr) (fd:aH) (dV:Value):Prop where
 ex:∃ (oc:Value) (od:Option Addr) (kV doc pm:Value) (an:Option Addr) (cdv ct:Value) (osl:Array (Option Value)),
  fd=cb x qual (Bq st) (Aj st) (Ac st) dV kV doc pm an cdv ct/\K.lookup f=some ⟨oc,od,.func fd,osl⟩/\dA K cdv qual=true
 kp:aV K (.ref f)=true
theorem Fun.toD {x qual:Str} {st:Stmt} {f:Addr} {fd:aH} (F:Fun K x qual st f fd):FunD K x qual st f fd .none:=⟨F.ex,F.kp⟩
theorem ai7 {x qual:Str} {st:Stmt} {f:Addr} {oc:Value} {od an:Option Addr} {osl:Array (Option Value)} {dV kV doc pm cdv ct:Value} (l:K.lookup f=some ⟨oc,od,.func (cb x qual (Bq st) (Aj st) (Ac st) dV kV doc pm an cdv ct),osl⟩)
  (c:dA K cdv qual=true) (k:aV K (.ref f)=true):FunD K x qual st f (cb x qual (Bq st) (Aj st) (Ac st) dV kV doc pm an cdv ct) dV:=⟨⟨oc,od,kV,doc,pm,an,cdv,ct,osl,rfl,l,c⟩,k⟩
theorem FunD.ok {x qual:Str} {st:Stmt} {f:Addr} {fd:aH} {dV:Value} {N ps:List Str} {k:Nat} {sp:Sp} (F:FunD K x qual st f fd dV) (S:Al N ps (Ac st)) (len:∀ vs H Q E,sp vs H Q E->vs.length=ps.length)
  (hbody:∀ (cdv:Value) (A:bg) (outer:List Env) (s:ai) (H:Hp) (vs:List V) (Q:VK) (E:XK),Room k (A.deeper (mE qual (Ac st) s.heap.objs.size f cdv))->sp vs H Q E ->
   ∃ t,PSs (Ji CX0 P w K mg base N qual (Ac st) f cdv A outer s H E).nox (Aj st) t/\t { nx:=fun _ H'=>Q .non H',rt:=Q } (start N vs) H):FnOk P w K mg base CX0 (k+1) f fd ps sp:=by
 obtain⟨oc,od,kV,doc,pm,an,cdv,ct,osl,rfl,lk,hcd⟩:=F.ex
 refine ar8 lk hcd S len fun A outer s H vs Q E hr hsp=>?_
 obtain⟨t,h,q⟩:=hbody cdv A outer s H vs Q E hr hsp
 exact⟨t,h.nox,q⟩
theorem Ps {fd:aH} {ps:List Str} {T:Addr} {o:Obj} {items:Array Value} {n:Nat} {ds:List Value} (hd:fd.defaults=.ref T) (ho:K.lookup T=some o) (hs:o.data=.seq items n)
  (h:∀ us:List Value,(us++ds).length=ps.length -> ∃ k:Option (Array Value)->Sem (List (Str×Value)),lU fd ⟨us,[]⟩=mW fd.defaults >>= k/\k (some items)=pure (ps.zip (us++ds))):Binds K fd ps ds:=fun s us X hl=>by
 obtain⟨k,h1,h2⟩:=h us hl
 exact PySem.W.binds_K X hd ho hs h1 h2
theorem FunD.okW0 {x qual:Str} {st:Stmt} {f:Addr} {fd:aH} {N ps:List Str} {k n:Nat} {sp:Sp} {gb:List (Str×GB)} {bl:List Str} {t:DS} {dV:Value} (F:FunD K x qual st f fd dV) (S:Al N ps (Ac st)) (hv:A2 N (Ac st)=true)
  (T:Tab P w K mg base k gb bl) (rd:wSs n (Bg K N (Ac st) gb bl) (Aj st)=t) (len:∀ vs H Q E,sp vs H Q E->vs.length=ps.length)
  (hbody:∀ (vs:List V) (H:Hp) (Q:VK) (E:XK),sp vs H Q E->t (Jp Q fun _ _=>False) (start N vs) H):FnOk P w K mg base CX0 (k+1) f fd ps sp:=by
 refine F.ok S len fun cdv A outer s H vs Q E hr h=>?_
 have O:GOk (Ji CX0 P w K mg base N qual (Ac st) f cdv A outer s H E).nox (Bg K N (Ac st) gb bl):=by
  refine⟨rfl,S.kind,(fun _=>PassesOwn.never),rfl,S.nd,fun x=>rfl,fun x hx=>?_,fun _ _=>rfl,rfl,(fun _=>hr.hd),hr.units,fun x hx=>?_,fun x g e=>?_,fun x hx=>?_,(fun _=>⟨rfl,rfl⟩),⟨_,_,_,rfl,rfl,rfl⟩⟩
  ·have:=List.all_eq_true.mp hv x hx
   rw [d9] at this
   exact this.elim (fun z=>.inl (cv z)) fun z=>.inr (.inl (cv z))
  ·rcases hx with hx|hx
   ·exact Gi hx
   ·exact absurd rfl (S.nofree _ (b9 hx))
  ·exact (T.all x g e).there hr
  ·exact T.bl x (by have hx':bl.contains x=true:=hx;simpa using hx')
 refine⟨_,(ax8 n _ _ O).2 (Aj st) (fun _ _ _=>False) (fun _ _ _ _ _ _ _ h=>h.elim),?_⟩
 rw [rd]
 exact hbody vs H Q E h
end
theorem Same.upd {H:Hp} {a:Addr} {o:HO} (h:H a=none):Same H (upd H a o):=fun b u e=>by rw [Ah (A3 e h)];exact e
theorem Same.set {H H':Hp} {a:Addr} {o:HO} (s:Same H H') (h:H a=none):Same H (L2.upd H' a o):=fun b u e=>by rw [Ah (A3 e h)];exact s b u e
theorem Same.seqT {K:aa} {H H':Hp} {a:Addr} {xs:List V} (e:Same H H') (h:SqT K H a xs):SqT K H' a xs:=by
 rcases h with (h|⟨o,h⟩)|h
 ·exact .inl (.inl (e _ _ h))
 ·exact .inl (.inr ⟨o,e _ _ h⟩)
 ·exact .inr h
structure Fw (J:It) (its:List V) (ok:Hp->Prop):Prop where
 go:∀ i H,ok H->i<its.length->J.go i H
 stop:∀ H,ok H->J.stop its.length H
 yld:∀ i H x H',ok H->i<its.length->J.yld i H x H'->H'=H/\its[i]? = some x
structure Td (J:It) (its:List (V×V)) (ok:Hp->Prop):Prop where
 go:∀ i H,ok H->i<its.length->J.go i H
 stop:∀ H,ok H->J.stop its.length H
 yld:∀ i H v H',ok H->i<its.length->J.yld i H v H' -> ∃ T x y,H T=none/\v=.ref T/\its[i]? = some (x,y)/\H'=upd H T (.tup [x,y])
theorem Cj {K:aa} {a:Addr} (xs:List V):Fw (Itl K a) xs (fun H=>SqL K H a xs):=by
 refine⟨fun i H q h=>⟨xs,xs[i],q,by simp [h]⟩,fun H q=>⟨xs,q,ae _⟩,fun i H x H' q _ h=>?_⟩
 obtain⟨h1,h2⟩:=h
 exact⟨h1,h2 xs q⟩
noncomputable def O9 (lo:Int) (n:Nat):List V:=(cL n).map fun (i:Nat)=>V.int (lo+(i:Int))
theorem Cf (lo:Int) (n:Nat):(O9 lo n).length=n:=by unfold O9;simp
theorem Kd {lo:Int} {n i:Nat} (h:i<n):(O9 lo n)[i]? = some (.int (lo+(i:Int))):=by unfold O9;simp [h]
theorem Fa (lo:Int) (n:Nat):Fw (Itr lo n) (O9 lo n) (fun _=>True):=by
 refine⟨fun i H _ h=>?_,fun H _=>?_,fun i H x H' _ hi h=>?_⟩
 ·rw [Cf] at h;exact h
 ·show n<=(O9 lo n).length;rw [Cf];exact ae _
 ·obtain⟨h1,h2⟩:=h
  rw [Cf] at hi
  exact⟨h1,by rw [Kd hi,h2]⟩
noncomputable def Lv:Nat->List V->List (V×V)
 | _,[]=>[]
 | k,x::r=>(.int k,x)::Lv (k+1) r
theorem Ff:∀ (k:Nat) (xs:List V),(Lv k xs).length=xs.length
 | _,[]=>rfl
 | k,_::r=>by rw [Lv,aR,aR,Ff (k+1) r]
theorem Hh:∀ {k i:Nat} {xs:List V} {x:V},xs[i]? = some x->(Lv k xs)[i]? = some (.int ((k+i:Nat):Int),x)
 | _,_,[],_,h=>by simp at h
 | k,0,y::r,x,h=>by
  simp only [dw,jr] at h
  subst h
  rfl
 | k,i+1,y::r,x,h=>by
  rw [bD] at h
  rw [Lv,bD,Hh h]
  congr 4
  omega
theorem aq9 {K:aa} {a:Addr} (xs:List V):Td (Ite K a) (Lv 0 xs) (fun H=>SqL K H a xs):=by
 have e:=Ff 0 xs
 refine⟨fun i H q h=>⟨xs,xs[i]'(by omega),q,by simp⟩,fun H q=>⟨xs,q,by omega⟩,fun i H v H' q _ h=>?_⟩
 obtain⟨T,x,hT,h1,h2,h4⟩:=h
 refine⟨T,.int i,x,hT,h1,?_,h4⟩
 have:=Hh (k:=0) (h2 xs q)
 rw [hX] at this
 exact this
section
variable {J:It} {its:List V} {ok:Hp->Prop} {g:DG} {tb:DS} {D:Mo} {σ:St} {H:Hp}
theorem C7 (Y:Fw J its ok) (Pv:Nat->St->Hp->Prop) (h0:Pv 0 σ H) (hok:∀ i σ H,i<=its.length->Pv i σ H->ok H)
  (hs:∀ i x σ H,its[i]? = some x->Pv i σ H->g x σ H fun σ2 H2=>tb { D with nx:=Pv (i+1),ct:=Pv (i+1),bk:=D.nx } σ2 H2) (hd:∀ σ H,Pv its.length σ H->D.nx σ H):ay2 J g tb D σ H:=by
 refine⟨fun i m σ H=>m=its.length - i/\i<=its.length/\Pv i σ H,⟨its.length,by simp,bo _,h0⟩,?_⟩
 rintro i m σ H ⟨rfl,hi,p⟩
 by_cases hlt:i<its.length
 ·refine .inr ⟨Y.go i H (hok i σ H hi p) hlt,Pv (i+1),fun σ' H' p'=>⟨its.length - (i+1),by omega,rfl,hlt,p'⟩,fun x H' y=>?_⟩
  obtain⟨e,y2⟩:=Y.yld i H x H' (hok i σ H hi p) hlt y
  subst e
  exact hs i x σ _ y2 p
 ·have e:i=its.length:=by omega
  subst e
  exact .inl ⟨Y.stop H (hok _ σ H hi p),hd σ H p⟩
theorem ai6 {its:List (V×V)} (Y:Td J its ok) (Pv:Nat->St->Hp->Prop) (h0:Pv 0 σ H) (hok:∀ i σ H,i<=its.length->Pv i σ H->ok H)
  (hs:∀ i x y T σ H,its[i]? = some (x,y)->H T=none->Pv i σ H->g (.ref T) σ (upd H T (.tup [x,y])) fun σ2 H2=>tb { D with nx:=Pv (i+1),ct:=Pv (i+1),bk:=D.nx } σ2 H2) (hd:∀ σ H,Pv its.length σ H->D.nx σ H):ay2 J g tb D σ H:=by
 refine⟨fun i m σ H=>m=its.length - i/\i<=its.length/\Pv i σ H,⟨its.length,by simp,bo _,h0⟩,?_⟩
 rintro i m σ H ⟨rfl,hi,p⟩
 by_cases hlt:i<its.length
 ·refine .inr ⟨Y.go i H (hok i σ H hi p) hlt,Pv (i+1),fun σ' H' p'=>⟨its.length - (i+1),by omega,rfl,hlt,p'⟩,fun x H' y=>?_⟩
  obtain⟨T,u,v,hT,e1,e2,e3⟩:=Y.yld i H x H' (hok i σ H hi p) hlt y
  subst e1 e3
  exact hs i u v T σ _ e2 hT p
 ·have e:i=its.length:=by omega
  subst e
  exact .inl ⟨Y.stop H (hok _ σ H hi p),hd σ H p⟩
variable {tc:DT} {te:DE} {L:Addr} {R:Hp->Prop} {E:EK}
theorem Eh (Y:Fw J its ok) (Pv:Nat->St->Hp->Prop) (h0:Pv 0 σ H) (hok:∀ i σ H,i<=its.length->Pv i σ H->ok H)
  (hs:∀ i x σ H,its[i]? = some x->Pv i σ H->g x σ H fun σ3 H3=>tc σ3 H3 (fun b H4=>if b=true then te σ3 H4 (fun v H5=>∃ ys,H5 L=some (.lst ys)/\ys.length<sizeLine/\Pv (i+1) σ3 (upd H5 L (.lst (ys++[v])))) E else Pv (i+1) σ3 H4) E)
  (hd:∀ σ H,Pv its.length σ H->R H):ah2 J g tc te L R σ H E:=by
 refine⟨fun i m σ H=>m=its.length - i/\i<=its.length/\Pv i σ H,⟨its.length,by simp,bo _,h0⟩,?_⟩
 rintro i m σ H ⟨rfl,hi,p⟩
 by_cases hlt:i<its.length
 ·refine .inr ⟨Y.go i H (hok i σ H hi p) hlt,Pv (i+1),fun σ' H' p'=>⟨its.length - (i+1),by omega,rfl,hlt,p'⟩,fun x H' y=>?_⟩
  obtain⟨e,y2⟩:=Y.yld i H x H' (hok i σ H hi p) hlt y
  subst e
  exact hs i x σ _ y2 p
 ·have e:i=its.length:=by omega
  subst e
  exact .inl ⟨Y.stop H (hok _ σ H hi p),hd σ H p⟩
end
section
variable {K:aa} {H H':Hp}
theorem Same.seqL {a:Addr} {xs:List V} (e:Same H H') (h:SqL K H a xs):SqL K H' a xs:=by
 rcases h with (h|⟨o,h⟩)|h
 ·exact .inl (.inl (e _ _ h))
 ·exact .inl (.inr ⟨o,e _ _ h⟩)
 ·exact .inr h
mutual
theorem Lk (S:Same H H'):∀ {d:Dt} {x:V},At K H d x->At K H' d x
 | .at_ v,x,h=>by unfold At at h ⊢;exact h
 | .lst l,x,h=>by unfold At at h ⊢;obtain⟨a,xs,e,q,h⟩:=h;exact⟨a,xs,e,S.seqL q,Fy S h⟩
 | .tup l,x,h=>by unfold At at h ⊢;obtain⟨a,xs,e,q,h⟩:=h;exact⟨a,xs,e,S.seqT q,Fy S h⟩
theorem Fy (S:Same H H'):∀ {ds:List Dt} {xs:List V},AtL K H ds xs->AtL K H' ds xs
 | [],xs,h=>by unfold AtL at h ⊢;exact h
 | d::ds,xs,h=>by unfold AtL at h ⊢;obtain⟨y,ys,e,h1,h2⟩:=h;exact⟨y,ys,e,Lk S h1,Fy S h2⟩
end
theorem Mr:∀ {ds:List Dt} {xs:List V} {i:Nat} {d:Dt},AtL K H ds xs->ds[i]? = some d -> ∃ y,xs[i]? = some y/\At K H d y
 | [],_,_,_,_,e=>by simp at e
 | c::ds,xs,0,d,h,e=>by
  unfold AtL at h
  obtain⟨y,ys,rfl,h1,h2⟩:=h
  rw [dw] at e
  cases e
  exact⟨y,rfl,h1⟩
 | c::ds,xs,i+1,d,h,e=>by
  unfold AtL at h
  obtain⟨y,ys,rfl,h1,h2⟩:=h
  rw [bD] at e
  obtain⟨z,e1,e2⟩:=Mr h2 e
  exact⟨z,by rw [bD];exact e1,e2⟩
theorem Bp:AtL K H [] []:=by unfold AtL;rfl
theorem Au {d:Dt} {ds:List Dt} {x:V} {xs:List V} (h:At K H d x) (t:AtL K H ds xs):AtL K H (d::ds) (x::xs):=by unfold AtL;exact⟨x,xs,rfl,h,t⟩
theorem Gh:∀ {ds:List Dt} {xs:List V} {es:List Dt} {ys:List V},AtL K H ds xs->AtL K H es ys->AtL K H (ds++es) (xs++ys)
 | [],_,_,_,h,g=>by unfold AtL at h;rw [h];exact g
 | c::ds,xs,es,ys,h,g=>by
  unfold AtL at h
  obtain⟨y,zs,rfl,h1,h2⟩:=h
  exact Au h1 (Gh h2 g)
noncomputable def A1 (z:Str):Dt:=.at_ (.str z)
theorem Bw {z:Str}:At K H (A1 z) (.str z):=by unfold A1 At;exact⟨rfl,rfl⟩
theorem Jd:∀ {r:List Str},AtL K H (r.map A1) (r.map V.str)
 | []=>Bp
 | _::_=>Au Bw Jd
theorem Lj:∀ {r:List Str} {xs:List V},AtL K H (r.map A1) xs->xs=r.map V.str
 | [],xs,h=>by unfold iA AtL at h;exact h
 | z::r,xs,h=>by
  rw [aP] at h
  unfold AtL at h
  obtain⟨y,ys,rfl,h1,h2⟩:=h
  unfold A1 At at h1
  rw [h1.1,Lj h2]
  rfl
theorem Th {a:Addr} {r:List Str} (h:SqT K H a (r.map V.str)):At K H (.tup (r.map A1)) (.ref a):=by unfold At;exact⟨a,_,rfl,h,Jd⟩
theorem Yl {x:V} {r:List Str} (h:At K H (.tup (r.map A1)) x):∃ a,x=.ref a/\SqT K H a (r.map V.str):=by
 unfold At at h
 obtain⟨a,xs,e,q,h⟩:=h
 rw [Lj h] at q
 exact⟨a,e,q⟩
theorem Cg {a:Addr} {r:List Str} (h:SqL K H a (r.map V.str)):At K H (.lst (r.map A1)) (.ref a):=by unfold At;exact⟨a,_,rfl,h,Jd⟩
theorem Je {a:Addr} {ds:List Dt} {xs:List V} (h:SqT K H a xs) (g:AtL K H ds xs):At K H (.tup ds) (.ref a):=by unfold At;exact⟨a,xs,rfl,h,g⟩
theorem Mt {a:Addr} {ds:List Dt} {xs:List V} (h:SqL K H a xs) (g:AtL K H ds xs):At K H (.lst ds) (.ref a):=by unfold At;exact⟨a,xs,rfl,h,g⟩
theorem ah7 {x:V} {ds:List Dt} (h:At K H (.tup ds) x):∃ a xs,x=.ref a/\SqT K H a xs/\AtL K H ds xs:=by unfold At at h;exact h
theorem Fb {v:V} (f:Cd v=true):At K H (.at_ v) v:=by unfold At;exact⟨rfl,f⟩
end
theorem Yx (a b:Str):deq (A1 a) (A1 b)=decide (a=b):=by
 unfold A1 deq
 show (a==b)=_
 rw [dO]
theorem Ev {α:Type} {f:α->Dt} {n:Nat} (h:∀ a,dep (f a)<=n):∀ (l:List α),Bv (l.map f)<=n
 | []=>by unfold iA Bv;exact bo _
 | a::l=>by
  rw [aP]
  unfold Bv
  exact Nat.max_le.mpr ⟨h a,Ev h l⟩
theorem Jj (z:Str):dep (A1 z)<=0:=by unfold A1 dep;exact ae _
noncomputable def TKeep (K:aa) (H H':Hp):Prop:=∀ a xs,SqT K H a xs->SqT K H' a xs
section
variable {K:aa} {H H':Hp}
theorem TKeep.of (S:Same H H'):TKeep K H H':=fun _ _ h=>S.seqT h
theorem TKeep.trans {H2:Hp} (h:TKeep K H H') (g:TKeep K H' H2):TKeep K H H2:=fun a xs q=>g a xs (h a xs q)
theorem TKeep.lst {l:Addr} {ys zs:List V} (h:H l=some (.lst ys)):TKeep K H (upd H l (.lst zs)):=fun a xs q=>by
 rcases q with (q|⟨o,q⟩)|q
 ·have ne:a≠l:=fun e=>by subst e;rw [h] at q;cases q
  exact .inl (.inl (by rw [Ah ne];exact q))
 ·have ne:a≠l:=fun e=>by subst e;rw [h] at q;cases q
  exact .inl (.inr ⟨o,by rw [Ah ne];exact q⟩)
 ·exact .inr q
theorem W8 {x:V} {r:List Str} (h:At K H (.tup (r.map A1)) x) (k:TKeep K H H'):At K H' (.tup (r.map A1)) x:=by
 obtain⟨a,rfl,q⟩:=Yl h
 exact Th (k _ _ q)
theorem Ke (k:TKeep K H H'):∀ {rs:List (List Str)} {xs:List V},AtL K H (rs.map fun r=>.tup (r.map A1)) xs->AtL K H' (rs.map fun r=>.tup (r.map A1)) xs
 | [],xs,h=>by rw [hW] at h ⊢;unfold AtL at h ⊢;exact h
 | r::rs,xs,h=>by
  rw [aP] at h ⊢
  unfold AtL at h
  obtain⟨y,ys,rfl,h1,h2⟩:=h
  exact Au (W8 h1 k) (Ke k h2)
end
end L2
namespace L2
open PySem PySem.Spec PySem.W
structure XC (K:aa) (C:Addr) (bm:List Value):Prop where
 lk:∃ nm q N bs sn sub ab col dd k0 k1 k2 k3 k5,K.lookup C=some (fj nm q C N bs bm true sn sub ab col dd k0 k1 k2 k3 k5 "ValueError.__new__")
 ty:typeIn K (.ref C)=some (.type "type")
 sa:findIn K (.ref C) "__setattr__" = some (some (.builtin "object.__setattr__"))
 ga:findIn K (.ref C) "__getattribute__" = some (some (.builtin "BaseException.__getattribute__"))
 gt:findIn K (.ref C) "__getattr__" = some none
 ca:findIn K (.ref C) "__class__" = some (some (.builtin "object.__class__"))
 hn:specialIn K (.builtin "object.__class__") "__get__" = some (some (.builtin "getset_descriptor.__get__"))
 htk:takesIn K (.builtin "object.__class__")=some true
theorem xc_mk {K:aa} {C N:Addr} {bm bs:List Value} {nm q:Str} {sn:List Str} {sub:List Value} {ab:Bool} {col:Option Bool} {dd:Option Addr} {k0 k1 k2 k3 k5:Option Value}
  (lk:K.lookup C=some (fj nm q C N bs bm true sn sub ab col dd k0 k1 k2 k3 k5 "ValueError.__new__")) (ty:typeIn K (.ref C)=some (.type "type")) (sa:findIn K (.ref C) "__setattr__" = some (some (.builtin "object.__setattr__")))
  (ga:findIn K (.ref C) "__getattribute__" = some (some (.builtin "BaseException.__getattribute__"))) (gt:findIn K (.ref C) "__getattr__" = some none) (ca:findIn K (.ref C) "__class__" = some (some (.builtin "object.__class__")))
  (hn:specialIn K (.builtin "object.__class__") "__get__" = some (some (.builtin "getset_descriptor.__get__"))) (htk:takesIn K (.builtin "object.__class__")=some true):XC K C bm:=⟨⟨_,_,_,_,_,_,_,_,_,_,_,_,_,_,lk⟩,ty,sa,ga,gt,ca,hn,htk⟩
theorem XC.ecls {K:aa} {C:Addr} {bm:List Value} (x:XC K C bm) (h:A4 bm=true):ECls K C:=by
 obtain⟨nm,q,N,bs,sn,sub,ab,col,dd,k0,k1,k2,k3,k5,lk⟩:=x.lk
 exact⟨⟨_,_,_,_,bm,true,_,_,_,_,_,_,_,_,_,_,lk,h,rfl⟩,x.sa,x.ga,x.gt,x.ca,x.hn,x.htk⟩
theorem XC.cls {K:aa} {C:Addr} {bm:List Value} (x:XC K C bm):∃ cd,mR K C=some cd/\cd.mro=.ref C::bm:=by
 obtain⟨nm,q,N,bs,sn,sub,ab,col,dd,k0,k1,k2,k3,k5,lk⟩:=x.lk
 exact⟨_,by unfold mR;rw [lk],rfl⟩
theorem XC.kit {K:aa} {C D:Addr} {bm bd:List Value} (x:XC K C bm) (y:XC K D bd) {b:Bool} (h:(aM C::bm).contains (.ref D)=b):kitOne K (.ref C) (.ref D)=some b:=by
 obtain⟨cd,h1,h2⟩:=x.cls
 obtain⟨cd',h3,_⟩:=y.cls
 unfold kitOne
 by_cases e:(aM C==aM D)=true
 ·rw [if_pos e]
  have e':aM D=aM C:=(cv e).symm
  rw [<- h,bM,e']
  simp
 ·rw [if_neg e]
  unfold kitCls
  dsimp only
  rw [h3,y.ty,if_pos (by rfl)]
  show mroIn K C (.ref D)=_
  unfold mroIn
  rw [h1,cH,h2,h]
  rfl
theorem Id {K:aa} {fd:aH} {ps:List Str} {T:Addr} {o:Obj} {items:Array Value} {n:Nat} {ds:List Value} (m:Nat) (hd:fd.defaults=.ref T) (ho:K.lookup T=some o) (hs:o.data=.seq items n) (hm:m+ds.length=ps.length)
  (h:∀ us:List Value,us.length=m -> ∃ k:Option (Array Value)->Sem (List (Str×Value)),lU fd ⟨us,[]⟩=mW fd.defaults >>= k/\k (some items)=pure (ps.zip (us++ds))):Binds K fd ps ds:=
 Ps hd ho hs fun us hl=>h us (by rw [aI] at hl;omega)
end L2
namespace L2
open PySem PySem.Spec PyProof.Rows
open Sem (wp)
section
variable {X:Cx} {pins:List (Addr×Obj)} {σ:St} {H:Hp} {s:ai} {a C:Addr} {dx:Option Addr} {h':Heap}
theorem aa3 (X:Cx):Lh (CXE X.prog X.w) X:=by
 intro Ex m pins σ H s e s' I h
 obtain⟨a,H',rfl,os,bare,u,hok,F,a',e',hE⟩:=h
 cases e'
 have I':=I.call' os u hok bare (fun b z=>absurd z (by simp))
 obtain⟨C,dx,vs,T,oT,ts,h1,h2,h3,h4,h5,h6,h7,h8,h9,h10⟩:=F
 exact m pins σ H' s' a I' ⟨C,dx,vs,h1,h2,h3,.inr ⟨T,oT,ts,h4,h5,h6,h7,⟨_,h8⟩,I.fpOk h9 h10⟩⟩ hE
end
section
variable {P:aK} {w:bt} {K:aa} {mg:Str->Option Value} {base:Heap}
theorem Wj {N:List Str} {qual:Str} {scope:Scope} {f:Addr} {cdv:Value} {A:bg} {outer:List Env} {s:ai} {H:Hp} {E:XK} :
  Meets (Ji (CXE P w) P w K mg base N qual scope f cdv A outer s H E) (fun _ a H'=>E (.ref a) none H'):=by
 intro pins σ H1 s1 a I F hE
 refine ac (Uj (X:=Ji (CXE P w) P w K mg base N qual scope f cdv A outer s H E) I rfl rfl F fun s' I' F'=>?_)
 obtain⟨C,dx,vs,T,oT,ts,h1,h2,h3,q1,q2,q3,q4,q5,q6⟩:=F'
 exact⟨a,H1,rfl,I'.os,I'.bare,I'.base,I'.hok,⟨C,dx,vs,T,oT,ts,h1,h2,h3,q1,q2,q3,q4,q5,q6.2.2.2.1.elim (fun z=>absurd z (by simp [Ji])) id,q6.1⟩,hE⟩
noncomputable def bj9 (Q:VK) (E:XK):Mo:=⟨fun _ H'=>Q .non H',Q,fun _ _=>False,fun _ _=>False,fun _ a H'=>E (.ref a) none H'⟩
theorem FunD.okWX {x qual:Str} {st:Stmt} {f:Addr} {fd:aH} {N ps:List Str} {k n:Nat} {sp:Sp} {gb:List (Str×GB)} {bl:List Str} {t:DS} {dV:Value} (F:FunD K x qual st f fd dV) (S:Al N ps (Ac st)) (hv:A2 N (Ac st)=true)
  (T:Tab P w K mg base k gb bl) (rd:wSs n (Bg K N (Ac st) gb bl) (Aj st)=t) (len:∀ vs H Q E,sp vs H Q E->vs.length=ps.length)
  (hbody:∀ (vs:List V) (H:Hp) (Q:VK) (E:XK),sp vs H Q E->t (bj9 Q E) (start N vs) H):FnOk P w K mg base (CXE P w) (k+1) f fd ps sp:=by
 obtain⟨oc,od,kV,doc,pm,an,cdv,ct,osl,rfl,lk,hcd⟩:=F.ex
 refine ar8 lk hcd S len fun A outer s H vs Q E hr h=>?_
 have O:GOk (Ji (CXE P w) P w K mg base N qual (Ac st) f cdv A outer s H E) (Bg K N (Ac st) gb bl):=by
  refine⟨rfl,S.kind,(fun _=>PassesOwn.leaving),rfl,S.nd,fun x=>rfl,fun x hx=>?_,fun _ _=>rfl,rfl,(fun _=>hr.hd),hr.units,fun x hx=>?_,fun x g e=>?_,fun x hx=>?_,(fun _=>⟨rfl,rfl⟩),⟨_,_,_,rfl,rfl,rfl⟩⟩
  ·have:=List.all_eq_true.mp hv x hx
   rw [d9] at this
   exact this.elim (fun z=>.inl (cv z)) fun z=>.inr (.inl (cv z))
  ·rcases hx with hx|hx
   ·exact Gi hx
   ·exact absurd rfl (S.nofree _ (b9 hx))
  ·exact (T.all x g e).there hr
  ·exact T.bl x (by have hx':bl.contains x=true:=hx;simpa using hx')
 refine⟨_,(ax8 n _ _ O).2 (Aj st) (fun _ a H'=>E (.ref a) none H') Wj,?_⟩
 rw [rd]
 exact hbody vs H Q E h
end
end L2
namespace L2
open PySem PySem.Spec PyProof.Rows
section
variable {P:aK} {w:bt} {K:aa} {mg:Str->Option Value} {base:Heap} {x q:Str} {st:Stmt} {f:Addr} {d:aH} {ps:List Str}
noncomputable def bi3 (K:aa) (x q:Str) (st:Stmt) (f:Addr):Prop:=∃ d,Fun K x q st f d
structure TopD (K:aa) (q:Str) (st:Stmt) (f:Addr):Prop where
 at_:bT K br q=some (some (.ref f))
 d:bi3 K q q st f
structure MetD (K:aa) (x q:Str) (st:Stmt) (f:Addr):Prop where
 fn:c6 K (.ref f)=true
 d:bi3 K x q st f
theorem top_mk {oc:Value} {od an:Option Addr} {osl:Array (Option Value)} {kV doc pm cdv ct:Value} (a:bT K br q=some (some (.ref f))) (l:K.lookup f=some ⟨oc,od,.func (cb q q (Bq st) (Aj st) (Ac st) .none kV doc pm an cdv ct),osl⟩)
  (c:dA K cdv q=true) (k:aV K (.ref f)=true):TopD K q st f:=⟨a,_,Qb l c k⟩
theorem met_mk {oc:Value} {od an:Option Addr} {osl:Array (Option Value)} {kV doc pm cdv ct:Value} (l:K.lookup f=some ⟨oc,od,.func (cb x q (Bq st) (Aj st) (Ac st) .none kV doc pm an cdv ct),osl⟩)
  (c:dA K cdv q=true) (k:aV K (.ref f)=true) (i:c6 K (.ref f)=true):MetD K x q st f:=⟨i,_,Qb l c k⟩
structure DOk (K:aa) (mg:Str->Option Value) (q:Str) (st:Stmt) (f:Addr) (d:aH) (ps:List Str):Prop where
 F:FunD K q q st f d .none
 b:Binds K d ps []
 m:mg q=some (.ref f)
structure MOk (K:aa) (x q:Str) (st:Stmt) (f:Addr) (d:aH) (ps:List Str):Prop where
 F:FunD K x q st f d .none
 b:Binds K d ps []
 i:c6 K (.ref f)=true
theorem TopD.ok {h:Heap} (D:TopD K q st f) (X:K.In h) (G:h.Ns br mg) (hb:∀ (kV doc pm:Value) (an:Option Addr) (cdv ct:Value) (us:List Value),us.length=ps.length->lU (cb q q (Bq st) (Aj st) (Ac st) .none kV doc pm an cdv ct) ⟨us,[]⟩=pure (ps.zip us)):∃ d,DOk K mg q st f d ps:=by
 obtain⟨a,d,F⟩:=D
 exact⟨d,F.toD,F.binds hb,ff X G a⟩
theorem MetD.ok (D:MetD K x q st f) (hb:∀ (kV doc pm:Value) (an:Option Addr) (cdv ct:Value) (us:List Value),us.length=ps.length->lU (cb x q (Bq st) (Aj st) (Ac st) .none kV doc pm an cdv ct) ⟨us,[]⟩=pure (ps.zip us)):∃ d,MOk K x q st f d ps:=by
 obtain⟨a,d,F⟩:=D
 exact⟨d,F.toD,F.binds hb,a⟩
theorem a44 {i:FI} (h2:i.ds=[]) (b:Binds K i.fd i.ps []):∀ j,j<=i.dfs.length->Binds K i.fd i.ps (i.ds.drop j):=fun j _=>by
 rw [h2,List.drop_nil];exact b
theorem Tab.con {k:Nat} {gb:List (Str×GB)} {bl:List Str} (T:Tab P w K mg base k gb bl) (i:FI) (g:DOk K mg q st i.f i.fd i.ps) (ok:FnOk P w K mg base CX0 i.k i.f i.fd i.ps i.sp) (hk:i.k<=k:=by exact ae _) (h1:i.dfs=[]:=by rfl) (h2:i.ds=[]:=by rfl):Tab P w K mg base k ((q,.fn i)::gb) bl:=
 T.cons ⟨g.m,g.F.kp,⟨CX0,fun X' _ _=>G0 X',ok⟩,hk,a44 h2 g.b,by rw [h1,h2];exact .nil⟩
theorem MOk.fi {k:Nat} (i:FI) (g:MOk K x q st i.f i.fd i.ps) (ok:FnOk P w K mg base CX0 i.k i.f i.fd i.ps i.sp) (hk:i.k<=k:=by exact kr rfl) (h1:i.dfs=[]:=by rfl) (h2:i.ds=[]:=by rfl):FiIn P w K mg base k i:=
 ⟨g.F.kp,⟨CX0,fun X' _ _=>G0 X',ok⟩,hk,a44 h2 g.b,by rw [h1,h2];exact .nil⟩
theorem MOk.fiE {k:Nat} (i:FI) (g:MOk K x q st i.f i.fd i.ps) (ok:FnOk P w K mg base (CXE P w) i.k i.f i.fd i.ps i.sp) (hk:i.k<=k:=by exact kr rfl) (h1:i.dfs=[]:=by rfl) (h2:i.ds=[]:=by rfl):FiIn P w K mg base k i:=
 ⟨g.F.kp,⟨CXE P w,fun X' e1 e2=>e1▸e2▸aa3 X',ok⟩,hk,a44 h2 g.b,by rw [h1,h2];exact .nil⟩
theorem av2 {kb:Nat} {N:List Str} {gb:List (Str×GB)} {bl:List Str} (spR:Nat->Sp) (tR:Nat->DS) (g:DOk K mg q st f d ps) (S:Al N ps (Ac st)) (hv:A2 N (Ac st)=true) (T:Tab P w K mg base kb gb bl) (m:Nat)
  (rd:∀ n,wSs m (Bg K N (Ac st) ((q,.fn ⟨f,d,ps,kb+n+1,spR n,[],[]⟩)::gb) bl) (Aj st)=tR n) (len:∀ n vs H Q E,spR n vs H Q E->vs.length=ps.length) (h0:∀ vs H Q E,¬ spR 0 vs H Q E)
  (hbody:∀ (n:Nat) (vs:List V) (H:Hp) (Q:VK) (E:XK),spR (n+1) vs H Q E->tR n (Jp Q fun _ _=>False) (start N vs) H):∀ n,FnOk P w K mg base CX0 (kb+n+1) f d ps (spR n)
 | 0=>g.F.okW0 (n:=m) S hv T rfl (len 0) fun vs H Q E h=>(h0 vs H Q E h).elim
 | n+1=>g.F.okW0 S hv ((T.mono (show kb<=kb+n+1 by omega)).con ⟨f,d,ps,kb+n+1,spR n,[],[]⟩ g (av2 spR tR g S hv T m rd len h0 hbody n)) (rd n) (len (n+1)) (hbody n)
theorem one {C:Addr} {i:FI} {m:Str} {k:Nat} (h:MetIn P w K mg base k m ⟨C,i⟩):∀ mi∈[(⟨C,i⟩:MI)],MetIn P w K mg base k m mi:=fun mi hm=>by
 rw [bb] at hm
 exact hm▸h
end
end L2
namespace K23
open PySem L2
set_option genInjectivity false in
set_option genSizeOfSpec false in
structure Adr where
 f_zm:Addr
 d_zm:aH
 f_zf:Addr
 d_zf:aH
 f_zn:Addr
 d_zn:aH
 f_zd:Addr
 d_zd:aH
 f_zj:Addr
 d_zj:aH
 f_ze:Addr
 d_ze:aH
 f_zc:Addr
 d_zc:aH
 f_zo:Addr
 d_zo:aH
 f_za:Addr
 d_za:aH
 f_zx:Addr
 d_zx:aH
 f_zg:Addr
 d_zg:aH
 f_zh:Addr
 d_zh:aH
 f_zb:Addr
 d_zb:aH
 f_zi:Addr
 d_zi:aH
 f_zl:Addr
 d_zl:aH
 f_zaa:Addr
 d_zaa:aH
 f_zu:Addr
 d_zu:aH
 f_zv:Addr
 d_zv:aH
 f_zk:Addr
 d_zk:aH
 f_zw:Addr
 d_zw:aH
 f_zae:Addr
 d_zae:aH
 f_zah:Addr
 d_zah:aH
 f_zy:Addr
 d_zy:aH
 f_zak:Addr
 d_zak:aH
 f_zac:Addr
 d_zac:aH
 f_zq:Addr
 d_zq:aH
 f_zai:Addr
 d_zai:aH
 f_zt:Addr
 d_zt:aH
 f_zag:Addr
 d_zag:aH
 f_zz:Addr
 d_zz:aH
 f_zaj:Addr
 d_zaj:aH
 f_zad:Addr
 d_zad:aH
 f_zab:Addr
 d_zab:aH
 f_zp:Addr
 d_zp:aH
 f_zr:Addr
 d_zr:aH
 f_zs:Addr
 d_zs:aH
 f_zal:Addr
 d_zal:aH
 f_zaf:Addr
 d_zaf:aH
 f_zam:Addr
 d_zam:aH
 dv_zf:Value
 du_zf:List Value
 c_zao:Addr
 c_zan:Addr
 c_zap:Addr
 c_zaq:Addr
 u_zar:Value
end K23
set_option maxHeartbeats 400000
namespace L2
section
variable {α:Type} {ch:α->List α} {h:α->Nat}
noncomputable def pre (ch:α->List α):Nat->Int->α->List (Int×α)
 | 0,_,_=>[]
 | k+1,d,n=>(ch n).flatMap fun c=>(d,c)::pre ch k (d+1) c
noncomputable def Gc (ch:α->List α) (h:α->Nat):Prop:=∀ n,∀ c∈ch n,h c<h n
theorem E0 {β:Type} {f g:α->List β}:∀ {l:List α},(∀ x∈l,f x=g x)->l.flatMap f=l.flatMap g
 | [],_=>rfl
 | x::l,e=>by
  rw [jm,jm,e x bx,E0 fun y hy=>e y (aJ _ hy)]
theorem J8 (S:Gc ch h):∀ (k:Nat) (n:α) (d:Int),h n<k -> ∀ j,pre ch (k+j) d n=pre ch k d n
 | 0,n,d,hk,j=>by omega
 | k+1,n,d,hk,j=>by
  rw [show k+1+j=(k+j)+1 by omega]
  unfold pre
  refine E0 fun c hc=>?_
  have:=S n c hc
  rw [J8 S k c (d+1) (by omega) j]
theorem Qy (S:Gc ch h) {k j:Nat} {n:α} {d:Int} (hk:h n<k) (hj:h n<j):pre ch k d n=pre ch j d n:=by
 rcases Nat.le_total k j with l|l
 ·obtain⟨i,rfl⟩:=jC l
  exact (J8 S k n d hk i).symm
 ·obtain⟨i,rfl⟩:=jC l
  exact J8 S j n d hj i
noncomputable def due (ch:α->List α) (k:Nat) (ws:List (Int×α)):List (Int×α):=ws.reverse.flatMap fun w=>w::pre ch k (w.1+1) w.2
theorem ai5 {k:Nat}:due ch k []=[]:=rfl
theorem Y1 (S:Gc ch h) {k:Nat} (hk:∀ n,h n<k) {fs ws:List (Int×α)} {x:Int×α}:(fs++[x])++due ch k (ws++(ch x.2).reverse.map fun c=>(x.1+1,c))=fs++due ch k (ws++[x]):=by
 unfold due
 rw [la,la,eV,eV,<- ii,kO,List.reverse_singleton,jX,cX]
 congr 1
 rw [ko,dM]
 congr 2
 rw [List.flatMap_map]
 obtain⟨j,rfl⟩:∃ j,k=j+1:=⟨k - 1,by have:=hk x.2;omega⟩
 show (ch x.2).flatMap _=(ch x.2).flatMap _
 refine E0 fun c hc=>?_
 have h1:=S _ c hc
 have h2:=hk x.2
 rw [Qy S (hk c) (show h c<j by omega)]
theorem Vu (S:Gc ch h) {k:Nat} (hk:∀ n,h n<k) {n:α} {d:Int}:due ch k ((ch n).reverse.map fun c=>(d,c))=pre ch k d n:=by
 unfold due
 rw [<- ii,kO,List.flatMap_map]
 obtain⟨j,rfl⟩:∃ j,k=j+1:=⟨k - 1,by have:=hk n;omega⟩
 show _=(ch n).flatMap _
 refine E0 fun c hc=>?_
 have h1:=S _ c hc
 have h2:=hk n
 rw [Qy S (hk c) (show h c<j by omega)]
end
end L2
namespace K23
open PySem L2
noncomputable def Ky (c:Nat):Bool:=(decide (32<=c)&&decide (c<=126))&&c != 37
noncomputable def wfS (z:Str):Prop:=z.length<=60/\z.cps.toList.all Ky=true
noncomputable abbrev Tb:=List (List Str)
noncomputable def wfR (m:Nat) (r:List Str):Prop:=r.length=m /\ ∀ z∈r,wfS z
noncomputable def wfT (t:Tb):Prop:=1<=t.length/\t.length<=6 /\ ∃ m,1<=m/\m<=6 /\ ∀ r∈t,wfR m r
noncomputable def Wx (r:List Str):Dt:=.tup (r.map A1)
noncomputable def ag0 (t:Tb):Dt:=.tup (t.map Wx)
mutual
noncomputable def noL:Dt->Bool
 | .at_ _=>true
 | .lst _=>false
 | .tup l=>Dc l
noncomputable def Dc:List Dt->Bool
 | []=>true
 | x::xs=>noL x&&Dc xs
end
noncomputable def Jh (d:Dt):Prop:=noL d=true/\dep d<=5
noncomputable def Lb (i:Int):Dt:=.at_ (.int i)
noncomputable def rkI (i:Int):Prop:=0<=i/\i<=1000000000
structure Rc where
 kd:Str
 pr:Str
 rk:Int
 ct:Dt
noncomputable abbrev Rs:=List (Str×Rc)
noncomputable def get (S:Rs) (z:Str):Option Rc:=(S.find? fun p=>decide (p.1=z)).map (·.2)
noncomputable def keys (S:Rs):List Str:=S.map (·.1)
noncomputable def has (S:Rs) (z:Str):Bool:=(get S z).isSome
noncomputable def Ao (S:Rs) (z:Str):Rc:=(get S z).getD ⟨"", "", 0,A1 ""⟩
noncomputable def Cy (S:Rs) (z:Str) (r:Rc):Rs:=if (S.any fun p=>decide (p.1=z))=true then S.map (fun p=>if p.1=z then (p.1,r) else p) else S++[(z,r)]
noncomputable def rcD (r:Rc):Dt:=.tup [A1 r.kd,A1 r.pr,Lb r.rk,r.ct]
noncomputable def RcAt (K:aa) (H:Hp) (r:Rc) (x:V):Prop:=∃ q y,x=.ref q/\SqT K H q [.str r.kd,.str r.pr,.int r.rk,y]/\At K H r.ct y/\Jh r.ct
noncomputable def KvAt (K:aa) (H:Hp):Rs->List (Key×V)->Prop
 | [],kvs=>kvs=[]
 | (z,r)::S,kvs=>∃ x rest,kvs=(.inr z,x)::rest/\RcAt K H r x/\KvAt K H S rest
noncomputable def RsAt (K:aa) (H:Hp) (d:Addr) (S:Rs):Prop:=∃ kvs,H d=some (.dK kvs)/\KvAt K H S kvs
noncomputable def RdAt (K:aa) (H:Hp) (d:Addr) (S:Rs):Prop:=∃ kvs,Rd H d (.dK kvs)/\KvAt K H S kvs
noncomputable def PlIn (t:Adr) (H:Hp) (p d:Addr):Prop:=∃ dx,H p=some (.ins t.c_zaq dx [("records", .ref d)])
noncomputable def PlAt (K:aa) (t:Adr) (H:Hp) (p d:Addr) (S:Rs):Prop:=PlIn t H p d/\RdAt K H d S
noncomputable def PwAt (K:aa) (t:Adr) (H:Hp) (p d:Addr) (S:Rs):Prop:=PlIn t H p d/\RsAt K H d S
noncomputable def But (d:Addr) (H H':Hp):Prop:=∀ b o,b≠d->H b=some o->H' b=some o
noncomputable def Sm (H H':Hp):Prop:=∀ b o,H b=some o->H' b=some o \/ ∃ kvs u,o=.dK kvs/\H' b=some (.frz u (.dK kvs))
noncomputable def rkf (S:Rs) (z:Str):Int:=(Ao S z).rk
noncomputable def Gz (S:Rs):List Str:=Ak (ltK (rkf S)) (keys S)
noncomputable def chS (S:Rs) (p:Str):List Str:=(Gz S).filter fun z=>decide ((Ao S z).pr=p)
structure Tr (S:Rs):Prop where
 nd:(keys S).Nodup
 few:S.length<=10
 ne:("" : Str)∉keys S
 up:∃ h:Str->Nat,(∀ z,h z<12) /\ ∀ z r,get S z=some r->h z<h r.pr
noncomputable def D3 (S:Rs) (n:Str):List (Int×Str):=pre (chS S) 12 1 n
noncomputable def lnD (S:Rs) (w:Int×Str):Dt:=.tup [Lb w.1,A1 w.2,A1 (Ao S w.2).kd,Lb (Ao S w.2).rk,(Ao S w.2).ct]
noncomputable def gone (S:Rs) (n:Str):List Str:=n::(D3 S n).map (·.2)
noncomputable def F7 (S:Rs) (n:Str):Rs:=S.filter fun p=>decide (p.1∉gone S n)
noncomputable def Like (S R:Rs):Prop:=(keys S).Perm (keys R) /\ ∀ z,get S z=get R z
noncomputable def kyK (S:Rs):List Key:=(keys S).map eJ
noncomputable def rsD (S:Rs):List Dt:=S.map fun p=>rcD p.2
noncomputable def Kr (S S':Rs):Bool:=P5 (kyK S) (rsD S) (kyK S') (rsD S')
noncomputable def UnAt (H:Hp) (u:Addr) (S:Rs):Prop:=∃ kvs,H u=some (.dK kvs) /\ ∀ p,match Bb kvs (.inr p) with
 | none=>chS S p=[]
 | some v=>∃ l,v=.ref l/\H l=some (.lst ((chS S p).map V.str))
noncomputable def PrAt (K:aa) (H:Hp):List (Int×Str)->List V->Prop
 | [],ys=>ys=[]
 | w::ws,ys=>∃ q rest,ys=.ref q::rest/\SqT K H q [.int w.1,.str w.2]/\PrAt K H ws rest
structure Aw (K:aa) (t:Adr):Prop where
 pl:Cls K t.c_zaq
 plr:NoAttr K t.c_zaq "records"
 ec:ECls K t.c_zap
 n1:NoAttr K t.c_zap "part"
 n2:NoAttr K t.c_zap "choice"
 kt:fz K (.ref t.c_zap) (.ref t.c_zan)=some true
 me:gM K t.c_zap (.ref t.c_zap)=some true
noncomputable def ah3 (t:Adr) (H:Hp) (a:Addr) (z:Str):Prop:=∃ dx,dx≠a/\H a=some (flO a t.c_zap (some dx))/\H dx=some (xdO dx [("part", .str z),("choice", .non)])
noncomputable def Bad (t:Adr) (H:Hp) (z:Str) (E:XK):Prop:=∀ H' a,Same H H'->ah3 t H' a z->E (.ref a) none H'
noncomputable def C9 (ns:List Int) (k:Nat):Int:=if k<ns.length then ns.getD k 0 else ((k:Int)+3) * 7919
noncomputable def alpha:Str := "abcdefghijklmnopqrstuvwxyz0123456789."
noncomputable def al (i:Int):Nat:=(atI alpha.cps.toList (i % 37)).getD 0
noncomputable def someN:List Str:=["chapter", "put", "para", "table", "top", "cut", "wrap", "move", "write", "none", "cell", "0"]
noncomputable def tlF (c:Int):List Nat:=(cL 11).map fun (j:Nat)=>al (c / 37+7 * (1+(j:Int)) * (1+(j:Int)))
noncomputable def bsF (c:Int):List Nat:=(al (c / 720)::tlF c).take (1+c / 5 % 12).toNat
noncomputable def atF (c:Int):Nat:=(c / 60 % (1+c / 5 % 12)).toNat
noncomputable def nmL (c:Int) (k:Nat):List Nat:=if c % 5=3 then al (c / 5+(k:Int) / 12)::(tlF c).take (k % 12) else (bsF c).take (atF c)++[al (c / 26640+k)]++(bsF c).drop (atF c+1)
noncomputable def nmF (c:Int) (k:Nat):Str:=if c % 5=4 then someN.getD (((k:Int)+c / 5) % 12).toNat "" else ⟨(nmL c k).toArray⟩
noncomputable def Ou (c:Int) (m:Nat):List Str:=(cL m).map (nmF c)
section
noncomputable def av8 (K:aa) (t:Adr):Sp:=fun vs H Q _=>∃ (H0:Hp) (a C:Addr) (x y:V),vs=[.ref a,x,y]/\H0 a=none/\H=upd H0 a (Ep a C none)/\ECls K C/\NoAttr K C "part" /\ NoAttr K C "choice" /\ ∀ H' dx,Same H0 H'->dx≠a->H' a=some (Ep a C (some dx))->H' dx=some (xdO dx [("part", x),("choice", y)])->Q .non H'
noncomputable def aw9 (K:aa) (t:Adr):Sp:=fun vs H Q _=>∃ (a dx:Addr),vs=[.ref a]/\H a=some (.ins t.c_zaq dx []) /\ ∀ d,H d=none->Q .non (upd (upd H d (.dK [])) a (.ins t.c_zaq dx [("records", .ref d)]))
noncomputable def ax2 (K:aa) (t:Adr):Sp:=fun vs H Q _=>∃ (p d:Addr) (S:Rs) (z:Str),vs=[.ref p,.str z]/\PlAt K t H p d S/\Q (.bl (has S z)) H
noncomputable def aw6 (K:aa) (t:Adr):Sp:=fun vs H Q E=>∃ (p d:Addr) (S:Rs) (z:Str),vs=[.ref p,.str z]/\PlAt K t H p d S/\(∀ r,get S z=some r -> ∀ x,RcAt K H r x->Q x H)/\(has S z=false->Bad t H z E)
noncomputable def U3 (K:aa) (t:Adr) (f:Rc->V->V):Sp:=fun vs H Q E=>∃ (p d:Addr) (S:Rs) (z:Str),vs=[.ref p,.str z]/\PlAt K t H p d S/\(∀ r,get S z=some r -> ∀ y,At K H r.ct y->Jh r.ct->Q (f r y) H)/\(has S z=false->Bad t H z E)
noncomputable def aw0 (K:aa) (t:Adr):Sp:=U3 K t fun r _=>.str r.kd
noncomputable def av6 (K:aa) (t:Adr):Sp:=U3 K t fun r _=>.str r.pr
noncomputable def aw2 (K:aa) (t:Adr):Sp:=U3 K t fun r _=>.int r.rk
noncomputable def av4 (K:aa) (t:Adr):Sp:=U3 K t fun _ y=>y
noncomputable def aw5 (K:aa) (t:Adr):Sp:=fun vs H Q _=>∃ (p d:Addr) (S:Rs),vs=[.ref p]/\PlAt K t H p d S/\(keys S).Nodup/\S.length<=20 /\ ∀ l,H l=none->Q (.ref l) (upd H l (.lst ((Ak ltS (keys S)).map V.str)))
noncomputable def ae8 (K:aa) (t:Adr):Sp:=fun vs H Q _=>∃ (p d:Addr) (S:Rs) (z:Str) (r:Rc) (y:V),vs=[.ref p,.str z,.str r.kd,.str r.pr,.int r.rk,y]/\PwAt K t H p d S/\S.length<100/\At K H r.ct y/\Jh r.ct /\ ∀ H',But d H H'->RsAt K H' d (Cy S z r)->Q .non H'
noncomputable def av5 (K:aa) (t:Adr):Sp:=fun vs H Q E=>∃ (p d:Addr) (S:Rs) (z:Str),vs=[.ref p,.str z]/\PlAt K t H p d S/\(z = "" \/ has S z=true->Q .non H)/\(z ≠ "" -> has S z=false->Bad t H z E)
noncomputable def av7 (K:aa) (t:Adr):Sp:=fun vs H Q _=>∃ (p d:Addr) (S:Rs) (z:Str),vs=[.ref p,.str z]/\PlAt K t H p d S/\has S z=true /\ ∀ q,H q=none->Q (.ref q) (upd H q (.tup [.int (rkf S z),.str z]))
noncomputable def aw7 (K:aa) (t:Adr):Sp:=fun vs H Q E=>∃ (p d:Addr) (S:Rs) (z:Str),vs=[.ref p,.str z]/\PlAt K t H p d S/\Tr S/\(z = "" \/ has S z=true -> ∀ H' l,Sm H H'->H l=none->H' l=some (.lst ((chS S z).map V.str))->Q (.ref l) H')/\(z ≠ "" -> has S z=false->Bad t H z E)
noncomputable def av3 (K:aa) (t:Adr):Sp:=fun vs H Q _=>∃ (p d:Addr) (S:Rs),vs=[.ref p]/\PlAt K t H p d S/\Tr S /\ ∀ H' u,Same H H'->UnAt H' u S->Q (.ref u) H'
noncomputable def ax1 (K:aa) (t:Adr):Sp:=fun vs H Q _=>∃ (p d:Addr) (S:Rs) (n:Str),vs=[.ref p,.str n]/\PlAt K t H p d S/\Tr S /\ ∀ H' a ys,Same H H'->PrAt K H' (D3 S n) ys->H' a=some (.lst ys)->Q (.ref a) H'
noncomputable def av9 (K:aa) (t:Adr):Sp:=fun vs H Q E=>∃ (p d:Addr) (S:Rs) (z:Str),vs=[.ref p,.str z]/\PlAt K t H p d S/\Tr S/\(z = "" \/ has S z=true -> ∀ H' l,Same H H'->H l=none->H' l=some (.lst (((D3 S z).map (·.2)).map V.str))->Q (.ref l) H')/\(z ≠ "" -> has S z=false->Bad t H z E)
noncomputable def aw1 (K:aa) (t:Adr):Sp:=fun vs H Q _=>∃ (p d:Addr) (S:Rs) (w:Int×Str),vs=[.ref p,.int w.1,.str w.2]/\PlAt K t H p d S/\has S w.2=true /\ ∀ H' x,Same H H'->At K H' (lnD S w) x->Q x H'
noncomputable def aw4 (K:aa) (t:Adr):Sp:=fun vs H Q _=>∃ (p d:Addr) (S:Rs),vs=[.ref p]/\PlAt K t H p d S/\Tr S /\ ∀ H' l ys,Same H H'->H l=none->H' l=some (.lst ys)->AtL K H' ((D3 S "").map (lnD S)) ys->Q (.ref l) H'
noncomputable def aw8 (K:aa) (t:Adr):Sp:=fun vs H Q E=>∃ (p d:Addr) (S:Rs) (n:Str),vs=[.ref p,.str n]/\PlAt K t H p d S/\Tr S/\(has S n=true->RsAt K H d S /\ ∀ H',But d H H'->RsAt K H' d (F7 S n)->Q .non H')/\(has S n=false->Bad t H n E)
noncomputable def aw3 (K:aa) (t:Adr):Sp:=fun vs H Q _=>∃ (p d:Addr) (S:Rs),vs=[.ref p]/\PlAt K t H p d S /\ ∀ H' p' d',Same H H'->H d'=none->PwAt K t H' p' d' S->Q (.ref p') H'
noncomputable def ax0 (K:aa) (t:Adr):Sp:=fun vs H Q _=>∃ (p d p' d':Addr) (S S':Rs),vs=[.ref p,.ref p']/\PlAt K t H p d S/\PlAt K t H p' d' S'/\Q (.bl (Kr S S')) H
noncomputable def Cz (K:aa) (t:Adr):Sp:=fun vs H Q _=>∃ (a:Addr) (ns:List Int) (k:Nat),vs=[.ref a,.int k]/\SqL K H a (ns.map V.int)/\Q (.int (C9 ns k)) H
noncomputable def Mh (K:aa) (t:Adr):Sp:=fun vs H Q _=>∃ (c:Int) (n:Nat),vs=[.int c,.int n]/\n<=100 /\ ∀ H' l (ns:List Int),Same H H'->H l=none->H' l=some (.lst (ns.map V.int))->ns.length=n->(∀ i∈ns,0<=i/\i<2147483648)->Q (.ref l) H'
noncomputable def Nt (K:aa) (t:Adr):Sp:=fun vs H Q _=>∃ c:Int,vs=[.int c] /\ ∀ z H',Same H H'->wfS z->Q (.str z) H'
noncomputable def Sc (K:aa) (t:Adr):Sp:=fun vs H Q _=>∃ c:Int,vs=[.int c] /\ ∀ T H' x,Same H H'->wfT T->At K H' (ag0 T) x->Q x H'
noncomputable def ae9 (K:aa) (t:Adr):Sp:=fun vs H Q _=>∃ (z:Str) (c:Int),vs=[.str z,.int c] /\ ∀ D H' x,Same H H'->Jh D->At K H' D x->Q x H'
noncomputable def Kx (K:aa) (t:Adr):Sp:=fun vs H Q _=>∃ (c:Int) (k:Nat),vs=[.int c,.int k]/\k<=11 /\ ∀ H',Same H H'->Q (.str (nmF c k)) H'
noncomputable def Se (K:aa) (t:Adr):Sp:=fun vs H Q _=>∃ x:Int,vs=[.int x] /\ ∀ r H',Same H H'->rkI r->Q (.int r) H'
noncomputable def af0 (K:aa) (t:Adr):Sp:=fun vs H Q _=>∃ (a:Addr) (ns:List Int),vs=[.ref a]/\SqL K H a (ns.map V.int)/\ns.length<=63 /\ ∀ H' d R m,Same H H'->H d=none->RsAt K H' d R->Tr R->m<=10->keys R=Ou (C9 ns 0) m->(∀ z r,get R z=some r->rkI r.rk)->Q (.ref d) H'
noncomputable def Sd (K:aa) (t:Adr):Sp:=fun vs H Q _=>∃ (a d:Addr) (ns:List Int) (R:Rs),vs=[.ref a,.ref d]/\SqL K H a (ns.map V.int)/\RsAt K H d R/\Tr R /\ ∀ H' p d' S,Same H H'->H d'=none->PwAt K t H' p d' S->Like S R->Q (.ref p) H'
noncomputable def Sh (K:aa) (t:Adr):Sp:=fun vs H Q _=>∃ (x y:Str),vs=[.str x,.str y]/\x≠y/\x ≠ "" /\ y ≠ "" /\ ∀ H',Same H H'->Q (.bl true) H'
noncomputable def Nr (K:aa) (t:Adr):Sp:=fun vs H Q _=>∃ (d:Addr) (R:Rs) (z:Str),vs=[.ref d,.str z]/\RdAt K H d R/\Tr R /\ ∀ H' l,Sm H H'->H l=none->H' l=some (.lst ((chS R z).map V.str))->Q (.ref l) H'
noncomputable def G5 (K:aa) (t:Adr) (n:Nat):Sp:=fun vs H Q _=>∃ (d:Addr) (R:Rs) (z:Str) (k:Int) (h:Str->Nat),vs=[.ref d,.str z,.int k]/\RdAt K H d R/\Tr R/\Gc (chS R) h/\(∀ y,h y<12)/\h z<n /\ ∀ H' l ys,Sm H H'->H l=none->H' l=some (.lst ys)->AtL K H' ((pre (chS R) 12 k z).map (lnD R)) ys->Q (.ref l) H'
noncomputable def R8 (K:aa) (t:Adr):Sp:=G5 K t 12
noncomputable def Pc (K:aa) (t:Adr):Sp:=fun vs H Q _=>∃ (d:Addr) (R:Rs) (z:Str),vs=[.ref d,.str z]/\RdAt K H d R/\Tr R /\ ∀ H' l,Sm H H'->H' l=some (.lst (((D3 R z).map (·.2)).map V.str))->Q (.ref l) H'
noncomputable def U6 (K:aa) (t:Adr):Sp:=fun vs H Q _=>∃ (p d:Addr) (S:Rs) (z:Str) (m:Nat),vs=[.ref p,.str z,.int m]/\PlAt K t H p d S/\Tr S/\has S z=false/\m<=7/\(z = "" -> m<=5) /\ ∀ H',Same H H'->Q (.bl true) H'
noncomputable def U5 (K:aa) (t:Adr):Sp:=fun vs H Q _=>∃ (p d:Addr) (S:Rs) (z:Str),vs=[.ref p,.str z]/\PlAt K t H p d S/\Tr S/\has S z=false /\ ∀ H',Same H H'->Q (.bl true) H'
noncomputable def Si (K:aa) (t:Adr):Sp:=fun vs H Q _=>∃ (p d d0:Addr) (S R:Rs) (z:Str) (r:Rc),vs=[.ref p,.ref d0,.str z]/\PlAt K t H p d S/\RdAt K H d0 R/\get S z=some r/\get R z=some r /\ ∀ H',Same H H'->Q (.bl true) H'
noncomputable def E8 (K:aa) (t:Adr):Sp:=fun vs H Q _=>∃ (p d d0:Addr) (S R:Rs) (x:Str),vs=[.ref p,.ref d0,.str x]/\PlAt K t H p d S/\RdAt K H d0 R/\Like S R/\Tr R/\x ≠ "" /\ has R x=false /\ ∀ H',Sm H H'->Q (.bl true) H'
noncomputable def Nu (K:aa) (t:Adr):Sp:=fun vs H Q _=>∃ (a:Addr) (ns:List Int),vs=[.ref a]/\SqL K H a (ns.map V.int)/\ns.length<=63 /\ ∀ H',Q (.bl true) H'
end
end K23
set_option maxHeartbeats 4000000
namespace K23
open PySem L2
noncomputable def top (i:Nat):Stmt:=PySem.Challenge.pw_manyleaf_k23_plain_books.main.body.getD i (.Pass ⟨0,0,0,0⟩)
noncomputable def bl:List Str:=["dict", "enumerate", "int", "isinstance", "len", "list", "max", "range", "reversed", "set", "sorted", "tuple"]
section
variable (K:aa) (t:Adr)
noncomputable abbrev Rp:Stmt:=A8 (top 7) 8
noncomputable abbrev a00:List Str:=["self"]
noncomputable abbrev X6:List Str:=["self"]
noncomputable def Om:FI:=⟨t.f_zm,t.d_zm,X6,1,aw5 K t,[],[]⟩
noncomputable abbrev Ia:Stmt:=A8 (top 3) 0
noncomputable abbrev az1:List Str:=["self", "part", "choice"]
noncomputable abbrev Xz:List Str:=["self", "part", "choice"]
noncomputable def Qj:FI:=⟨t.f_zf,t.d_zf,Xz,1,av8 K t,[.non],t.du_zf⟩
noncomputable abbrev Rq:Stmt:=A8 (top 7) 2
noncomputable abbrev a01:List Str:=["self", "name"]
noncomputable abbrev X7:List Str:=["self", "name"]
noncomputable def Il:FI:=⟨t.f_zn,t.d_zn,X7,3,aw6 K t,[],[]⟩
noncomputable abbrev Rh:Stmt:=A8 (top 7) 5
noncomputable abbrev ay9:List Str:=["self", "name"]
noncomputable abbrev Xx:List Str:=["self", "name"]
noncomputable def Qi:FI:=⟨t.f_zd,t.d_zd,Xx,4,av6 K t,[],[]⟩
noncomputable abbrev Rm:Stmt:=A8 (top 7) 6
noncomputable abbrev az7:List Str:=["self", "name"]
noncomputable abbrev X3:List Str:=["self", "name"]
noncomputable def V6:FI:=⟨t.f_zj,t.d_zj,X3,4,aw2 K t,[],[]⟩
noncomputable abbrev Ri:Stmt:=A8 (top 7) 10
noncomputable abbrev az0:List Str:=["self", "name"]
noncomputable abbrev Xy:List Str:=["self", "name"]
noncomputable def Zk:FI:=⟨t.f_ze,t.d_ze,Xy,5,av7 K t,[],[]⟩
noncomputable abbrev Rg:Stmt:=A8 (top 7) 11
noncomputable abbrev ay8:List Str:=["self", "name"]
noncomputable abbrev Xw:List Str:=["self", "name"]
noncomputable def aj4:FI:=⟨t.f_zc,t.d_zc,Xw,3,av5 K t,[],[]⟩
noncomputable abbrev Rr:Stmt:=A8 (top 7) 9
noncomputable abbrev a02:List Str:=["self", "parent", "names"]
noncomputable abbrev X8:List Str:=["self", "parent"]
noncomputable def Zm:FI:=⟨t.f_zo,t.d_zo,X8,8,aw7 K t,[],[]⟩
noncomputable abbrev Re:Stmt:=A8 (top 7) 14
noncomputable abbrev ay6:List Str:=["self", "unders", "name"]
noncomputable abbrev Xu:List Str:=["self"]
noncomputable def a31:FI:=⟨t.f_za,t.d_za,Xu,8,av3 K t,[],[]⟩
noncomputable abbrev R1:Stmt:=A8 (top 7) 13
noncomputable abbrev a11:List Str:=["self", "name", "unders", "found", "waiting", "line"]
noncomputable abbrev Yh:List Str:=["self", "name"]
noncomputable def aj7:FI:=⟨t.f_zx,t.d_zx,Yh,9,ax1 K t,[],[]⟩
noncomputable abbrev Rj:Stmt:=A8 (top 7) 12
noncomputable abbrev az3:List Str:=["self", "name"]
noncomputable abbrev X0:List Str:=["self", "name"]
noncomputable def V5:FI:=⟨t.f_zg,t.d_zg,X0,10,av9 K t,[],[]⟩
noncomputable abbrev Rk:Stmt:=A8 (top 7) 4
noncomputable abbrev az4:List Str:=["self", "name"]
noncomputable abbrev X1:List Str:=["self", "name"]
noncomputable def Zl:FI:=⟨t.f_zh,t.d_zh,X1,4,aw0 K t,[],[]⟩
noncomputable abbrev Rf:Stmt:=A8 (top 7) 7
noncomputable abbrev ay7:List Str:=["self", "name"]
noncomputable abbrev Xv:List Str:=["self", "name"]
noncomputable def Zj:FI:=⟨t.f_zb,t.d_zb,Xv,4,av4 K t,[],[]⟩
noncomputable abbrev Rl:Stmt:=A8 (top 7) 16
noncomputable abbrev az5:List Str:=["self", "depth", "name"]
noncomputable abbrev X2:List Str:=["self", "depth", "name"]
noncomputable def a32:FI:=⟨t.f_zi,t.d_zi,X2,5,aw1 K t,[],[]⟩
noncomputable abbrev Ro:Stmt:=A8 (top 7) 15
noncomputable abbrev az9:List Str:=["self"]
noncomputable abbrev X5:List Str:=["self"]
noncomputable def aj5:FI:=⟨t.f_zl,t.d_zl,X5,10,aw4 K t,[],[]⟩
noncomputable abbrev Kf:Stmt:=A8 (top 7) 17
noncomputable abbrev Xh:List Str:=["self", "name", "kind", "parent", "rank", "content"]
noncomputable abbrev Nz:List Str:=["self", "name", "kind", "parent", "rank", "content"]
noncomputable def Ol:FI:=⟨t.f_zaa,t.d_zaa,Nz,1,ae8 K t,[],[]⟩
noncomputable abbrev Ry:Stmt:=A8 (top 7) 18
noncomputable abbrev a08:List Str:=["self", "name", "below"]
noncomputable abbrev Ye:List Str:=["self", "name"]
noncomputable def aj6:FI:=⟨t.f_zu,t.d_zu,Ye,11,aw8 K t,[],[]⟩
noncomputable abbrev Rz:Stmt:=A8 (top 7) 0
noncomputable abbrev a09:List Str:=["self"]
noncomputable abbrev Yf:List Str:=["self"]
noncomputable def V7:FI:=⟨t.f_zv,t.d_zv,Yf,1,aw9 K t,[],[]⟩
noncomputable abbrev Rn:Stmt:=A8 (top 7) 19
noncomputable abbrev az8:List Str:=["self", "twin"]
noncomputable abbrev X4:List Str:=["self"]
noncomputable def Qk:FI:=⟨t.f_zk,t.d_zk,X4,3,aw3 K t,[],[]⟩
noncomputable abbrev R0:Stmt:=A8 (top 7) 20
noncomputable abbrev a10:List Str:=["self", "other"]
noncomputable abbrev Yg:List Str:=["self", "other"]
noncomputable def La:FI:=⟨t.f_zw,t.d_zw,Yg,1,ax0 K t,[],[]⟩
noncomputable abbrev Kj:Stmt:=top 9
noncomputable abbrev Xl:List Str:=["_law_script", "_law_k"]
noncomputable abbrev N2:List Str:=["_law_script", "_law_k"]
noncomputable def as6:FI:=⟨t.f_zae,t.d_zae,N2,1,Cz K t,[],[]⟩
noncomputable abbrev Km:Stmt:=top 14
noncomputable abbrev Xo:List Str:=["_law_cell_here", "_law_k", "_law_some", "_law_signs", "_law_tail", "_law_size", "_law_at", "_law_base"]
noncomputable abbrev N5:List Str:=["_law_cell_here", "_law_k"]
noncomputable def as9:FI:=⟨t.f_zah,t.d_zah,N5,1,Kx K t,[],[]⟩
noncomputable abbrev R3:Stmt:=top 10
noncomputable abbrev a12:List Str:=["_law_cell_here", "_law_many", "_law_found", "_law_left", "_law_number", "_law_k"]
noncomputable abbrev Yi:List Str:=["_law_cell_here", "_law_many"]
noncomputable def bl2:FI:=⟨t.f_zy,t.d_zy,Yi,1,Mh K t,[],[]⟩
noncomputable abbrev Kp:Stmt:=top 11
noncomputable abbrev Xr:List Str:=["_law_cell_here", "_law_signs", "_law_xs", "_law_size", "_law_text_here", "_law_x"]
noncomputable abbrev N8:List Str:=["_law_cell_here"]
noncomputable def at2:FI:=⟨t.f_zak,t.d_zak,N8,2,Nt K t,[],[]⟩
noncomputable abbrev Kh:Stmt:=top 12
noncomputable abbrev Xj:List Str:=["_law_cell_here", "_law_xs", "_law_many", "_law_wide", "_law_rows", "_law_j"]
noncomputable abbrev N0:List Str:=["_law_cell_here"]
noncomputable def as4:FI:=⟨t.f_zac,t.d_zac,N0,3,Sc K t,[],[]⟩
noncomputable abbrev Ru:Stmt:=top 13
noncomputable abbrev a04:List Str:=["_law_kind", "_law_cell_here"]
noncomputable abbrev Ya:List Str:=["_law_kind", "_law_cell_here"]
noncomputable def bk8:FI:=⟨t.f_zq,t.d_zq,Ya,4,ae9 K t,[],[]⟩
noncomputable abbrev Kn:Stmt:=top 15
noncomputable abbrev Xp:List Str:=["_law_x"]
noncomputable abbrev N6:List Str:=["_law_x"]
noncomputable def at0:FI:=⟨t.f_zai,t.d_zai,N6,1,Se K t,[],[]⟩
noncomputable abbrev Rx:Stmt:=top 16
noncomputable abbrev a07:List Str:=["_law_script", "_law_records_here", "_law_holders", "_law_k", "_law_cell_here", "_law_xs", "_law_name_here", "_law_kind"]
noncomputable abbrev Yd:List Str:=["_law_script"]
noncomputable def bl1:FI:=⟨t.f_zt,t.d_zt,Yd,5,af0 K t,[],[]⟩
noncomputable abbrev Kl:Stmt:=top 17
noncomputable abbrev Xn:List Str:=["_law_script", "_law_records_here", "_law_plain", "_law_names", "_law_at", "_law_turned", "_law_name_here", "_law_known", "_law_kind", "_law_parent", "_law_rank_here", "_law_content_here"]
noncomputable abbrev N4:List Str:=["_law_script", "_law_records_here"]
noncomputable def as8:FI:=⟨t.f_zag,t.d_zag,N4,4,Sd K t,[],[]⟩
noncomputable abbrev R5:Stmt:=A8 (top 7) 1
noncomputable abbrev a13:List Str:=["self", "name"]
noncomputable abbrev Yj:List Str:=["self", "name"]
noncomputable def V8:FI:=⟨t.f_zz,t.d_zz,Yj,1,ax2 K t,[],[]⟩
noncomputable abbrev Ko:Stmt:=top 18
noncomputable abbrev Xq:List Str:=["_law_one_here", "_law_other", "_law_plain", "_law_twin"]
noncomputable abbrev N7:List Str:=["_law_one_here", "_law_other"]
noncomputable def at1:FI:=⟨t.f_zaj,t.d_zaj,N7,5,Sh K t,[],[]⟩
noncomputable abbrev Ki:Stmt:=top 19
noncomputable abbrev Xk:List Str:=["_law_records_here", "_law_parent"]
noncomputable abbrev N1:List Str:=["_law_records_here", "_law_parent"]
noncomputable def as5:FI:=⟨t.f_zad,t.d_zad,N1,1,Nr K t,[],[]⟩
noncomputable abbrev Kg:Stmt:=top 20
noncomputable abbrev Xi:List Str:=["_law_records_here", "_law_parent", "_law_depth", "_law_lines_here", "_law_name_here", "_law_kind", "_law_above", "_law_rank_here", "_law_content_here"]
noncomputable abbrev Jb:List Str:=["_law_records_here", "_law_parent", "_law_depth"]
noncomputable def as3:FI:=⟨t.f_zab,t.d_zab,Jb,14,R8 K t,[],[]⟩
noncomputable abbrev Rt:Stmt:=top 21
noncomputable abbrev a03:List Str:=["_law_records_here", "_law_name_here"]
noncomputable abbrev X9:List Str:=["_law_records_here", "_law_name_here"]
noncomputable def bk7:FI:=⟨t.f_zp,t.d_zp,X9,15,Pc K t,[],[]⟩
noncomputable abbrev Rv:Stmt:=top 23
noncomputable abbrev a05:List Str:=["_law_plain", "_law_name_here", "_law_told", "e"]
noncomputable abbrev Yb:List Str:=["_law_plain", "_law_name_here"]
noncomputable def bk9:FI:=⟨t.f_zr,t.d_zr,Yb,12,U5 K t,[],[]⟩
noncomputable abbrev Rw:Stmt:=top 22
noncomputable abbrev a06:List Str:=["_law_plain", "_law_name_here", "_law_many", "_law_refused", "_law_way", "e"]
noncomputable abbrev Yc:List Str:=["_law_plain", "_law_name_here", "_law_many"]
noncomputable def bl0:FI:=⟨t.f_zs,t.d_zs,Yc,11,U6 K t,[],[]⟩
noncomputable abbrev Kq:Stmt:=top 24
noncomputable abbrev Xs:List Str:=["_law_plain", "_law_records_here", "_law_name_here", "_law_four"]
noncomputable abbrev N9:List Str:=["_law_plain", "_law_records_here", "_law_name_here"]
noncomputable def at3:FI:=⟨t.f_zal,t.d_zal,N9,5,Si K t,[],[]⟩
noncomputable abbrev Kk:Stmt:=top 25
noncomputable abbrev Xm:List Str:=["_law_plain", "_law_records_here", "_law_stranger", "_law_name_here"]
noncomputable abbrev N3:List Str:=["_law_plain", "_law_records_here", "_law_stranger"]
noncomputable def as7:FI:=⟨t.f_zaf,t.d_zaf,N3,16,E8 K t,[],[]⟩
noncomputable abbrev Ec:Stmt:=top 26
noncomputable abbrev Xt:List Str:=["_law_script", "_law_records_here", "_law_stranger", "_law_plain", "_law_told", "_law_twin", "_law_name_here", "_law_gone", "_law_left", "_law_part", "_law_other", "_law_kind", "_law_parent", "_law_rank_here", "_law_content_here"]
noncomputable abbrev Oa:List Str:=["_law_script"]
noncomputable def D1:List MI:=[⟨t.c_zaq,a31 K t⟩]
noncomputable def Cv:List MI:=[⟨t.c_zaq,V5 K t⟩]
noncomputable def Ce:List MI:=[⟨t.c_zaq,Zj K t⟩]
noncomputable def Bu:List MI:=[⟨t.c_zaq,Qk K t⟩]
noncomputable def Gw:List MI:=[⟨t.c_zaq,aj6 K t⟩]
noncomputable def Hs:List MI:=[⟨t.c_zaq,V8 K t⟩]
noncomputable def Dm:List MI:=[⟨t.c_zaq,Zl K t⟩]
noncomputable def C8:List MI:=[⟨t.c_zaq,Ol K t⟩]
noncomputable def F9:List MI:=[⟨t.c_zaq,a32 K t⟩]
noncomputable def Gx:List MI:=[⟨t.c_zaq,aj5 K t⟩]
noncomputable def B0:List MI:=[⟨t.c_zaq,Om K t⟩]
noncomputable def C2:List MI:=[⟨t.c_zaq,aj4 K t⟩]
noncomputable def Br:List MI:=[⟨t.c_zaq,Qi K t⟩]
noncomputable def Cw:List MI:=[⟨t.c_zaq,V6 K t⟩]
noncomputable def Bt:List MI:=[⟨t.c_zaq,La K t⟩]
noncomputable def Bl:List MI:=[⟨t.c_zaq,Il K t⟩]
noncomputable def E7:List MI:=[⟨t.c_zaq,Zm K t⟩]
noncomputable def Iv:List MI:=[⟨t.c_zaq,aj7 K t⟩]
noncomputable def Bs:List MI:=[⟨t.c_zaq,Zk K t⟩]
noncomputable def Da (K:aa) (t:Adr):List (Str×GB):=[("LeafError", .exc t.c_zao none),("EditError", .val (.ref t.c_zan) (.ref t.c_zan)),("NoPart", .val (.ref t.c_zap) (.ref t.c_zap)),("Plain", .val (.ref t.c_zaq) (.ref t.c_zaq)),("TOP", .val (.str "") t.u_zar)]
noncomputable def Vx:List (Str×GB):=("", .met "has" (Hs K t))::("", .met "lay" (C8 K t))::("", .met "names" (B0 K t))::("", .met "same" (Bt K t))::("_law_cell", .fn (as6 K t))::("_law_name", .fn (as9 K t))::("_law_stream", .fn (bl2 K t))::("_law_rank", .fn (at0 K t))::("_law_under", .fn (as5 K t))::Da K t
noncomputable def K9:List (Str×GB):=("_law_text", .fn (at2 K t))::("EditError", .exc t.c_zan (some (Qj K t)))::("NoPart", .exc t.c_zap (some (Qj K t)))::("Plain", .cls t.c_zaq (some (V7 K t)))::Vx K t
noncomputable def Gp:List (Str×GB):=("", .met "copied" (Bu K t))::("", .met "need_place" (C2 K t))::("", .met "state" (Bl K t))::("_law_table", .fn (as4 K t))::K9 K t
noncomputable def Ik:List (Str×GB):=("", .met "content_of" (Ce K t))::("", .met "kind_of" (Dm K t))::("", .met "parent_of" (Br K t))::("", .met "rank_of" (Cw K t))::("_law_content", .fn (bk8 K t))::("_law_laid", .fn (as8 K t))::Gp K t
noncomputable def bk2:List (Str×GB):=("", .met "line_of" (F9 K t))::("", .met "place_key" (Bs K t))::("_law_records", .fn (bl1 K t))::("_law_ring", .fn (at1 K t))::("_law_one", .fn (at3 K t))::Ik K t
noncomputable def bk3:List (Str×GB):=bk2 K t
noncomputable def Vy:List (Str×GB):=("", .key "place_key" (Bs K t))::bk3 K t
noncomputable def ai8:List (Str×GB):=("", .met "all_unders" (D1 K t))::("", .met "under" (E7 K t))::Vy K t
noncomputable def Vz:List (Str×GB):=("", .met "walk" (Iv K t))::ai8 K t
noncomputable def Lx:List (Str×GB):=("", .met "beneath" (Cv K t))::("", .met "lines" (Gx K t))::Vz K t
noncomputable def Ty:List (Str×GB):=("", .met "drop" (Gw K t))::("_law_no_part", .fn (bl0 K t))::Lx K t
noncomputable def as0:List (Str×GB):=("_law_dropped", .fn (bk9 K t))::Ty K t
noncomputable def as1:List (Str×GB):=as0 K t
noncomputable def Tz:List (Str×GB):=("_law_lines", .fn (as3 K t))::as1 K t
noncomputable def Ua:List (Str×GB):=("_law_beneath", .fn (bk7 K t))::Tz K t
noncomputable def Zc:List (Str×GB):=("_law_good", .fn (as7 K t))::Ua K t
end
noncomputable def b60 (K:aa) (t:Adr):DS:=
 (Ag (A5 (dFn (fun vs H Q _=>(D4 K true) vs H Q) (Aa (dUn (Cl K "records") (Ab 0)) Af)))
 Ai)
theorem bs2 (K:aa) (t:Adr):wSs 40 (Bg K a00 (Ac Rp) (Da K t) bl) (Aj Rp)=b60 K t:=by kernel_rfl
theorem bu8:Al a00 X6 (Ac Rp):=⟨rfl,rfl,rfl,by decide +kernel,rfl,by decide +kernel,by decide +kernel⟩
theorem bz7:A2 a00 (Ac Rp)=true:=by decide +kernel
noncomputable def b53 (K:aa) (t:Adr):DS:=
 (Ag (Vq K "part" (Ab 0) (Ab 1))
 (Ag (Vq K "choice" (Ab 0) (Ab 2))
 Ai))
theorem br5 (K:aa) (t:Adr):wSs 40 (Bg K az1 (Ac Ia) (Da K t) bl) (Aj Ia)=b53 K t:=by kernel_rfl
theorem bu1:Al az1 Xz (Ac Ia):=⟨rfl,rfl,rfl,by decide +kernel,rfl,by decide +kernel,by decide +kernel⟩
theorem bz0:A2 az1 (Ac Ia)=true:=by decide +kernel
noncomputable def b61 (K:aa) (t:Adr):DS:=
 (Ag (dIf (A7 (Ae (O4 K true) (Ab 1) (dUn (Cl K "records") (Ab 0)))) (Ag (M1 K (dFn (fun vs H Q E=>vs.length<=1000/\mkX t.c_zap (some (Qj K t)) 0 vs H Q E) (Aa (Ab 1) Af)))
  Ai) Ai)
 (Ag (A5 (Ae (A6 K) (dUn (Cl K "records") (Ab 0)) (Ab 1)))
 Ai))
theorem bs3 (K:aa) (t:Adr):wSs 40 (Bg K a01 (Ac Rq) (K9 K t) bl) (Aj Rq)=b61 K t:=by kernel_rfl
theorem bu9:Al a01 X7 (Ac Rq):=⟨rfl,rfl,rfl,by decide +kernel,rfl,by decide +kernel,by decide +kernel⟩
theorem bz8:A2 a01 (Ac Rq)=true:=by decide +kernel
noncomputable def b51 (K:aa) (t:Adr):DS:=
 (Ag (A5 (Ae (A6 K) (An "state" 1 (Bl K t) (Ab 0) (Aa (Ab 1) Af)) (dC (.int 1))))
 Ai)
theorem br3 (K:aa) (t:Adr):wSs 40 (Bg K ay9 (Ac Rh) (Gp K t) bl) (Aj Rh)=b51 K t:=by kernel_rfl
theorem bt9:Al ay9 Xx (Ac Rh):=⟨rfl,rfl,rfl,by decide +kernel,rfl,by decide +kernel,by decide +kernel⟩
theorem by8:A2 ay9 (Ac Rh)=true:=by decide +kernel
noncomputable def b57 (K:aa) (t:Adr):DS:=
 (Ag (A5 (Ae (A6 K) (An "state" 1 (Bl K t) (Ab 0) (Aa (Ab 1) Af)) (dC (.int 2))))
 Ai)
theorem br9 (K:aa) (t:Adr):wSs 40 (Bg K az7 (Ac Rm) (Gp K t) bl) (Aj Rm)=b57 K t:=by kernel_rfl
theorem bu5:Al az7 X3 (Ac Rm):=⟨rfl,rfl,rfl,by decide +kernel,rfl,by decide +kernel,by decide +kernel⟩
theorem bz4:A2 az7 (Ac Rm)=true:=by decide +kernel
noncomputable def b52 (K:aa) (t:Adr):DS:=
 (Ag (A5 (Ij (Aa (An "rank_of" 1 (Cw K t) (Ab 0) (Aa (Ab 1) Af)) (Aa (Ab 1) Af))))
 Ai)
theorem br4 (K:aa) (t:Adr):wSs 40 (Bg K az0 (Ac Ri) (Ik K t) bl) (Aj Ri)=b52 K t:=by kernel_rfl
theorem bu0:Al az0 Xy (Ac Ri):=⟨rfl,rfl,rfl,by decide +kernel,rfl,by decide +kernel,by decide +kernel⟩
theorem by9:A2 az0 (Ac Ri)=true:=by decide +kernel
noncomputable def b50 (K:aa) (t:Adr):DS:=
 (Ag (dIf (Vp (A7 (Ae (Be K true) (Ab 1) (dC (.str "")))) (A7 (Ae (O4 K true) (Ab 1) (dUn (Cl K "records") (Ab 0))))) (Ag (M1 K (dFn (fun vs H Q E=>vs.length<=1000/\mkX t.c_zap (some (Qj K t)) 0 vs H Q E) (Aa (Ab 1) Af)))
  Ai) Ai)
 Ai)
theorem br2 (K:aa) (t:Adr):wSs 40 (Bg K ay8 (Ac Rg) (K9 K t) bl) (Aj Rg)=b50 K t:=by kernel_rfl
theorem bt8:Al ay8 Xw (Ac Rg):=⟨rfl,rfl,rfl,by decide +kernel,rfl,by decide +kernel,by decide +kernel⟩
theorem by7:A2 ay8 (Ac Rg)=true:=by decide +kernel
noncomputable def b62 (K:aa) (t:Adr):DS:=
 (Ag (A9 (An "need_place" 1 (C2 K t) (Ab 0) (Aa (Ab 1) Af)))
 (Ag (Ax 2 (Dx [none,some 1,some 0] (Di K (dUn (Cl K "records") (Ab 0))) (gdN 0) (A7 (Ae (Be K false) (An "parent_of" 1 (Br K t) (Ab 2) (Aa (Ab 0) Af)) (Ab 1))) (Ab 0)))
 (Ag (A5 (Tq K "place_key" (Bs K t) (Ab 2) (Ab 0)))
 Ai)))
theorem bs4 (K:aa) (t:Adr):wSs 40 (Bg K a02 (Ac Rr) (Vy K t) bl) (Aj Rr)=b62 K t:=by kernel_rfl
theorem bv0:Al a02 X8 (Ac Rr):=⟨rfl,rfl,rfl,by decide +kernel,rfl,by decide +kernel,by decide +kernel⟩
theorem bz9:A2 a02 (Ac Rr)=true:=by decide +kernel
noncomputable def b48 (K:aa) (t:Adr):DS:=
 (Ag (Ax 1 Ig)
 (Ag (Eo (Di K (Tq K "place_key" (Bs K t) (dUn (Cl K "records") (Ab 0)) (Ab 0))) (gdN 2) (Ag (A9 (dMt (rMt K [⟨"list", "list.append", C3⟩]) (dMt (rMt K [⟨"dict", "dict.setdefault", Kb⟩]) (Ab 1) (Aa (An "parent_of" 1 (Br K t) (Ab 0) (Aa (Ab 2) Af)) (Aa (C6 Af) Af))) (Aa (Ab 2) Af)))
  Ai))
 (Ag (A5 (Ab 1))
 Ai)))
theorem br0 (K:aa) (t:Adr):wSs 40 (Bg K ay6 (Ac Re) (Vy K t) bl) (Aj Re)=b48 K t:=by kernel_rfl
theorem bt6:Al ay6 Xu (Ac Re):=⟨rfl,rfl,rfl,by decide +kernel,rfl,by decide +kernel,by decide +kernel⟩
theorem by5:A2 ay6 (Ac Re)=true:=by decide +kernel
noncomputable def b71 (K:aa) (t:Adr):DS:=
 (Ag (Ax 2 (An "all_unders" 0 (D1 K t) (Ab 0) Af))
 (Ag (Ax 3 (C6 Af))
 (Ag (Ax 4 (Dx [none] (aj3 K (dMt (rMt K [⟨"dict", "dict.get", Me⟩]) (Ab 2) (Aa (Ab 1) (Aa (C6 Af) Af)))) (gdN 0) Hf (Ij (Aa (dC (.int 1)) (Aa (Ab 0) Af)))))
 (Ag (P4 (A7 (Ae (Be K true) (Ab 4) (C6 Af))) (Ag (Ax 5 (dMt (rMt K [⟨"list", "list.pop", ad6⟩,⟨"dict", "dict.pop", O3⟩]) (Ab 4) Af))
  (Ag (A9 (dMt (rMt K [⟨"list", "list.append", C3⟩]) (Ab 3) (Aa (Ab 5) Af)))
  (Ag (A9 (dMt (rMt K [⟨"list", "list.extend", G3⟩]) (Ab 4) (Aa (Dx [none,some 5] (aj3 K (dMt (rMt K [⟨"dict", "dict.get", Me⟩]) (Ab 2) (Aa (Ae (A6 K) (Ab 5) (dC (.int 1))) (Aa (C6 Af) Af)))) (gdN 0) Hf (Ij (Aa (Ae (A0 K) (Ae (A6 K) (Ab 1) (dC (.int 0))) (dC (.int 1))) (Aa (Ab 0) Af)))) Af)))
  Ai))))
 (Ag (A5 (Ab 3))
 Ai)))))
theorem bt3 (K:aa) (t:Adr):wSs 40 (Bg K a11 (Ac R1) (ai8 K t) bl) (Aj R1)=b71 K t:=by kernel_rfl
theorem bv9:Al a11 Yh (Ac R1):=⟨rfl,rfl,rfl,by decide +kernel,rfl,by decide +kernel,by decide +kernel⟩
theorem b08:A2 a11 (Ac R1)=true:=by decide +kernel
noncomputable def b54 (K:aa) (t:Adr):DS:=
 (Ag (A9 (An "need_place" 1 (C2 K t) (Ab 0) (Aa (Ab 1) Af)))
 (Ag (A5 (Dx [none,none] (Di K (An "walk" 1 (Iv K t) (Ab 0) (Aa (Ab 1) Af))) (gdT K 2 [(gdN 0),(gdN 1)]) Hf (Ab 1)))
 Ai))
theorem br6 (K:aa) (t:Adr):wSs 40 (Bg K az3 (Ac Rj) (Vz K t) bl) (Aj Rj)=b54 K t:=by kernel_rfl
theorem bu2:Al az3 X0 (Ac Rj):=⟨rfl,rfl,rfl,by decide +kernel,rfl,by decide +kernel,by decide +kernel⟩
theorem bz1:A2 az3 (Ac Rj)=true:=by decide +kernel
noncomputable def b55 (K:aa) (t:Adr):DS:=
 (Ag (A5 (Ae (A6 K) (An "state" 1 (Bl K t) (Ab 0) (Aa (Ab 1) Af)) (dC (.int 0))))
 Ai)
theorem br7 (K:aa) (t:Adr):wSs 40 (Bg K az4 (Ac Rk) (Gp K t) bl) (Aj Rk)=b55 K t:=by kernel_rfl
theorem bu3:Al az4 X1 (Ac Rk):=⟨rfl,rfl,rfl,by decide +kernel,rfl,by decide +kernel,by decide +kernel⟩
theorem bz2:A2 az4 (Ac Rk)=true:=by decide +kernel
noncomputable def b49 (K:aa) (t:Adr):DS:=
 (Ag (A5 (Ae (A6 K) (An "state" 1 (Bl K t) (Ab 0) (Aa (Ab 1) Af)) (dC (.int 3))))
 Ai)
theorem br1 (K:aa) (t:Adr):wSs 40 (Bg K ay7 (Ac Rf) (Gp K t) bl) (Aj Rf)=b49 K t:=by kernel_rfl
theorem bt7:Al ay7 Xv (Ac Rf):=⟨rfl,rfl,rfl,by decide +kernel,rfl,by decide +kernel,by decide +kernel⟩
theorem by6:A2 ay7 (Ac Rf)=true:=by decide +kernel
noncomputable def b56 (K:aa) (t:Adr):DS:=
 (Ag (A5 (Ij (Aa (Ab 1) (Aa (Ab 2) (Aa (An "kind_of" 1 (Dm K t) (Ab 0) (Aa (Ab 2) Af)) (Aa (An "rank_of" 1 (Cw K t) (Ab 0) (Aa (Ab 2) Af)) (Aa (An "content_of" 1 (Ce K t) (Ab 0) (Aa (Ab 2) Af)) Af)))))))
 Ai)
theorem br8 (K:aa) (t:Adr):wSs 40 (Bg K az5 (Ac Rl) (Ik K t) bl) (Aj Rl)=b56 K t:=by kernel_rfl
theorem bu4:Al az5 X2 (Ac Rl):=⟨rfl,rfl,rfl,by decide +kernel,rfl,by decide +kernel,by decide +kernel⟩
theorem bz3:A2 az5 (Ac Rl)=true:=by decide +kernel
noncomputable def b59 (K:aa) (t:Adr):DS:=
 (Ag (A5 (Dx [none,none,some 0] (Di K (An "walk" 1 (Iv K t) (Ab 0) (Aa (dC (.str "")) Af))) (gdT K 2 [(gdN 0),(gdN 1)]) Hf (An "line_of" 2 (F9 K t) (Ab 2) (Aa (Ab 0) (Aa (Ab 1) Af)))))
 Ai)
theorem bs1 (K:aa) (t:Adr):wSs 40 (Bg K az9 (Ac Ro) (Vz K t) bl) (Aj Ro)=b59 K t:=by kernel_rfl
theorem bu7:Al az9 X5 (Ac Ro):=⟨rfl,rfl,rfl,by decide +kernel,rfl,by decide +kernel,by decide +kernel⟩
theorem bz6:A2 az9 (Ac Ro)=true:=by decide +kernel
noncomputable def bx1 (K:aa) (t:Adr):DS:=
 (Ag (Hc (Ij (Aa (Ab 2) (Aa (Ab 3) (Aa (Ab 4) (Aa (Ab 5) Af))))) (Js K (dUn (Cl K "records") (Ab 0)) (Ab 1)))
 Ai)
theorem bc3 (K:aa) (t:Adr):wSs 40 (Bg K Xh (Ac Kf) (Da K t) bl) (Aj Kf)=bx1 K t:=by kernel_rfl
theorem bd7:Al Xh Nz (Ac Kf):=⟨rfl,rfl,rfl,by decide +kernel,rfl,by decide +kernel,by decide +kernel⟩
theorem bg7:A2 Xh (Ac Kf)=true:=by decide +kernel
noncomputable def b68 (K:aa) (t:Adr):DS:=
 (Ag (A9 (An "state" 1 (Bl K t) (Ab 0) (Aa (Ab 1) Af)))
 (Ag (Eo (Di K (Ae (A0 K) (C6 (Aa (Ab 1) Af)) (An "beneath" 1 (Cv K t) (Ab 0) (Aa (Ab 1) Af)))) (gdN 2) (Ag (A9 (dMt (rMt K [⟨"list", "list.pop", ad6⟩,⟨"dict", "dict.pop", O3⟩]) (dUn (Cl K "records") (Ab 0)) (Aa (Ab 2) Af)))
  Ai))
 Ai))
theorem bt0 (K:aa) (t:Adr):wSs 40 (Bg K a08 (Ac Ry) (Lx K t) bl) (Aj Ry)=b68 K t:=by kernel_rfl
theorem bv6:Al a08 Ye (Ac Ry):=⟨rfl,rfl,rfl,by decide +kernel,rfl,by decide +kernel,by decide +kernel⟩
theorem b05:A2 a08 (Ac Ry)=true:=by decide +kernel
noncomputable def b69 (K:aa) (t:Adr):DS:=
 (Ag (Vq K "records" (Ab 0) Ig)
 Ai)
theorem bt1 (K:aa) (t:Adr):wSs 40 (Bg K a09 (Ac Rz) (Da K t) bl) (Aj Rz)=b69 K t:=by kernel_rfl
theorem bv7:Al a09 Yf (Ac Rz):=⟨rfl,rfl,rfl,by decide +kernel,rfl,by decide +kernel,by decide +kernel⟩
theorem b06:A2 a09 (Ac Rz)=true:=by decide +kernel
noncomputable def b58 (K:aa) (t:Adr):DS:=
 (Ag (Ax 1 (dFn (mkC t.c_zaq (some (V7 K t)) 0) Af))
 (Ag (Vq K "records" (Ab 1) (dFn (fun vs H Q _=>Nl vs H Q) (Aa (dUn (Cl K "records") (Ab 0)) Af)))
 (Ag (A5 (Ab 1))
 Ai)))
theorem bs0 (K:aa) (t:Adr):wSs 40 (Bg K az8 (Ac Rn) (K9 K t) bl) (Aj Rn)=b58 K t:=by kernel_rfl
theorem bu6:Al az8 X4 (Ac Rn):=⟨rfl,rfl,rfl,by decide +kernel,rfl,by decide +kernel,by decide +kernel⟩
theorem bz5:A2 az8 (Ac Rn)=true:=by decide +kernel
noncomputable def b70 (K:aa) (t:Adr):DS:=
 (Ag (A5 (Ae (Be K false) (dUn (Cl K "records") (Ab 0)) (dUn (Cl K "records") (Ab 1))))
 Ai)
theorem bt2 (K:aa) (t:Adr):wSs 40 (Bg K a10 (Ac R0) (Da K t) bl) (Aj R0)=b70 K t:=by kernel_rfl
theorem bv8:Al a10 Yg (Ac R0):=⟨rfl,rfl,rfl,by decide +kernel,rfl,by decide +kernel,by decide +kernel⟩
theorem b07:A2 a10 (Ac R0)=true:=by decide +kernel
noncomputable def bx4 (K:aa) (t:Adr):DS:=
 (Ag (dIf (A7 (Ae bq4 (Ab 1) (dFn (fun vs H Q _=>(O5 K) vs H Q) (Aa (Ab 0) Af)))) (Ag (A5 (Ae (A6 K) (Ab 0) (Ab 1)))
  Ai) Ai)
 (Ag (A5 (Ae (Fu K) (Ae (A0 K) (Ab 1) (dC (.int 3))) (dC (.int 7919))))
 Ai))
theorem bc7 (K:aa) (t:Adr):wSs 40 (Bg K Xl (Ac Kj) (Da K t) bl) (Aj Kj)=bx4 K t:=by kernel_rfl
theorem be1:Al Xl N2 (Ac Kj):=⟨rfl,rfl,rfl,by decide +kernel,rfl,by decide +kernel,by decide +kernel⟩
theorem bh1:A2 Xl (Ac Kj)=true:=by decide +kernel
noncomputable def bx7 (K:aa) (t:Adr):DS:=
 (Ag (Ax 2 (C6 (Aa (dC (.str "chapter")) (Aa (dC (.str "put")) (Aa (dC (.str "para")) (Aa (dC (.str "table")) (Aa (dC (.str "top")) (Aa (dC (.str "cut")) (Aa (dC (.str "wrap")) (Aa (dC (.str "move")) (Aa (dC (.str "write")) (Aa (dC (.str "none")) (Aa (dC (.str "cell")) (Aa (dC (.str "0")) Af))))))))))))))
 (Ag (dIf (A7 (Ae (Be K false) (Ae Av (Ab 0) (dC (.int 5))) (dC (.int 4)))) (Ag (A5 (Ae (A6 K) (Ab 2) (Ae Av (Ae (A0 K) (Ab 1) (Ae Bc (Ab 0) (dC (.int 5)))) (dC (.int 12)))))
  Ai) Ai)
 (Ag (Ax 3 (dC (.str "abcdefghijklmnopqrstuvwxyz0123456789.")))
 (Ag (Ax 4 (dMt (rMt K [⟨"str", "str.join", ad2 K⟩]) (dC (.str "")) (Aa (Dx [none,some 0,some 3] (Qh (Aa (dC (.int 1)) (Aa (dC (.int 12)) Af))) (gdN 0) Hf (Ae (A6 K) (Ab 2) (Ae Av (Ae (A0 K) (Ae Bc (Ab 1) (dC (.int 37))) (Ae (Fu K) (Ae (Fu K) (dC (.int 7)) (Ab 0)) (Ab 0))) (dC (.int 37))))) Af)))
 (Ag (dIf (A7 (Ae (Be K false) (Ae Av (Ab 0) (dC (.int 5))) (dC (.int 3)))) (Ag (A5 (Ae (A0 K) (Ae (A6 K) (Ab 3) (Ae Av (Ae (A0 K) (Ae Bc (Ab 0) (dC (.int 5))) (Ae Bc (Ab 1) (dC (.int 12)))) (dC (.int 37)))) (dSl K (Ab 4) Cu (Df (Ae Av (Ab 1) (dC (.int 12)))))))
  Ai) Ai)
 (Ag (Ax 5 (Ae (A0 K) (dC (.int 1)) (Ae Av (Ae Bc (Ab 0) (dC (.int 5))) (dC (.int 12)))))
 (Ag (Ax 6 (Ae Av (Ae Bc (Ab 0) (dC (.int 60))) (Ab 5)))
 (Ag (Ax 7 (dSl K (Ae (A0 K) (Ae (A6 K) (Ab 3) (Ae Av (Ae Bc (Ab 0) (dC (.int 720))) (dC (.int 37)))) (Ab 4)) Cu (Df (Ab 5))))
 (Ag (A5 (Ae (A0 K) (Ae (A0 K) (dSl K (Ab 7) Cu (Df (Ab 6))) (Ae (A6 K) (Ab 3) (Ae Av (Ae (A0 K) (Ae Bc (Ab 0) (dC (.int 26640))) (Ab 1)) (dC (.int 37))))) (dSl K (Ab 7) (Df (Ae (A0 K) (Ab 6) (dC (.int 1)))) Cu)))
 Ai)))))))))
theorem bd0 (K:aa) (t:Adr):wSs 40 (Bg K Xo (Ac Km) (Da K t) bl) (Aj Km)=bx7 K t:=by kernel_rfl
theorem be4:Al Xo N5 (Ac Km):=⟨rfl,rfl,rfl,by decide +kernel,rfl,by decide +kernel,by decide +kernel⟩
theorem bh4:A2 Xo (Ac Km)=true:=by decide +kernel
noncomputable def b72 (K:aa) (t:Adr):DS:=
 (Ag (Ax 2 (C6 Af))
 (Ag (Ax 3 (Ae Bc (Ab 0) (dC (.int 2))))
 (Ag (Ax 4 (Ae (A0 K) (Ae Av (Ab 0) (dC (.int 2147483629))) (dC (.int 17))))
 (Ag (Eo (Qh (Aa (Ab 1) Af)) (gdN 5) (Ag (Ax 4 (Ae Av (Ae (A0 K) (Ae (A0 K) (Ae (Fu K) (Ab 4) (dC (.int 48271))) (Ae (Fu K) (dC (.int 7919)) (Ab 5))) (dC (.int 1))) (dC (.int 2147483647))))
  (Ag (dIf (Vp (A7 (Ae (Be K false) (Ae Av (Ab 0) (dC (.int 2))) (dC (.int 1)))) (Vp (A7 (Ae (Be K true) (Ab 3) (dC (.int 0)))) (A7 (Ae (Be K true) (Ab 3) (dUn Ut (dC (.int 1))))))) (Ag (A9 (dMt (rMt K [⟨"list", "list.append", C3⟩]) (Ab 2) (Aa (Ae Av (Ab 3) (dC (.int 268435456))) Af)))
   (Ag (Ax 3 (Ae Bc (Ab 3) (dC (.int 268435456))))
   Ai)) (Ag (A9 (dMt (rMt K [⟨"list", "list.append", C3⟩]) (Ab 2) (Aa (Ae Bc (Ae Av (Ae (A0 K) (Ae (Fu K) (Ae Av (Ae (Fu K) (Ab 4) (Ab 4)) (dC (.int 2147483629))) (dC (.int 16807))) (Ab 5)) (dC (.int 2147483587))) (dC (.int 8))) Af)))
   Ai))
  Ai)))
 (Ag (A5 (Ab 2))
 Ai)))))
theorem bt4 (K:aa) (t:Adr):wSs 40 (Bg K a12 (Ac R3) (Da K t) bl) (Aj R3)=b72 K t:=by kernel_rfl
theorem bw0:Al a12 Yi (Ac R3):=⟨rfl,rfl,rfl,by decide +kernel,rfl,by decide +kernel,by decide +kernel⟩
theorem b09:A2 a12 (Ac R3)=true:=by decide +kernel
noncomputable def by0 (K:aa) (t:Adr):DS:=
 (Ag (Ax 1 (Ae (A0 K) (dC (.str " !#$&'()*+,-./0123456789:;<=>?@ABCDEFGHIJKLMNOPQRSTUVWXYZ[\\]^_`abcdefghijklmnopqrstuvwxyz{|}~")) (dC (.str "\""))))
 (Ag (Ax 2 (dFn (spE (Mh K t) []) (Aa (Ab 0) (Aa (dC (.int 4)) Af))))
 (Ag (Ax 3 (Ae (A6 K) (C6 (Aa (dC (.int 0)) (Aa (Ae Av (Ae (A6 K) (Ab 2) (dC (.int 1))) (dC (.int 4))) (Aa (Ae Av (Ae (A6 K) (Ab 2) (dC (.int 1))) (dC (.int 12))) (Aa (Ae Av (Ae (A6 K) (Ab 2) (dC (.int 1))) (dC (.int 61))) Af))))) (Ae Av (Ae (A6 K) (Ab 2) (dC (.int 0))) (dC (.int 4)))))
 (Ag (Ax 4 (dC (.str "")))
 (Ag (Eo (Di K (dFn (spE (Mh K t) []) (Aa (Ae (A0 K) (Ab 0) (dC (.int 1))) (Aa (Ab 3) Af)))) (gdN 5) (Ag (dIf (A7 (Ae (Be K false) (Ae Av (Ae (A6 K) (Ab 2) (dC (.int 2))) (dC (.int 2))) (dC (.int 0)))) (Ag (Ax 4 (Ae (A0 K) (Ab 4) (Ae (A6 K) (dC (.str "|/\\a ")) (Ae Av (Ab 5) (dC (.int 5))))))
   Ai) (Ag (Ax 4 (Ae (A0 K) (Ab 4) (Ae (A6 K) (Ab 1) (Ae Av (Ab 5) (dC (.int 94))))))
   Ai))
  Ai))
 (Ag (A5 (Ab 4))
 Ai))))))
theorem bd3 (K:aa) (t:Adr):wSs 40 (Bg K Xr (Ac Kp) (Vx K t) bl) (Aj Kp)=by0 K t:=by kernel_rfl
theorem be7:Al Xr N8 (Ac Kp):=⟨rfl,rfl,rfl,by decide +kernel,rfl,by decide +kernel,by decide +kernel⟩
theorem bh7:A2 Xr (Ac Kp)=true:=by decide +kernel
noncomputable def bx2 (K:aa) (t:Adr):DS:=
 (Ag (Ax 1 (dFn (spE (Mh K t) []) (Aa (Ab 0) (Aa (dC (.int 3)) Af))))
 (Ag (Ax 2 (Ae (A6 K) (C6 (Aa (Ae (A0 K) (dC (.int 1)) (Ae Av (Ae Bc (Ae (A6 K) (Ab 1) (dC (.int 0))) (dC (.int 3))) (dC (.int 3)))) (Aa (Ae (A0 K) (dC (.int 1)) (Ae Av (Ae Bc (Ae (A6 K) (Ab 1) (dC (.int 0))) (dC (.int 3))) (dC (.int 6)))) (Aa (dC (.int 6)) Af)))) (Ae Av (Ae (A6 K) (Ab 1) (dC (.int 0))) (dC (.int 3)))))
 (Ag (Ax 3 (Ae (A6 K) (C6 (Aa (Ae (A0 K) (dC (.int 1)) (Ae Av (Ae Bc (Ae (A6 K) (Ab 1) (dC (.int 1))) (dC (.int 3))) (dC (.int 3)))) (Aa (Ae (A0 K) (dC (.int 1)) (Ae Av (Ae Bc (Ae (A6 K) (Ab 1) (dC (.int 1))) (dC (.int 3))) (dC (.int 6)))) (Aa (dC (.int 6)) Af)))) (Ae Av (Ae (A6 K) (Ab 1) (dC (.int 1))) (dC (.int 3)))))
 (Ag (Ax 4 (C6 Af))
 (Ag (Eo (Qh (Aa (Ab 2) Af)) (gdN 5) (Ag (A9 (dMt (rMt K [⟨"list", "list.append", C3⟩]) (Ab 4) (Aa (dFn (fun vs H Q _=>(Kc K) vs H Q) (Aa (Dx [none,some 0,some 5] (Qh (Aa (Ab 3) Af)) (gdN 0) Hf (dFn (spE (Nt K t) []) (Aa (Ae (A0 K) (Ae (A0 K) (Ae (A0 K) (Ab 1) (Ae (Fu K) (dC (.int 101)) (Ab 2))) (Ae (Fu K) (dC (.int 1009)) (Ab 0))) (dC (.int 7))) Af))) Af)) Af)))
  Ai))
 (Ag (A5 (dFn (fun vs H Q _=>(Kc K) vs H Q) (Aa (Ab 4) Af)))
 Ai))))))
theorem bc5 (K:aa) (t:Adr):wSs 40 (Bg K Xj (Ac Kh) (K9 K t) bl) (Aj Kh)=bx2 K t:=by kernel_rfl
theorem bd9:Al Xj N0 (Ac Kh):=⟨rfl,rfl,rfl,by decide +kernel,rfl,by decide +kernel,by decide +kernel⟩
theorem bg9:A2 Xj (Ac Kh)=true:=by decide +kernel
noncomputable def b64 (K:aa) (t:Adr):DS:=
 (Ag (dIf (A7 (Ae (Be K false) (Ab 0) (dC (.str "table")))) (Ag (A5 (dFn (spE (Sc K t) []) (Aa (Ab 1) Af)))
  Ai) Ai)
 (Ag (A5 (dFn (spE (Nt K t) []) (Aa (Ab 1) Af)))
 Ai))
theorem bs6 (K:aa) (t:Adr):wSs 40 (Bg K a04 (Ac Ru) (Gp K t) bl) (Aj Ru)=b64 K t:=by kernel_rfl
theorem bv2:Al a04 Ya (Ac Ru):=⟨rfl,rfl,rfl,by decide +kernel,rfl,by decide +kernel,by decide +kernel⟩
theorem b01:A2 a04 (Ac Ru)=true:=by decide +kernel
noncomputable def bx8 (K:aa) (t:Adr):DS:=
 (Ag (A5 (Ae (A6 K) (C6 (Aa (dC (.int 0)) (Aa (Ae Av (Ae Bc (Ab 0) (dC (.int 4))) (dC (.int 3))) (Aa (Ae Av (Ae Bc (Ab 0) (dC (.int 4))) (dC (.int 3))) (Aa (Ae Av (Ae Bc (Ab 0) (dC (.int 4))) (Ae (A0 K) (Ae Mf (dC (.int 10)) (dC (.int 9))) (dC (.int 1)))) Af))))) (Ae Av (Ab 0) (dC (.int 4)))))
 Ai)
theorem bd1 (K:aa) (t:Adr):wSs 40 (Bg K Xp (Ac Kn) (Da K t) bl) (Aj Kn)=bx8 K t:=by kernel_rfl
theorem be5:Al Xp N6 (Ac Kn):=⟨rfl,rfl,rfl,by decide +kernel,rfl,by decide +kernel,by decide +kernel⟩
theorem bh5:A2 Xp (Ac Kn)=true:=by decide +kernel
noncomputable def b67 (K:aa) (t:Adr):DS:=
 (Ag (Ax 1 Ig)
 (Ag (Ax 2 (C6 (Aa (dC (.str "")) Af)))
 (Ag (Eo (iEn K (Aa (dSl K (Ab 0) (Df (dC (.int 5))) (Df (dC (.int 15)))) Af)) (gdT K 2 [(gdN 3),(gdN 4)]) (Ag (Ax 5 (dFn (spE (Mh K t) []) (Aa (Ab 4) (Aa (dC (.int 4)) Af))))
  (Ag (Ax 6 (dFn (spE (Kx K t) []) (Aa (dFn (spE (Cz K t) []) (Aa (Ab 0) (Aa (dC (.int 0)) Af))) (Aa (Ab 3) Af))))
  (Ag (Ax 7 (Ae (A6 K) (C6 (Aa (dC (.str "chapter")) (Aa (dC (.str "chapter")) (Aa (dC (.str "para")) (Aa (dC (.str "table")) Af))))) (Ae Av (Ae (A6 K) (Ab 5) (dC (.int 0))) (dC (.int 4)))))
  (Ag (Hc (Ij (Aa (Ab 7) (Aa (Ae (A6 K) (Ab 2) (Ae Av (Ae (A6 K) (Ab 5) (dC (.int 1))) (dFn (fun vs H Q _=>(O5 K) vs H Q) (Aa (Ab 2) Af)))) (Aa (dFn (spE (Se K t) []) (Aa (Ae (A6 K) (Ab 5) (dC (.int 2))) Af)) (Aa (dFn (spE (ae9 K t) []) (Aa (Ab 7) (Aa (Ae (A0 K) (Ae (A6 K) (Ab 5) (dC (.int 3))) (Ab 3)) Af))) Af))))) (Js K (Ab 1) (Ab 6)))
  (Ag (dIf (A7 (Ae (Be K false) (Ab 7) (dC (.str "chapter")))) (Ag (A9 (dMt (rMt K [⟨"list", "list.append", C3⟩]) (Ab 2) (Aa (Ab 6) Af)))
   Ai) Ai)
  Ai))))))
 (Ag (A5 (Ab 1))
 Ai))))
theorem bs9 (K:aa) (t:Adr):wSs 40 (Bg K a07 (Ac Rx) (Ik K t) bl) (Aj Rx)=b67 K t:=by kernel_rfl
theorem bv5:Al a07 Yd (Ac Rx):=⟨rfl,rfl,rfl,by decide +kernel,rfl,by decide +kernel,by decide +kernel⟩
theorem b04:A2 a07 (Ac Rx)=true:=by decide +kernel
noncomputable def bx6 (K:aa) (t:Adr):DS:=
 (Ag (Ax 2 (dFn (mkC t.c_zaq (some (V7 K t)) 0) Af))
 (Ag (Ax 3 (dFn (fun vs H Q _=>(ad3 K true) vs H Q) (Aa (Ab 1) Af)))
 (Ag (Ax 4 (Ae Av (dFn (spE (Cz K t) []) (Aa (Ab 0) (Aa (dC (.int 1)) Af))) (dFn (fun vs H Q _=>ao4 vs H Q) (Aa (dC (.int 1)) (Aa (dFn (fun vs H Q _=>(O5 K) vs H Q) (Aa (Ab 3) Af)) Af)))))
 (Ag (Ax 5 (Ae (A0 K) (dSl K (Ab 3) (Df (Ab 4)) Cu) (dSl K (Ab 3) Cu (Df (Ab 4)))))
 (Ag (dIf (A7 (Ae (Be K false) (Ae Av (dFn (spE (Cz K t) []) (Aa (Ab 0) (Aa (dC (.int 2)) Af))) (dC (.int 2))) (dC (.int 1)))) (Ag (Ax 5 (dUn (Ka K) (Ab 5)))
  Ai) Ai)
 (Ag (Eo (Di K (dSl K (Ab 5) Cu (Df (Ae Av (Ae Bc (dFn (spE (Cz K t) []) (Aa (Ab 0) (Aa (dC (.int 2)) Af))) (dC (.int 2))) (dC (.int 4)))))) (gdN 6) (Ag (A9 (An "lay" 5 (C8 K t) (Ab 2) (Aa (Ab 6) (Aa (dC (.str "para")) (Aa (dC (.str "")) (Aa (Ae Mf (dC (.int 10)) (dC (.int 9))) (Aa (dC (.str "first")) Af)))))))
  Ai))
 (Ag (Ax 7 (dFn (fun vs H Q _=>(D4 K true) vs H Q) (Aa (dSl K (Ab 5) Cu (Df (Ae Av (Ae Bc (dFn (spE (Cz K t) []) (Aa (Ab 0) (Aa (dC (.int 2)) Af))) (dC (.int 2))) (dC (.int 4))))) Af)))
 (Ag (Eo (Di K (Ab 5)) (gdN 6) (Ag (Hc (Ae (A6 K) (Ab 1) (Ab 6)) (gdT K 4 [(gdN 8),(gdN 9),(gdN 10),(gdN 11)]))
  (Ag (A9 (An "lay" 5 (C8 K t) (Ab 2) (Aa (Ab 6) (Aa (Ab 8) (Aa (Ab 9) (Aa (Ab 10) (Aa (Ab 11) Af)))))))
  (Ag (Ax 7 (dUn (G4 K) (Ae (A0 K) (Ab 7) (C6 (Aa (Ab 6) Af)))))
  (Ag (dIf (dOr (A7 (Ae (Be K true) (An "names" 0 (B0 K t) (Ab 2) Af) (Ab 7))) (dOr (A7 (Ae (Be K true) (An "state" 1 (Bl K t) (Ab 2) (Aa (Ab 6) Af)) (Ae (A6 K) (Ab 1) (Ab 6)))) (A7 (Ae (Ds true) (An "same" 1 (Bt K t) (An "copied" 0 (Bu K t) (Ab 2) Af) (Aa (Ab 2) Af)) (dC (.bl true)))))) (Ag (A5 (dC .non))
   Ai) Ai)
  Ai)))))
 (Ag (A5 (Ab 2))
 Ai)))))))))
theorem bc9 (K:aa) (t:Adr):wSs 40 (Bg K Xn (Ac Kl) (Gp K t) bl) (Aj Kl)=bx6 K t:=by kernel_rfl
theorem be3:Al Xn N4 (Ac Kl):=⟨rfl,rfl,rfl,by decide +kernel,rfl,by decide +kernel,by decide +kernel⟩
theorem bh3:A2 Xn (Ac Kl)=true:=by decide +kernel
noncomputable def b73 (K:aa) (t:Adr):DS:=
 (Ag (A5 (Ae (O4 K false) (Ab 1) (dUn (Cl K "records") (Ab 0))))
 Ai)
theorem bt5 (K:aa) (t:Adr):wSs 40 (Bg K a13 (Ac R5) (Da K t) bl) (Aj R5)=b73 K t:=by kernel_rfl
theorem bw1:Al a13 Yj (Ac R5):=⟨rfl,rfl,rfl,by decide +kernel,rfl,by decide +kernel,by decide +kernel⟩
theorem b10:A2 a13 (Ac R5)=true:=by decide +kernel
noncomputable def bx9 (K:aa) (t:Adr):DS:=
 (Ag (Ax 2 (dFn (mkC t.c_zaq (some (V7 K t)) 0) Af))
 (Ag (A9 (An "lay" 5 (C8 K t) (Ab 2) (Aa (Ab 0) (Aa (dC (.str "chapter")) (Aa (Ab 1) (Aa (dC (.int 0)) (Aa (dC (.str "")) Af)))))))
 (Ag (A9 (An "lay" 5 (C8 K t) (Ab 2) (Aa (Ab 1) (Aa (dC (.str "chapter")) (Aa (Ab 0) (Aa (dC (.int 1)) (Aa (dC (.str "b")) Af)))))))
 (Ag (Ax 3 (An "copied" 0 (Bu K t) (Ab 2) Af))
 (Ag (dIf (dOr (A7 (Ae (Ds true) (An "same" 1 (Bt K t) (Ab 3) (Aa (Ab 2) Af)) (dC (.bl true)))) (dOr (A7 (Ae (Be K true) (An "names" 0 (B0 K t) (Ab 3) Af) (dFn (fun vs H Q _=>(D4 K true) vs H Q) (Aa (C6 (Aa (Ab 0) (Aa (Ab 1) Af))) Af)))) (A7 (Ae (Be K true) (An "parent_of" 1 (Br K t) (Ab 3) (Aa (Ab 0) Af)) (Ab 1))))) (Ag (A5 (dC (.bl false)))
  Ai) Ai)
 (Ag (A9 (An "lay" 5 (C8 K t) (Ab 3) (Aa (Ab 0) (Aa (dC (.str "chapter")) (Aa (dC (.str "")) (Aa (dC (.int 0)) (Aa (dC (.str "")) Af)))))))
 (Ag (A5 (D6 K (Ae (Ds false) (An "same" 1 (Bt K t) (Ab 3) (Aa (Ab 2) Af)) (dC (.bl false))) (D6 K (Ae (Be K false) (An "state" 1 (Bl K t) (Ab 2) (Aa (Ab 0) Af)) (Ij (Aa (dC (.str "chapter")) (Aa (Ab 1) (Aa (dC (.int 0)) (Aa (dC (.str "")) Af)))))) (Ae (Ds false) (An "has" 1 (Hs K t) (Ab 2) (Aa (Ab 1) Af)) (dC (.bl true))))))
 Ai)))))))
theorem bd2 (K:aa) (t:Adr):wSs 40 (Bg K Xq (Ac Ko) (Ik K t) bl) (Aj Ko)=bx9 K t:=by kernel_rfl
theorem be6:Al Xq N7 (Ac Ko):=⟨rfl,rfl,rfl,by decide +kernel,rfl,by decide +kernel,by decide +kernel⟩
theorem bh6:A2 Xq (Ac Ko)=true:=by decide +kernel
noncomputable def bx3 (K:aa) (t:Adr):DS:=
 (Ag (A5 (Dx [none] (Di K (dFn (fun vs H Q _=>(D4 K true) vs H Q) (Aa (Dx [none,some 1,some 0] (Di K (Ab 0)) (gdN 0) (A7 (Ae (Be K false) (Ae (A6 K) (Ae (A6 K) (Ab 2) (Ab 0)) (dC (.int 1))) (Ab 1))) (Ij (Aa (Ae (A6 K) (Ae (A6 K) (Ab 2) (Ab 0)) (dC (.int 2))) (Aa (Ab 0) Af)))) Af))) (gdN 0) Hf (Ae (A6 K) (Ab 0) (dC (.int 1)))))
 Ai)
theorem bc6 (K:aa) (t:Adr):wSs 40 (Bg K Xk (Ac Ki) (Da K t) bl) (Aj Ki)=bx3 K t:=by kernel_rfl
theorem be0:Al Xk N1 (Ac Ki):=⟨rfl,rfl,rfl,by decide +kernel,rfl,by decide +kernel,by decide +kernel⟩
theorem bh0:A2 Xk (Ac Ki)=true:=by decide +kernel
noncomputable def ax6 (K:aa) (t:Adr) (n:Nat):DS:=
 (Ag (Ax 3 (C6 Af))
 (Ag (Eo (Di K (dFn (spE (Nr K t) []) (Aa (Ab 0) (Aa (Ab 1) Af)))) (gdN 4) (Ag (Hc (Ae (A6 K) (Ab 0) (Ab 4)) (gdT K 4 [(gdN 5),(gdN 6),(gdN 7),(gdN 8)]))
  (Ag (A9 (dMt (rMt K [⟨"list", "list.append", C3⟩]) (Ab 3) (Aa (Ij (Aa (Ab 2) (Aa (Ab 4) (Aa (Ab 5) (Aa (Ab 7) (Aa (Ab 8) Af)))))) Af)))
  (Ag (A9 (dMt (rMt K [⟨"list", "list.extend", G3⟩]) (Ab 3) (Aa (dFn (spE (G5 K t n) []) (Aa (Ab 0) (Aa (Ab 4) (Aa (Ae (A0 K) (Ab 2) (dC (.int 1))) Af)))) Af)))
  Ai))))
 (Ag (A5 (Ab 3))
 Ai)))
theorem bc4 (K:aa) (t:Adr) (n:Nat):wSs 40 (Bg K Xi (Ac Kg) (("_law_lines", .fn ⟨t.f_zab,t.d_zab,Jb,1+n+1,G5 K t n,[],[]⟩)::Vx K t) bl) (Aj Kg)=ax6 K t n:=by kernel_rfl
theorem bd8:Al Xi Jb (Ac Kg):=⟨rfl,rfl,rfl,by decide +kernel,rfl,by decide +kernel,by decide +kernel⟩
theorem bg8:A2 Xi (Ac Kg)=true:=by decide +kernel
noncomputable def b63 (K:aa) (t:Adr):DS:=
 (Ag (A5 (Dx [none] (Di K (dFn (spE (R8 K t) []) (Aa (Ab 0) (Aa (Ab 1) (Aa (dC (.int 1)) Af))))) (gdN 0) Hf (Ae (A6 K) (Ab 0) (dC (.int 1)))))
 Ai)
theorem bs5 (K:aa) (t:Adr):wSs 40 (Bg K a03 (Ac Rt) (Tz K t) bl) (Aj Rt)=b63 K t:=by kernel_rfl
theorem bv1:Al a03 X9 (Ac Rt):=⟨rfl,rfl,rfl,by decide +kernel,rfl,by decide +kernel,by decide +kernel⟩
theorem b00:A2 a03 (Ac Rt)=true:=by decide +kernel
noncomputable def b65 (K:aa) (t:Adr):DS:=
 (Ag (Ax 2 (dC (.bl false)))
 (Ag (ai0 K (Ag (A9 (An "drop" 1 (Gw K t) (Ab 0) (Aa (Ab 1) Af)))
  Ai) [(t.c_zap,.as 3,(Ag (Ax 2 (Ae (Be K false) (dUn (Cl K "part") (Ab 3)) (Ab 1)))
  Ai))])
 (Ag (A5 (Ab 2))
 Ai)))
theorem bs7 (K:aa) (t:Adr):wSs 40 (Bg K a05 (Ac Rv) (Ty K t) bl) (Aj Rv)=b65 K t:=by kernel_rfl
theorem bv3:Al a05 Yb (Ac Rv):=⟨rfl,rfl,rfl,by decide +kernel,rfl,by decide +kernel,by decide +kernel⟩
theorem b02:A2 a05 (Ac Rv)=true:=by decide +kernel
noncomputable def b66 (K:aa) (t:Adr):DS:=
 (Ag (Ax 3 (dC (.int 0)))
 (Ag (Eo (Qh (Aa (Ab 2) Af)) (gdN 4) (Ag (ai0 K (Ag (dIf (A7 (Ae (Be K false) (Ab 4) (dC (.int 0)))) (Ag (A9 (An "state" 1 (Bl K t) (Ab 0) (Aa (Ab 1) Af)))
    Ai) (Ag (dIf (A7 (Ae (Be K false) (Ab 4) (dC (.int 1)))) (Ag (A9 (An "kind_of" 1 (Dm K t) (Ab 0) (Aa (Ab 1) Af)))
     Ai) (Ag (dIf (A7 (Ae (Be K false) (Ab 4) (dC (.int 2)))) (Ag (A9 (An "parent_of" 1 (Br K t) (Ab 0) (Aa (Ab 1) Af)))
      Ai) (Ag (dIf (A7 (Ae (Be K false) (Ab 4) (dC (.int 3)))) (Ag (A9 (An "rank_of" 1 (Cw K t) (Ab 0) (Aa (Ab 1) Af)))
       Ai) (Ag (dIf (A7 (Ae (Be K false) (Ab 4) (dC (.int 4)))) (Ag (A9 (An "content_of" 1 (Ce K t) (Ab 0) (Aa (Ab 1) Af)))
        Ai) (Ag (dIf (A7 (Ae (Be K false) (Ab 4) (dC (.int 5)))) (Ag (A9 (An "under" 1 (E7 K t) (Ab 0) (Aa (Ab 1) Af)))
         Ai) (Ag (A9 (An "beneath" 1 (Cv K t) (Ab 0) (Aa (Ab 1) Af)))
         Ai))
        Ai))
       Ai))
      Ai))
     Ai))
    Ai))
   Ai) [(t.c_zap,.as 5,(Ag (Ax 3 (Ae (A0 K) (Ab 3) (dFn (fun vs H Q _=>ad0 vs H Q) (Aa (D6 K (dFn (fun vs H Q _=>(Ww K) vs H Q) (Aa (Ab 5) (Aa (dC (.ref t.c_zan)) Af))) (D6 K (Ae (Be K false) (dUn (Cl K "part") (Ab 5)) (Ab 1)) (Ae (Ds false) (dUn (Cl K "choice") (Ab 5)) (dC .non)))) Af))))
   Ai))])
  Ai))
 (Ag (A5 (Ae (Be K false) (Ab 3) (Ab 2)))
 Ai)))
theorem bs8 (K:aa) (t:Adr):wSs 40 (Bg K a06 (Ac Rw) (Lx K t) bl) (Aj Rw)=b66 K t:=by kernel_rfl
theorem bv4:Al a06 Yc (Ac Rw):=⟨rfl,rfl,rfl,by decide +kernel,rfl,by decide +kernel,by decide +kernel⟩
theorem b03:A2 a06 (Ac Rw)=true:=by decide +kernel
noncomputable def by1 (K:aa) (t:Adr):DS:=
 (Ag (dIf (dOr (A7 (Ae (Ds true) (An "has" 1 (Hs K t) (Ab 0) (Aa (Ab 2) Af)) (dC (.bl true)))) (dOr (A7 (Ae (Be K true) (An "state" 1 (Bl K t) (Ab 0) (Aa (Ab 2) Af)) (Ae (A6 K) (Ab 1) (Ab 2)))) (Hd (He K (dFn (fun vs H Q _=>(Ww K) vs H Q) (Aa (An "state" 1 (Bl K t) (Ab 0) (Aa (Ab 2) Af)) (Aa (dC (.ty "tuple")) Af))))))) (Ag (A5 (dC (.bl false)))
  Ai) Ai)
 (Ag (Ax 3 (Ij (Aa (An "kind_of" 1 (Dm K t) (Ab 0) (Aa (Ab 2) Af)) (Aa (An "parent_of" 1 (Br K t) (Ab 0) (Aa (Ab 2) Af)) (Aa (An "rank_of" 1 (Cw K t) (Ab 0) (Aa (Ab 2) Af)) (Aa (An "content_of" 1 (Ce K t) (Ab 0) (Aa (Ab 2) Af)) Af))))))
 (Ag (A5 (Ae (Be K false) (Ab 3) (Ae (A6 K) (Ab 1) (Ab 2))))
 Ai)))
theorem bd4 (K:aa) (t:Adr):wSs 40 (Bg K Xs (Ac Kq) (Ik K t) bl) (Aj Kq)=by1 K t:=by kernel_rfl
theorem be8:Al Xs N9 (Ac Kq):=⟨rfl,rfl,rfl,by decide +kernel,rfl,by decide +kernel,by decide +kernel⟩
theorem bh8:A2 Xs (Ac Kq)=true:=by decide +kernel
noncomputable def bx5 (K:aa) (t:Adr):DS:=
 (Ag (dIf (dOr (A7 (Ae (Be K true) (An "lines" 0 (Gx K t) (Ab 0) Af) (dFn (spE (R8 K t) []) (Aa (Ab 1) (Aa (dC (.str "")) (Aa (dC (.int 1)) Af)))))) (A7 (Ae (Be K true) (An "names" 0 (B0 K t) (Ab 0) Af) (dFn (fun vs H Q _=>(D4 K true) vs H Q) (Aa (Ab 1) Af))))) (Ag (A5 (dC (.bl false)))
  Ai) Ai)
 (Ag (Eo (Di K (Ae (A0 K) (C6 (Aa (dC (.str "")) Af)) (dFn (fun vs H Q _=>(D4 K true) vs H Q) (Aa (Ab 1) Af)))) (gdN 3) (Ag (dIf (dOr (A7 (Ae (Be K true) (An "under" 1 (E7 K t) (Ab 0) (Aa (Ab 3) Af)) (dFn (spE (Nr K t) []) (Aa (Ab 1) (Aa (Ab 3) Af))))) (A7 (Ae (Be K true) (An "beneath" 1 (Cv K t) (Ab 0) (Aa (Ab 3) Af)) (dFn (spE (Pc K t) []) (Aa (Ab 1) (Aa (Ab 3) Af)))))) (Ag (A5 (dC (.bl false)))
   Ai) Ai)
  (Ag (dIf (Vp (A7 (Ae (Be K true) (Ab 3) (dC (.str "")))) (Hd (He K (dFn (spE (Si K t) []) (Aa (Ab 0) (Aa (Ab 1) (Aa (Ab 3) Af))))))) (Ag (A5 (dC (.bl false)))
   Ai) Ai)
  Ai)))
 (Ag (dIf (dOr (A7 (Ae (Ds true) (An "has" 1 (Hs K t) (Ab 0) (Aa (dC (.str "")) Af)) (dC (.bl false)))) (dOr (Hd (He K (dFn (spE (U6 K t) []) (Aa (Ab 0) (Aa (dC (.str "")) (Aa (dC (.int 5)) Af)))))) (Hd (He K (dFn (spE (U5 K t) []) (Aa (Ab 0) (Aa (dC (.str "")) Af))))))) (Ag (A5 (dC (.bl false)))
  Ai) Ai)
 (Ag (A5 (D6 K (Ae (Ds false) (An "has" 1 (Hs K t) (Ab 0) (Aa (Ab 2) Af)) (dC (.bl false))) (dFn (spE (U6 K t) []) (Aa (Ab 0) (Aa (Ab 2) (Aa (dC (.int 7)) Af))))))
 Ai))))
theorem bc8 (K:aa) (t:Adr):wSs 40 (Bg K Xm (Ac Kk) (Ua K t) bl) (Aj Kk)=bx5 K t:=by kernel_rfl
theorem be2:Al Xm N3 (Ac Kk):=⟨rfl,rfl,rfl,by decide +kernel,rfl,by decide +kernel,by decide +kernel⟩
theorem bh2:A2 Xm (Ac Kk)=true:=by decide +kernel
noncomputable def by2 (K:aa) (t:Adr):DS:=
 (Ag (Ax 1 (dFn (spE (af0 K t) []) (Aa (Ab 0) Af)))
 (Ag (Ax 2 (dFn (spE (Kx K t) []) (Aa (dFn (spE (Cz K t) []) (Aa (Ab 0) (Aa (dC (.int 0)) Af))) (Aa (dC (.int 11)) Af))))
 (Ag (dIf (Hd (He K (dFn (spE (Sh K t) []) (Aa (dFn (spE (Kx K t) []) (Aa (dFn (spE (Cz K t) []) (Aa (Ab 0) (Aa (dC (.int 0)) Af))) (Aa (dC (.int 0)) Af))) (Aa (Ab 2) Af))))) (Ag (A5 (dC (.bl false)))
  Ai) Ai)
 (Ag (Ax 3 (dFn (spE (Sd K t) []) (Aa (Ab 0) (Aa (Ab 1) Af))))
 (Ag (dIf (dOr (A7 (Ae (Ds false) (Ab 3) (dC .non))) (Hd (He K (dFn (spE (E8 K t) []) (Aa (Ab 3) (Aa (Ab 1) (Aa (Ab 2) Af))))))) (Ag (A5 (dC (.bl false)))
  Ai) Ai)
 (Ag (Eo (Di K (C6 (Aa (An "lines" 0 (Gx K t) (Ab 3) Af) (Aa (An "names" 0 (B0 K t) (Ab 3) Af) (Aa (An "under" 1 (E7 K t) (Ab 3) (Aa (dC (.str "")) Af)) (Aa (An "beneath" 1 (Cv K t) (Ab 3) (Aa (dC (.str "")) Af)) Af)))))) (gdN 4) (Ag (A9 (dMt (rMt K [⟨"list", "list.clear", Q5⟩,⟨"dict", "dict.clear", Iz⟩]) (Ab 4) Af))
  Ai))
 (Ag (Ax 5 (An "copied" 0 (Bu K t) (Ab 3) Af))
 (Ag (dIf (dOr (A7 (Ae (Ds true) (An "same" 1 (Bt K t) (Ab 5) (Aa (Ab 3) Af)) (dC (.bl true)))) (Hd (He K (dFn (spE (U5 K t) []) (Aa (Ab 3) (Aa (Ab 2) Af)))))) (Ag (A5 (dC (.bl false)))
  Ai) Ai)
 (Ag (dIf (A7 (Ae (Be K false) (Ab 1) Ig)) (Ag (A5 (dFn (spE (E8 K t) []) (Aa (Ab 3) (Aa (Ab 1) (Aa (Ab 2) Af)))))
  Ai) Ai)
 (Ag (Ax 6 (Ae (A6 K) (dFn (fun vs H Q _=>(D4 K true) vs H Q) (Aa (Ab 1) Af)) (Ae Av (dFn (spE (Cz K t) []) (Aa (Ab 0) (Aa (dC (.int 3)) Af))) (dFn (fun vs H Q _=>(O5 K) vs H Q) (Aa (Ab 1) Af)))))
 (Ag (A9 (An "drop" 1 (Gw K t) (Ab 5) (Aa (Ab 6) Af)))
 (Ag (Ax 7 (Ae (A0 K) (C6 (Aa (Ab 6) Af)) (dFn (spE (Pc K t) []) (Aa (Ab 1) (Aa (Ab 6) Af)))))
 (Ag (Ax 8 Ig)
 (Ag (Eo (Di K (Ab 1)) (gdN 9) (Ag (dIf (A7 (Ae (O4 K true) (Ab 9) (Ab 7))) (Ag (Hc (Ae (A6 K) (Ab 1) (Ab 9)) (Js K (Ab 8) (Ab 9)))
   Ai) Ai)
  Ai))
 (Ag (dIf (dOr (Hd (He K (dFn (spE (E8 K t) []) (Aa (Ab 5) (Aa (Ab 8) (Aa (Ab 6) Af)))))) (Hd (He K (dFn (spE (E8 K t) []) (Aa (Ab 3) (Aa (Ab 1) (Aa (Ab 2) Af))))))) (Ag (A5 (dC (.bl false)))
  Ai) Ai)
 (Ag (dIf (dOr (A7 (Ae (Ds true) (An "same" 1 (Bt K t) (Ab 5) (Aa (Ab 3) Af)) (dC (.bl false)))) (A7 (Ae (Ds true) (An "same" 1 (Bt K t) (Ab 3) (Aa (Ab 5) Af)) (dC (.bl false))))) (Ag (A5 (dC (.bl false)))
  Ai) Ai)
 (Ag (Ax 10 (An "copied" 0 (Bu K t) (Ab 3) Af))
 (Ag (Hc (Ae (A6 K) (Ab 1) (Ab 6)) (gdT K 4 [(gdN 11),(gdN 12),(gdN 13),(gdN 14)]))
 (Ag (A9 (An "lay" 5 (C8 K t) (Ab 10) (Aa (Ab 6) (Aa (Ab 11) (Aa (Ab 12) (Aa (Ae Av (Ae (A0 K) (Ab 13) (dC (.int 1))) (Ae (A0 K) (Ae Mf (dC (.int 10)) (dC (.int 9))) (dC (.int 1)))) (Aa (Ab 14) Af)))))))
 (Ag (A5 (D6 K (Ae (Ds false) (An "same" 1 (Bt K t) (Ab 10) (Aa (Ab 3) Af)) (dC (.bl false))) (D6 K (Ae (Be K false) (An "names" 0 (B0 K t) (Ab 10) Af) (An "names" 0 (B0 K t) (Ab 3) Af)) (Ae (Ds false) (An "same" 1 (Bt K t) (An "copied" 0 (Bu K t) (Ab 3) Af) (Aa (Ab 3) Af)) (dC (.bl true))))))
 Ai))))))))))))))))))))
theorem bd5 (K:aa) (t:Adr):wSs 40 (Bg K Xt (Ac Ec) (Zc K t) bl) (Aj Ec)=by2 K t:=by kernel_rfl
theorem be9:Al Xt Oa (Ac Ec):=⟨rfl,rfl,rfl,by decide +kernel,rfl,by decide +kernel,by decide +kernel⟩
theorem bh9:A2 Xt (Ac Ec)=true:=by decide +kernel
end K23
set_option maxHeartbeats 400000
namespace K23
open PySem L2
theorem Bk {z y:Str} {r:Rc} {S:Rs} (e:y=z):get ((y,r)::S) z=some r:=by unfold get;simp [c5,e]
theorem Bd {z y:Str} {r:Rc} {S:Rs} (e:y≠z):get ((y,r)::S) z=get S z:=by unfold get;simp [c5,e]
theorem Fh (z:Str):∀ S:Rs,(S.any fun p=>decide (p.1=z))=has S z
 | []=>rfl
 | (y,r)::S=>by
  unfold has
  rw [gJ]
  by_cases e:y=z
  ·rw [Bk e,decide_eq_true e];rfl
  ·rw [Bd e,decide_eq_false e,Bool.false_or];exact Fh z S
theorem mem_keys {z:Str}:∀ {S:Rs},z∈keys S ↔ has S z=true
 | []=>by simp [keys,has,get]
 | (y,r)::S=>by
  unfold has
  show z∈y::keys S ↔ _
  by_cases e:y=z
  ·rw [Bk e];simp [e]
  ·rw [Bd e,aF,mem_keys]
   exact⟨fun h=>h.resolve_left (bO e),.inr⟩
theorem Bz {S:Rs} {z:Str} (h:has S z=true):get S z=some (Ao S z):=by
 unfold has at h
 unfold Ao
 cases e:get S z with
 | none=>rw [e] at h;cases h
 | some r=>rfl
theorem B1 {S:Rs} {z:Str} {r:Rc} (h:get S z=some r):has S z=true:=by unfold has;rw [h];rfl
theorem Hz {S:Rs} {z:Str} {r:Rc} (h:get S z=some r):Ao S z=r:=by unfold Ao;rw [h];rfl
theorem Z7 {S:Rs} {z:Str} (h:has S z=false):get S z=none:=by
 unfold has at h
 cases e:get S z with
 | none=>rfl
 | some r=>rw [e] at h;cases h
theorem ab {α:Prop} {S:Rs} {z:Str} (h:has S z=true) (g:has S z=false):α:=by rw [h] at g;cases g
section
variable {K:aa} {t:Adr} {H H' H2:Hp} {p d:Addr} {S S':Rs} {kvs:List (Key×V)} {r:Rc} {x:V}
theorem But.of (S:Same H H'):But d H H':=fun b o _ e=>S b o e
theorem But.trans (h:But d H H') (g:But d H' H2):But d H H2:=fun b o n e=>g b o n (h b o n e)
theorem But.upd {o:HO}:But d H (upd H d o):=fun b o n e=>by rw [Ah n];exact e
mutual
theorem Tg (T:TKeep K H H'):∀ {d:Dt} {x:V},noL d=true->At K H d x->At K H' d x
 | .at_ v,x,_,h=>by unfold At at h ⊢;exact h
 | .lst l,x,n,_=>by unfold noL at n;cases n
 | .tup l,x,n,h=>by
  unfold noL at n
  unfold At at h ⊢
  obtain⟨a,xs,e,q,g⟩:=h
  exact⟨a,xs,e,T _ _ q,Fx T n g⟩
theorem Fx (T:TKeep K H H'):∀ {ds:List Dt} {xs:List V},Dc ds=true->AtL K H ds xs->AtL K H' ds xs
 | [],xs,_,h=>by unfold AtL at h ⊢;exact h
 | d::ds,xs,n,h=>by
  unfold Dc at n
  rw [aw] at n
  unfold AtL at h ⊢
  obtain⟨y,ys,e,h1,h2⟩:=h
  exact⟨y,ys,e,Tg T n.1 h1,Fx T n.2 h2⟩
end
theorem RcAt.keep (T:TKeep K H H') (h:RcAt K H r x):RcAt K H' r x:=by
 obtain⟨q,y,e,h1,h2,h3⟩:=h
 exact⟨q,y,e,T _ _ h1,Tg T h3.1 h2,h3⟩
theorem RcAt.at (h:RcAt K H r x):At K H (rcD r) x:=by
 obtain⟨q,y,rfl,h1,h2,h3⟩:=h
 exact Je h1 (Au Bw (Au Bw (Au (Fb rfl) (Au h2 Bp))))
theorem KvAt.keep (T:TKeep K H H'):∀ {S:Rs} {kvs:List (Key×V)},KvAt K H S kvs->KvAt K H' S kvs
 | [],_,h=>h
 | (z,r)::S,kvs,h=>by
  obtain⟨q,rest,e,h1,h2⟩:=h
  exact⟨q,rest,e,h1.keep T,h2.keep T⟩
theorem KvAt.val:∀ {S:Rs} {kvs:List (Key×V)},KvAt K H S kvs -> ∀ z,match get S z with
  | none=>Bb kvs (.inr z)=none
  | some r=>∃ x,Bb kvs (.inr z)=some x/\RcAt K H r x
 | [],kvs,h,z=>by rw [show kvs=[] from h];exact Pj
 | (y,r)::S,kvs,h,z=>by
  obtain⟨q,rest,rfl,h1,h2⟩:=h
  by_cases e:y=z
  ·rw [Bk e,Bn (by rw [e])]
   exact⟨q,rfl,h1⟩
  ·rw [Bd e,Bi (fun c=>e (gw c))]
   exact h2.val z
theorem KvAt.some (h:KvAt K H S kvs) {z:Str} (g:get S z=be r):∃ x,Bb kvs (.inr z)=be x/\RcAt K H r x:=by
 have:=h.val z
 rw [g] at this
 exact this
theorem KvAt.isSome (h:KvAt K H S kvs) (z:Str):(Bb kvs (.inr z)).isSome=has S z:=by
 have:=h.val z
 unfold has
 split at this
 ·rename_i e;rw [this,e];rfl
 ·rename_i r e;obtain⟨q,e2,_⟩:=this;rw [e2,e];rfl
theorem KvAt.keys:∀ {S:Rs} {kvs:List (Key×V)},KvAt K H S kvs->kvs.map (·.1)=(keys S).map eJ
 | [],kvs,h=>by rw [show kvs=[] from h];rfl
 | (y,r)::S,kvs,h=>by
  obtain⟨q,rest,rfl,_,h2⟩:=h
  show _::_=_::_
  rw [h2.keys]
  rfl
theorem KvAt.len (h:KvAt K H S kvs):kvs.length=S.length:=by
 have:=congrArg gr h.keys
 unfold K23.keys at this
 simpa using this
theorem KvAt.trees:∀ {S:Rs} {kvs:List (Key×V)},KvAt K H S kvs->AtL K H (rsD S) (kvs.map (·.2))/\Bv (rsD S)<=6
 | [],kvs,h=>by rw [show kvs=[] from h];exact⟨Bp,by unfold rsD Bv;exact bo _⟩
 | (y,r)::S,kvs,h=>by
  obtain⟨q,rest,rfl,h1,h2⟩:=h
  have ih:=h2.trees
  refine⟨Au h1.at ih.1,?_⟩
  obtain⟨_,_,_,_,_,_,c⟩:=h1
  show Bv (rcD r::rsD S)<=6
  unfold Bv
  refine Nat.max_le.mpr ⟨?_,ih.2⟩
  unfold rcD dep
  refine ge ?_
  simp only [Bv,A1,Lb,dep,gC,bo,true_and,and_true]
  exact c
theorem KvAt.app:∀ {S S':Rs} {kvs kvs':List (Key×V)},KvAt K H S kvs->KvAt K H S' kvs'->KvAt K H (S++S') (kvs++kvs')
 | [],_,kvs,_,h,g=>by rw [show kvs=[] from h];exact g
 | (y,r)::S,_,kvs,_,h,g=>by
  obtain⟨q,rest,rfl,h1,h2⟩:=h
  exact⟨q,_,rfl,h1,h2.app g⟩
theorem KvAt.map {z:Str} {r:Rc} {v:V} (hp:RcAt K H r v):∀ {S:Rs} {kvs:List (Key×V)},KvAt K H S kvs->KvAt K H (S.map fun p=>if p.1=z then (p.1,r) else p) (kvs.map fun kv=>if kv.1=.inr z then (kv.1,v) else kv)
 | [],kvs,h=>by rw [show kvs=[] from h];rfl
 | (y,s)::S,kvs,h=>by
  obtain⟨q,rest,rfl,h1,h2⟩:=h
  by_cases e:y=z
  ·subst e
   rw [aP,aP,if_pos rfl,if_pos rfl]
   exact⟨v,_,rfl,hp,h2.map hp⟩
  ·rw [aP,aP,if_neg e,if_neg (fun c=>e (gw c))]
   exact⟨q,_,rfl,h1,h2.map hp⟩
theorem KvAt.put (h:KvAt K H S kvs) {z:Str} {v:V} (hp:RcAt K H r v):KvAt K H (Cy S z r) (Dp kvs (.inr z) v):=by
 unfold Cy Dp
 rw [Fh,E9,h.isSome]
 by_cases e:has S z=true
 ·rw [if_pos e,if_pos e];exact h.map hp
 ·rw [if_neg e,if_neg e];exact h.app ⟨v,[],rfl,hp,rfl⟩
theorem KvAt.filter {f:Str->Bool} {g:Key->Bool} (fg:∀ z,g (.inr z)=f z):∀ {S:Rs} {kvs:List (Key×V)},KvAt K H S kvs->KvAt K H (S.filter fun p=>f p.1) (kvs.filter fun kv=>g kv.1)
 | [],kvs,h=>by rw [show kvs=[] from h];rfl
 | (y,s)::S,kvs,h=>by
  obtain⟨q,rest,rfl,h1,h2⟩:=h
  have ih:=h2.filter fg
  cases e:f y with
  | true=>rw [cC (by exact e),cC (by show g (.inr y)=true;rw [fg];exact e)];exact⟨q,_,rfl,h1,ih⟩
  | false=>rw [cB (by show ¬ f y=true;rw [e];exact ak),cB (by show ¬ g (.inr y)=true;rw [fg,e];exact ak)];exact ih
theorem But.tk (b:But d H H') (e:H d=be (.dK kvs)):TKeep K H H':=fun a xs q=>by
 rcases q with (q|⟨o,q⟩)|q
 ·exact .inl (.inl (b _ _ (fun z=>by rw [z,e] at q;cases q) q))
 ·exact .inl (.inr ⟨o,b _ _ (fun z=>by rw [z,e] at q;cases q) q⟩)
 ·exact .inr q
theorem Rd.up {o:HO} (h:Rd H d o) (T:Same H H'):Rd H' d o:=by
 rcases h with h|⟨u,h⟩
 ·exact .inl (T _ _ h)
 ·exact .inr ⟨u,T _ _ h⟩
theorem RsAt.up (h:RsAt K H d S) (T:Same H H'):RsAt K H' d S:=by
 obtain⟨kvs,e,g⟩:=h
 exact⟨kvs,T _ _ e,g.keep (TKeep.of T)⟩
theorem RsAt.rd (h:RsAt K H d S):RdAt K H d S:=by
 obtain⟨kvs,e,g⟩:=h
 exact⟨kvs,.inl e,g⟩
theorem RdAt.up (h:RdAt K H d S) (T:Same H H'):RdAt K H' d S:=by
 obtain⟨kvs,e,g⟩:=h
 exact⟨kvs,Rd.up e T,g.keep (TKeep.of T)⟩
theorem PlAt.up (h:PlAt K t H p d S) (T:Same H H'):PlAt K t H' p d S:=by
 obtain⟨⟨dx,e⟩,g⟩:=h
 exact⟨⟨dx,T _ _ e⟩,g.up T⟩
theorem PwAt.up (h:PwAt K t H p d S) (T:Same H H'):PwAt K t H' p d S:=by
 obtain⟨⟨dx,e⟩,g⟩:=h
 exact⟨⟨dx,T _ _ e⟩,g.up T⟩
theorem PwAt.rd (h:PwAt K t H p d S):PlAt K t H p d S:=⟨h.1,h.2.rd⟩
theorem Sm.of (T:Same H H'):Sm H H':=fun b o e=>.inl (T b o e)
theorem Sm.refl:Sm H H:=fun _ _ e=>.inl e
theorem Sm.trans (h:Sm H H') (g:Sm H' H2):Sm H H2:=fun b o e=>by
 rcases h b o e with e1|⟨kvs,u,rfl,e1⟩
 ·exact g b o e1
 ·rcases g _ _ e1 with e2|⟨_,_,c,_⟩
  ·exact .inr ⟨kvs,u,rfl,e2⟩
  ·cases c
theorem Sm.lst (h:Sm H H') {l:Addr} {ys:List V} (e:H l=some (.lst ys)):H' l=some (.lst ys):=by
 rcases h _ _ e with e|⟨_,_,c,_⟩
 ·exact e
 ·cases c
theorem Sm.free (h:Sm H H') {l:Addr} (e:H' l=none):H l=none:=by
 cases c:H l with
 | none=>rfl
 | some o=>
  rcases h _ _ c with c|⟨_,_,_,c⟩
  ·rw [c] at e;cases e
  ·rw [c] at e;cases e
theorem Sm.tk (h:Sm H H'):TKeep K H H':=fun a xs q=>by
 rcases q with (q|⟨o,q⟩)|q
 ·rcases h _ _ q with q|⟨_,_,c,_⟩
  ·exact .inl (.inl q)
  ·cases c
 ·rcases h _ _ q with q|⟨_,_,c,_⟩
  ·exact .inl (.inr ⟨o,q⟩)
  ·cases c
 ·exact .inr q
theorem Sm.frz {kvs:List (Key×V)} {u:Obj} (e:H d=some (.dK kvs)):Sm H (upd H d (.frz u (.dK kvs))):=fun b o h=>by
 by_cases c:b=d
 ·subst c
  rw [e] at h
  cases h
  exact .inr ⟨kvs,u,rfl,Ad⟩
 ·exact .inl (by rw [Ah c];exact h)
theorem Sm.set (h:Sm H H') {a:Addr} {o:HO} (n:H a=none):Sm H (L2.upd H' a o):=fun b u e=>by
 have ne:b≠a:=fun c=>by rw [c,n] at e;cases e
 rw [Ah ne]
 exact h b u e
theorem RdAt.sm (h:RdAt K H d S) (T:Sm H H'):RdAt K H' d S:=by
 obtain⟨kvs,e,g⟩:=h
 refine⟨kvs,?_,g.keep T.tk⟩
 rcases e with e|⟨u,e⟩
 ·rcases T _ _ e with e|⟨kvs',u,c,e⟩
  ·exact .inl e
  ·cases c;exact .inr ⟨u,e⟩
 ·rcases T _ _ e with e|⟨_,_,c,_⟩
  ·exact .inr ⟨u,e⟩
  ·cases c
theorem PlAt.sm (h:PlAt K t H p d S) (T:Sm H H'):PlAt K t H' p d S:=by
 obtain⟨⟨dx,e⟩,g⟩:=h
 refine⟨⟨dx,?_⟩,g.sm T⟩
 rcases T _ _ e with e|⟨_,_,c,_⟩
 ·exact e
 ·cases c
theorem Bad.call {z:Str} {E:XK} (B:Bad t H z E):Bad t H z fun v _ H'=>∃ a,v=.ref a/\E (.ref a) none H':=fun H' a S f=>⟨a,rfl,B H' a S f⟩
theorem Qd (g:KvAt K H S kvs) (e:Rd H d (.dK kvs)) {z:Str} (er:get S z=some r):∃ x,Er H d (.str z) (some x)/\RcAt K H r x:=by
 obtain⟨x,eq,hx⟩:=g.some er
 exact⟨x,.inl ⟨kvs,.inr z,e,rfl,eq.symm⟩,hx⟩
theorem Uv (Z:Aw K t) {z:Str} {E:XK} {EE:EK} (B:Bad t H z E):mkX t.c_zap (some (Qj K t)) 0 [.str z] H (Q7 K fun a H'=>E (.ref a) none H') EE:=by
 intro a ha
 exact⟨H,a,t.c_zap,.str z,.non,rfl,ha,rfl,Z.ec,Z.n1,Z.n2,fun H' dx S ne e1 e2=>⟨rfl,t.c_zap,some dx,e1,Z.ec,B _ a (S.set ha) ⟨dx,ne,Ad,by rw [Ah ne];exact e2⟩⟩⟩
end
section
variable {P:aK} {w:bt} {K:aa} {mg:Str->Option Value} {base:Heap} {t:Adr}
theorem au2 {f:Addr} {fd:aH} (Z:Aw K t) (F:FunD K "__init__" "EditError.__init__" Ia f fd t.dv_zf) (T:Tab P w K mg base 0 (Da K t) bl):FnOk P w K mg base CX0 1 f fd Xz (av8 K t):=by
 refine F.okW0 bu1 bz0 T (br5 K t) (fun vs H Q E h=>?_) (fun vs H Q E h=>?_)
 ·obtain⟨H0,a,C,x,y,rfl,_⟩:=h;rfl
 ·obtain⟨H0,a,C,x,y,rfl,ha,rfl,c,n1,n2,k⟩:=h
  refine .inr ⟨C,c,n1,.inl ⟨Ad,fun dx hdx ne=>.inr ⟨C,c,n2,.inr ⟨dx,[("part", x)],ne,Ad,by rw [Ah ne,Ad],(show 1<1000 by decide),?_⟩⟩⟩⟩
  have hd:H0 dx=none:=by rw [Ah ne] at hdx;exact hdx
  refine k _ dx (fun b o h=>?_) ne (by rw [Ah (bO ne),Ad]) Ad
  have b1:b≠dx:=fun z=>by rw [z,hd] at h;cases h
  have b2:b≠a:=fun z=>by rw [z,ha] at h;cases h
  rw [Ah b1,Ah b2,Ah b1,Ah b2]
  exact h
theorem bn9 {f:Addr} {fd:aH} (Z:Aw K t) (F:FunD K "__init__" "Plain.__init__" Rz f fd .none) (T:Tab P w K mg base 0 (Da K t) bl):FnOk P w K mg base CX0 1 f fd Yf (aw9 K t):=by
 refine F.okW0 bv7 b06 T (bt1 K t) (fun vs H Q E h=>?_) (fun vs H Q E h=>?_)
 ·obtain⟨a,dx,rfl,_⟩:=h;rfl
 ·obtain⟨a,dx,rfl,e,k⟩:=h
  intro d hd
  have ne:a≠d:=fun z=>by rw [z,hd] at e;cases e
  exact .inl (.inl ⟨t.c_zaq,dx,[],by rw [Ah ne];exact e,Z.pl,Z.plr,by decide,k d hd⟩)
theorem bo3 {f:Addr} {fd:aH} (Z:Aw K t) (F:FunD K "has" "Plain.has" R5 f fd .none) (T:Tab P w K mg base 0 (Da K t) bl):FnOk P w K mg base CX0 1 f fd Yj (ax2 K t):=by
 refine F.okW0 bw1 b10 T (bt5 K t) (fun vs H Q E h=>?_) (fun vs H Q E h=>?_)
 ·obtain⟨p,d,S,z,rfl,_⟩:=h;rfl
 ·obtain⟨p,d,S,z,rfl,⟨⟨dx,e⟩,kvs,ed,g⟩,k⟩:=h
  refine kX ⟨_,_,_,.ref d,e,Z.pl,Z.plr,rfl,.inr ⟨_,.inl ⟨kvs,.inr z,ed,rfl,rfl⟩,?_⟩⟩
  show Q (.bl (Bb kvs (.inr z)).isSome) H
  rw [g.isSome]
  exact k
theorem bn1 {f:Addr} {fd:aH} (Z:Aw K t) (F:FunD K "state" "Plain.state" Rq f fd .none) (T:Tab P w K mg base 2 (K9 K t) bl):FnOk P w K mg base (CXE P w) 3 f fd X7 (aw6 K t):=by
 refine F.okWX bu9 bz8 T (bs3 K t) (fun vs H Q E h=>?_) (fun vs H Q E h=>?_)
 ·obtain⟨p,d,S,z,rfl,_⟩:=h;rfl
 ·obtain⟨p,d,S,z,rfl,⟨⟨dx,e⟩,kvs,ed,g⟩,k1,k2⟩:=h
  refine kX ⟨_,_,_,.ref d,e,Z.pl,Z.plr,rfl,.inr ⟨_,.inl ⟨kvs,.inr z,ed,rfl,rfl⟩,?_⟩⟩
  show if (!(Bb kvs (.inr z)).isSome)=true then _ else _
  rw [g.isSome]
  cases c:has S z with
  | false=>exact⟨(show 1<=1000 by decide),Uv Z (k2 c)⟩
  | true=>
   obtain⟨x,dg,hx⟩:=Qd g ed (Bz c)
   exact kX ⟨_,_,_,.ref d,e,Z.pl,Z.plr,rfl,⟨_,dg,k1 _ (Bz c) x hx⟩⟩
theorem bm5 {f:Addr} {fd:aH} (Z:Aw K t) (F:FunD K "kind_of" "Plain.kind_of" Rk f fd .none) (T:Tab P w K mg base 3 (Gp K t) bl):FnOk P w K mg base (CXE P w) 4 f fd X1 (aw0 K t):=by
 refine F.okWX bu3 bz2 T (br7 K t) (fun vs H Q E h=>?_) (fun vs H Q E h=>?_)
 ·obtain⟨p,d,S,z,rfl,_⟩:=h;rfl
 ·obtain⟨p,d,S,z,rfl,hP,k1,k2⟩:=h
  obtain⟨dx,e⟩:=hP.1
  exact⟨p,dx,_,⟨t.c_zaq,Il K t⟩,rfl,.head _,e,rfl,⟨ae _,ae _⟩,⟨p,d,S,z,rfl,hP,(fun r hr x ⟨q,y,ex,h1,h2,h3⟩=>ex▸⟨_,_,.inr h1,rfl,k1 r hr y h2 h3⟩),fun c=>(k2 c).call⟩⟩
theorem bm3 {f:Addr} {fd:aH} (Z:Aw K t) (F:FunD K "parent_of" "Plain.parent_of" Rh f fd .none) (T:Tab P w K mg base 3 (Gp K t) bl):FnOk P w K mg base (CXE P w) 4 f fd Xx (av6 K t):=by
 refine F.okWX bt9 by8 T (br3 K t) (fun vs H Q E h=>?_) (fun vs H Q E h=>?_)
 ·obtain⟨p,d,S,z,rfl,_⟩:=h;rfl
 ·obtain⟨p,d,S,z,rfl,hP,k1,k2⟩:=h
  obtain⟨dx,e⟩:=hP.1
  exact⟨p,dx,_,⟨t.c_zaq,Il K t⟩,rfl,.head _,e,rfl,⟨ae _,ae _⟩,⟨p,d,S,z,rfl,hP,(fun r hr x ⟨q,y,ex,h1,h2,h3⟩=>ex▸⟨_,_,.inr h1,rfl,k1 r hr y h2 h3⟩),fun c=>(k2 c).call⟩⟩
theorem bm7 {f:Addr} {fd:aH} (Z:Aw K t) (F:FunD K "rank_of" "Plain.rank_of" Rm f fd .none) (T:Tab P w K mg base 3 (Gp K t) bl):FnOk P w K mg base (CXE P w) 4 f fd X3 (aw2 K t):=by
 refine F.okWX bu5 bz4 T (br9 K t) (fun vs H Q E h=>?_) (fun vs H Q E h=>?_)
 ·obtain⟨p,d,S,z,rfl,_⟩:=h;rfl
 ·obtain⟨p,d,S,z,rfl,hP,k1,k2⟩:=h
  obtain⟨dx,e⟩:=hP.1
  exact⟨p,dx,_,⟨t.c_zaq,Il K t⟩,rfl,.head _,e,rfl,⟨ae _,ae _⟩,⟨p,d,S,z,rfl,hP,(fun r hr x ⟨q,y,ex,h1,h2,h3⟩=>ex▸⟨_,_,.inr h1,rfl,k1 r hr y h2 h3⟩),fun c=>(k2 c).call⟩⟩
theorem bm1 {f:Addr} {fd:aH} (Z:Aw K t) (F:FunD K "content_of" "Plain.content_of" Rf f fd .none) (T:Tab P w K mg base 3 (Gp K t) bl):FnOk P w K mg base (CXE P w) 4 f fd Xv (av4 K t):=by
 refine F.okWX bt7 by6 T (br1 K t) (fun vs H Q E h=>?_) (fun vs H Q E h=>?_)
 ·obtain⟨p,d,S,z,rfl,_⟩:=h;rfl
 ·obtain⟨p,d,S,z,rfl,hP,k1,k2⟩:=h
  obtain⟨dx,e⟩:=hP.1
  exact⟨p,dx,_,⟨t.c_zaq,Il K t⟩,rfl,.head _,e,rfl,⟨ae _,ae _⟩,⟨p,d,S,z,rfl,hP,(fun r hr x ⟨q,y,ex,h1,h2,h3⟩=>ex▸⟨_,_,.inr h1,rfl,k1 r hr y h2 h3⟩),fun c=>(k2 c).call⟩⟩
theorem bn0 {f:Addr} {fd:aH} (Z:Aw K t) (F:FunD K "names" "Plain.names" Rp f fd .none) (T:Tab P w K mg base 0 (Da K t) bl):FnOk P w K mg base CX0 1 f fd X6 (aw5 K t):=by
 refine F.okW0 bu8 bz7 T (bs2 K t) (fun vs H Q E h=>?_) (fun vs H Q E h=>?_)
 ·obtain⟨p,d,S,rfl,_⟩:=h;rfl
 ·obtain⟨p,d,S,rfl,⟨⟨dx,e⟩,kvs,ed,g⟩,nd,few,k⟩:=h
  have l:(keys S).length<=20:=by unfold keys;rw [ag];exact few
  exact kX ⟨_,_,_,.ref d,e,Z.pl,Z.plr,rfl,.inr ⟨rfl,d,keys S,rfl,.inr ⟨kvs,ed,g.keys⟩,nd,by omega,k⟩⟩
theorem a46 {f:Addr} {fd:aH} (Z:Aw K t) (F:FunD K "lay" "Plain.lay" Kf f fd .none) (T:Tab P w K mg base 0 (Da K t) bl):FnOk P w K mg base CX0 1 f fd Nz (ae8 K t):=by
 refine F.okW0 bd7 bg7 T (bc3 K t) (fun vs H Q E h=>?_) (fun vs H Q E h=>?_)
 ·obtain⟨p,d,S,z,r,y,rfl,_⟩:=h;rfl
 ·obtain⟨p,d,S,z,r,y,rfl,⟨⟨dx,e⟩,kvs,ed,g⟩,hl,hy,hc,k⟩:=h
  refine⟨(show 4<=sizeLine by decide),fun q hq=>?_⟩
  have n1:p≠q:=fun z=>by rw [z,hq] at e;cases e
  have n2:d≠q:=fun z=>by rw [z,hq] at ed;cases ed
  refine kX ⟨_,_,_,.ref d,(by rw [Ah n1];exact e),Z.pl,Z.plr,rfl,⟨_,DPut.k (k:=.inr z) (by rw [Ah n2];exact ed) (by rw [g.len];exact i5 hl (by decide)),?_⟩⟩
  have ed2:upd H q (.tup [.str r.kd,.str r.pr,.int r.rk,y]) d=some (.dK kvs):=by rw [Ah n2];exact ed
  have B:But d (upd H q (.tup [.str r.kd,.str r.pr,.int r.rk,y])) (upd (upd H q (.tup [.str r.kd,.str r.pr,.int r.rk,y])) d (.dK (Dp kvs (.inr z) (.ref q)))):=But.upd
  have S1:Same H (upd H q (.tup [.str r.kd,.str r.pr,.int r.rk,y])):=Same.upd hq
  exact k _ ((But.of S1).trans B) ⟨_,Ad,(KvAt.put (g.keep (TKeep.of S1)) ⟨q,y,rfl,SqT.of Ad,Lk S1 hy,hc⟩).keep (B.tk ed2)⟩
theorem bm2 {f:Addr} {fd:aH} (Z:Aw K t) (F:FunD K "need_place" "Plain.need_place" Rg f fd .none) (T:Tab P w K mg base 2 (K9 K t) bl):FnOk P w K mg base (CXE P w) 3 f fd Xw (av5 K t):=by
 refine F.okWX bt8 by7 T (br2 K t) (fun vs H Q E h=>?_) (fun vs H Q E h=>?_)
 ·obtain⟨p,d,S,z,rfl,_⟩:=h;rfl
 ·obtain⟨p,d,S,z,rfl,⟨⟨dx,e⟩,kvs,ed,g⟩,k1,k2⟩:=h
  refine Hm (c:=(!decide (z = ""))=true) (fun n=>?_) (fun n=>?_)
  ·have n:z ≠ "" := by simpa using n
   refine kX ⟨_,_,_,.ref d,e,Z.pl,Z.plr,rfl,.inr ⟨_,.inl ⟨kvs,.inr z,ed,rfl,rfl⟩,?_⟩⟩
   show if (!(Bb kvs (.inr z)).isSome)=true then _ else _
   rw [g.isSome]
   cases c:has S z with
   | false=>exact⟨(show 1<=1000 by decide),Uv Z (k2 n c)⟩
   | true=>exact k1 (.inr c)
  ·have n:z = "" := by simpa using n
   exact k1 (.inl n)
theorem au1 {f:Addr} {fd:aH} (Z:Aw K t) (F:FunD K "place_key" "Plain.place_key" Ri f fd .none) (T:Tab P w K mg base 4 (Ik K t) bl):FnOk P w K mg base CX0 5 f fd Xy (av7 K t):=by
 refine F.okW0 bu0 by9 T (br4 K t) (fun vs H Q E h=>?_) (fun vs H Q E h=>?_)
 ·obtain⟨p,d,S,z,rfl,_⟩:=h;rfl
 ·obtain⟨p,d,S,z,rfl,hP,hz,k⟩:=h
  obtain⟨dx,e⟩:=hP.1
  refine⟨p,dx,_,⟨t.c_zaq,V6 K t⟩,rfl,.head _,e,rfl,⟨ae _,ae _⟩,⟨p,d,S,z,rfl,hP,(fun r hr y _ _=>⟨(show 2<=sizeLine by decide),fun q hq=>?_⟩),fun c=>ab hz c⟩⟩
  have e2:=k q hq
  unfold rkf at e2
  rw [Hz hr] at e2
  exact e2
end
end K23
set_option maxHeartbeats 2000000
namespace K23
open PySem L2
theorem ap9 (z:Str):z.cps.toList.length=z.length:=by simp [Str.length]
theorem ah6 (a b:Str):(a++b).cps.toList=a.cps.toList++b.cps.toList:=by
 show (a.cps++b.cps).toList=_
 simp
theorem Gg {α:Type} {xs:List α} {i:Nat} {v:α} (h:xs[i]? = some v):atI xs (i:Int)=some v:=by
 have hl:i<xs.length:=(List.getElem?_eq_some_iff.mp h).1
 unfold atI ixN
 have h1:¬ ((i:Int)<0):=by omega
 have h2:(i:Int)<(xs.length:Int):=by omega
 simp [h1,h2]
 exact h
section
variable {P:aK} {w:bt} {K:aa} {mg:Str->Option Value} {base:Heap} {t:Adr}
theorem No {n i:Nat} {x:V} (h:(O9 0 n)[i]? = some x):i<n/\x=.int (i:Int):=by
 have hi:i<n:=by
  have:=(List.getElem?_eq_some_iff.mp h).1
  rw [Cf] at this
  exact this
 rw [Kd hi] at h
 have:=aU h
 rw [Int.zero_add] at this
 exact⟨hi,this.symm⟩
theorem b14 {c1 c2 c3:Bool} {A B:Prop} (a:A) (b:B):if c1=true then (if c2=true then (if c3=true then A else B) else (if false=true then A else B)) else (if false=true then A else B):=by
 cases c1 <;> cases c2 <;> cases c3 <;> first|exact Wb (Wb b)|exact Wb b|exact Wc (Wb (Wb b))|exact Wc (Wc (Wb b))|exact Wc (Wc (Wc a))
theorem atM {α:Type} {xs:List α} (c:Int) (m:Int) (hm:(xs.length:Int)=m) (h:0<m):∃ v,v∈xs/\atI xs (c % m)=some v:=by
 have h1:=ck c (show m≠0 by omega)
 have h2:=b5 c h
 have hl:(c % m).toNat<xs.length:=by omega
 refine⟨xs[(c % m).toNat],cR hl,?_⟩
 unfold atI ixN
 have a1:¬ (c % m<0):=by omega
 have a2:c % m<(xs.length:Int):=by omega
 simp [a1,a2]
 rw [if_pos h1]
 exact aj hl
theorem Gk (c:Int) {m:Nat} (h:0<m):∃ j:Nat,c % (m:Int)=(j:Int)/\j<m:=by
 have h1:=ck c (show (m:Int)≠0 by omega)
 have h2:=b5 c (show (0:Int)<(m:Int) by omega)
 exact⟨(c % (m:Int)).toNat,by omega,by omega⟩
theorem a50 {f:Addr} {fd:aH} (Z:Aw K t) (F:FunD K "_law_cell" "_law_cell" Kj f fd .none) (T:Tab P w K mg base 0 (Da K t) bl):FnOk P w K mg base CX0 1 f fd N2 (Cz K t):=by
 refine F.okW0 be1 bh1 T (bc7 K t) (fun vs H Q E h=>?_) (fun vs H Q E h=>?_)
 ·obtain⟨a,ns,k,rfl,_⟩:=h;rfl
 ·obtain⟨a,ns,k,rfl,hS,q⟩:=h
  unfold C9 at q
  refine .inl ⟨_,.inl hS,Hm (fun hlt=>?_) (fun hlt=>?_)⟩
  ·have hlt:(k:Int)<((ns.map V.int).length:Int):=of_decide_eq_true hlt
   have hk:k<ns.length:=by rw [ag] at hlt;omega
   rw [if_pos hk,av,aj hk] at q
   exact⟨_,.int ns[k],.inl hS,Gg (by rw [aA,aj hk];rfl),q⟩
  ·have hlt:¬ (k:Int)<((ns.map V.int).length:Int):=fun c=>hlt (decide_eq_true c)
   rw [if_neg (by rw [ag] at hlt;omega)] at q
   exact⟨.inr ⟨by decide,by decide⟩,q⟩
theorem bo2 {f:Addr} {fd:aH} (Z:Aw K t) (F:FunD K "_law_stream" "_law_stream" R3 f fd .none) (T:Tab P w K mg base 0 (Da K t) bl):FnOk P w K mg base CX0 1 f fd Yi (Mh K t):=by
 refine F.okW0 bw0 b09 T (bt4 K t) (fun vs H Q E h=>?_) (fun vs H Q E h=>?_)
 ·obtain⟨c,n,rfl,_⟩:=h;rfl
 ·obtain⟨c,n,rfl,hn,k⟩:=h
  refine⟨by decide,fun l hl=>⟨⟨by decide,by decide⟩,by decide,⟨by omega,by omega⟩,?_⟩⟩
  rw [bW]
  have m1:=ck c (show (2147483629:Int)≠0 by decide)
  have m2:=b5 c (show (0:Int)<2147483629 by decide)
  refine C7 (Fa 0 n) (fun i σ H'=>(∃ left num v,σ=[some (.int c),some (.int n),some (.ref l),some (.int left),some (.int num),v]/\0<=num/\num<4294967296)/\Same H H' /\ ∃ ns:List Int,ns.length=i/\H' l=some (.lst (ns.map V.int)) /\ ∀ z∈ns,0<=z/\z<2147483648)
   ⟨⟨_,_,_,rfl,by omega,by omega⟩,Same.upd hl,[],rfl,Ad,(fun z hz=>by cases hz)⟩ (fun _ _ _ _ _=>bH) ?_ ?_
  ·rintro i x σ H' hx ⟨⟨left,num,v,rfl,u1,u2⟩,S,ns,e1,e2,e3⟩
   obtain⟨hi,rfl⟩:=No hx
   refine⟨.inr ⟨by decide,by decide⟩,.inl ⟨by decide,by decide⟩,by decide,by decide,?_⟩
   have w1:=ck (num * 48271+7919 * (i:Int)+1) (show (2147483647:Int)≠0 by decide)
   have w2:=b5 (num * 48271+7919 * (i:Int)+1) (show (0:Int)<2147483647 by decide)
   generalize (num * 48271+7919 * (i:Int)+1) % 2147483647=nu at w1 w2 ⊢
   have put:∀ y:Int,0<=y->y<2147483648->Same H (upd H' l (.lst (ns.map V.int++[.int y]))) /\ ∃ ns2:List Int,ns2.length=i+1/\upd H' l (.lst (ns.map V.int++[.int y])) l=some (.lst (ns2.map V.int)) /\ ∀ z∈ns2,0<=z/\z<2147483648:=fun y y1 y2=>
    ⟨S.set hl,ns++[y],by rw [aI,e1];rfl,by rw [Ad,ba];rfl,fun z hz=>by
     rcases List.mem_append.mp hz with h|h
     ·exact e3 z h
     ·have:z=y:=by simpa using h
      subst this;exact⟨y1,y2⟩⟩
   have hsz:(ns.map V.int).length<sizeLine:=by rw [ag,e1];exact aO (show i<100 by omega) (by decide)
   refine b14 ?_ ?_
   ·have y1:=ck left (show (268435456:Int)≠0 by decide)
    have y2:=b5 left (show (0:Int)<268435456 by decide)
    exact⟨.inl ⟨rfl,_,SqL.of e2⟩,by decide,l,_,_,rfl,rfl,e2,hsz,⟨by decide,by decide⟩,⟨_,_,_,rfl,by omega,by omega⟩,put _ y1 (by omega)⟩
   ·have y1:=ck (nu * nu % 2147483629 * 16807+(i:Int)) (show (2147483587:Int)≠0 by decide)
    have y2:=b5 (nu * nu % 2147483629 * 16807+(i:Int)) (show (0:Int)<2147483587 by decide)
    exact⟨.inl ⟨rfl,_,SqL.of e2⟩,.inl ⟨by omega,by omega⟩,by decide,.inr ⟨by decide,by decide⟩,by decide,⟨by decide,by decide⟩,l,_,_,rfl,rfl,e2,hsz,⟨_,_,_,rfl,by omega,by omega⟩,put _ (by omega) (by omega)⟩
  ·rintro σ H' ⟨⟨left,num,v,rfl,_⟩,S,ns,e1,e2,e3⟩
   rw [Cf] at e1
   exact .inl (k _ l ns S hl e2 e1 e3)
theorem in4 {a b c d:Nat} {v:V} (ha:a<=60) (hb:b<=60) (hc:c<=60) (hd:d<=60) (h:v∈[V.int a,.int b,.int c,.int d]):∃ m:Nat,v=.int (m:Int)/\m<=60:=by
 simp only [aF,bN,or_false] at h
 rcases h with rfl|rfl|rfl|rfl
 ·exact⟨a,rfl,ha⟩
 ·exact⟨b,rfl,hb⟩
 ·exact⟨c,rfl,hc⟩
 ·exact⟨d,rfl,hd⟩
noncomputable def signsS:Str:=cr " !#$&'()*+,-./0123456789:;<=>?@ABCDEFGHIJKLMNOPQRSTUVWXYZ[\\]^_`abcdefghijklmnopqrstuvwxyz{|}~" ++ cr "\""
theorem Ku:signsS.cps.toList.length=94/\signsS.cps.toList.all Ky=true:=by decide +kernel
theorem Tx:(cr "|/\\a ").cps.toList.length=5/\(cr "|/\\a ").cps.toList.all Ky=true:=by decide +kernel
theorem Te (a b:Str):(a++b).length=a.length+b.length:=PySem.strLen_append a b
theorem ag9 {z:Str} {c:Nat} (h:z.cps.toList.all Ky=true) (hc:Ky c=true):(z++⟨#[c]⟩).cps.toList.all Ky=true:=by
 rw [ah6,List.all_append,h]
 simpa using hc
theorem a56 {f:Addr} {fd:aH} (Z:Aw K t) (F:FunD K "_law_text" "_law_text" Kp f fd .none) (T:Tab P w K mg base 1 (Vx K t) bl):FnOk P w K mg base CX0 2 f fd N8 (Nt K t):=by
 refine F.okW0 be7 bh7 T (bd3 K t) (fun vs H Q E h=>?_) (fun vs H Q E h=>?_)
 ·obtain⟨c,rfl,_⟩:=h;rfl
 ·obtain⟨c,rfl,k⟩:=h
  refine⟨by decide +kernel,c,4,rfl,by decide,fun H1 l ns S1 hl el en eb=>?_⟩
  match ns,en with
  | [n0,n1,n2,n3],_=>
   have q:SqL K H1 l [.int n0,.int n1,.int n2,.int n3]:=SqL.of el
   refine⟨_,_,.inl q,rfl,by decide,_,_,.inl q,rfl,by decide,_,_,.inl q,rfl,by decide,(show 4<=sizeLine by decide),fun p hp=>?_⟩
   have q1:=(Same.upd (o:=.lst [.int 0,.int (n1 % 4),.int (n1 % 12),.int (n1 % 61)]) hp).seqL q
   have S2:=S1.trans (Same.upd (o:=.lst [.int 0,.int (n1 % 4),.int (n1 % 12),.int (n1 % 61)]) hp)
   have ep:upd H1 p (.lst [.int 0,.int (n1 % 4),.int (n1 % 12),.int (n1 % 61)]) p=some (.lst [.int 0,.int (n1 % 4),.int (n1 % 12),.int (n1 % 61)]):=Ad
   generalize upd H1 p (.lst [.int 0,.int (n1 % 4),.int (n1 % 12),.int (n1 % 61)])=H2 at q1 S2 ep ⊢
   refine⟨_,_,.inl q1,rfl,by decide,?_⟩
   obtain⟨v,hv,ev⟩:=atM (xs:=[V.int 0,.int (n1 % 4),.int (n1 % 12),.int (n1 % 61)]) n0 4 rfl (by decide)
   obtain⟨j1,e1,g1⟩:=Gk n1 (m:=4) (by decide)
   obtain⟨j2,e2,g2⟩:=Gk n1 (m:=12) (by decide)
   obtain⟨j3,e3,g3⟩:=Gk n1 (m:=61) (by decide)
   have hv2:v∈[V.int ((0:Nat):Int),.int j1,.int j2,.int j3]:=by
    rw [<- e1,<- e2,<- e3]
    exact hv
   obtain⟨m,rfl,hm⟩:=in4 (by omega) (by omega) (by omega) (by omega) hv2
   refine⟨_,_,.inl (SqL.of ep),ev,?_⟩
   refine⟨c+1,m,rfl,by omega,fun H3 l2 ns2 S3 hl2 el2 en2 _=>.inl ⟨⟨_,SqL.of el2⟩,?_⟩⟩
   have q3:=S3.seqL q1
   have S4:=S2.trans S3
   refine C7 (Cj (ns2.map V.int)) (fun i σ H'=>H'=H3 /\ ∃ z v,σ=[some (.int c),some (.str signsS),some (.ref l),some (.int m),some (.str z),v]/\z.length=i/\z.cps.toList.all Ky=true)
    ⟨rfl,_,_,rfl,by decide +kernel,by decide +kernel⟩ (fun i σ H' _ h=>h.1▸SqL.of el2) ?_ ?_
   ·rintro i x σ H' hx ⟨rfl,z,v,rfl,lz,az⟩
    have hi:i<m:=by
     have:=(List.getElem?_eq_some_iff.mp hx).1
     rw [ag,en2] at this
     exact this
    rw [aA] at hx
    obtain⟨y,_,rfl⟩:=Option.map_eq_some_iff.mp hx
    have big:1000<=sizeLine:=by decide
    refine⟨_,_,.inl q3,rfl,by decide,?_⟩
    refine Hm (fun _=>?_) (fun _=>?_)
    ·obtain⟨ch,hc,ec⟩:=atM (xs:=(cr "|/\\a ").cps.toList) y 5 (by rw [Tx.1];rfl) (by decide)
     refine⟨by decide,by decide +kernel,ch,ec,?_,rfl,_,_,rfl,?_,ag9 az (List.all_eq_true.mp Tx.2 ch hc)⟩
     ·show z.length+1<=sizeLine;omega
     ·rw [Te,lz];rfl
    ·obtain⟨ch,hc,ec⟩:=atM (xs:=signsS.cps.toList) y 94 (by rw [Ku.1];rfl) (by decide)
     refine⟨by decide,?_,ch,ec,?_,rfl,_,_,rfl,?_,ag9 az (List.all_eq_true.mp Ku.2 ch hc)⟩
     ·have:=Ku.1;rw [ap9] at this;omega
     ·show z.length+1<=sizeLine;omega
     ·rw [Te,lz];rfl
   ·rintro σ H' ⟨rfl,z,v,rfl,lz,az⟩
    rw [ag,en2] at lz
    exact .inl (k z _ S4 ⟨by omega,az⟩)
theorem in3 {a b c:Int} {v:V} (ha:1<=a/\a<=6) (hb:1<=b/\b<=6) (hc:1<=c/\c<=6) (h:v∈[V.int a,.int b,.int c]):∃ m:Nat,v=.int (m:Int)/\1<=m/\m<=6:=by
 have go:∀ d:Int,1<=d/\d<=6 -> ∃ m:Nat,V.int d=.int (m:Int)/\1<=m/\m<=6:=fun d hd=>⟨d.toNat,by rw [Int.toNat_of_nonneg (by omega)],by omega,by omega⟩
 simp only [aF,bN,or_false] at h
 rcases h with rfl|rfl|rfl
 ·exact go _ ha
 ·exact go _ hb
 ·exact go _ hc
noncomputable def RowsAt (K:aa) (H':Hp) (lr n i:Nat):Prop:=∃ (ys:List V) (rs:Tb),H' lr=some (.lst ys)/\ys.length=i/\rs.length=i/\(∀ r∈rs,wfR n r)/\AtL K H' (rs.map Wx) ys
theorem RowsAt.same {H H':Hp} {lr n i:Nat} (h:RowsAt K H lr n i) (S:Same H H'):RowsAt K H' lr n i:=by
 obtain⟨ys,rs,h1,h2,h3,h4,h5⟩:=h
 exact⟨ys,rs,S _ _ h1,h2,h3,h4,Fy S h5⟩
theorem RowsAt.row {H:Hp} {lr n i r:Nat} {row:List Str} {ys:List V} (h:RowsAt K H lr n i) (e:H lr=some (.lst ys)) (hr:H r=some (.tup (row.map V.str))) (hw:wfR n row):RowsAt K (upd H lr (.lst (ys++[.ref r]))) lr n (i+1):=by
 obtain⟨ys',rs,h1,h2,h3,h4,h5⟩:=h
 rw [h1] at e
 cases e
 refine⟨_,rs++[row],Ad,by rw [aI,h2];rfl,by rw [aI,h3];rfl,fun r' hr'=>?_,?_⟩
 ·rcases List.mem_append.mp hr' with q|q
  ·exact h4 r' q
  ·have:r'=row:=by simpa using q
   subst this;exact hw
 ·rw [ba]
  exact Gh (Ke (TKeep.lst h1) h5) (Au (Th (TKeep.lst h1 _ _ (SqT.of hr))) Bp)
theorem RowsAt.done {H H0:Hp} {lr n i:Nat} (h:RowsAt K H lr n i) (i1:1<=i) (i6:i<=6) (n1:1<=n) (n6:n<=6) {Q:VK} (S:Same H0 H) (k:∀ c H' x,Same H0 H'->wfT c->At K H' (ag0 c) x->Q x H') :
  ∃ ys,(SqL K H lr ys /\ ∀ l,H l=none->Q (.ref l) (upd H l (.tup ys)))\/(SqT K H lr ys/\Q (.ref lr) H):=by
 obtain⟨ys,rs,h1,h2,h3,h4,h5⟩:=h
 refine⟨ys,.inl ⟨SqL.of h1,fun l hl=>?_⟩⟩
 exact k rs _ _ (S.trans (Same.upd hl)) ⟨by omega,by omega,n,n1,n6,h4⟩ (Je (SqT.of Ad) (Fy (Same.upd hl) h5))
theorem a48 {f:Addr} {fd:aH} (Z:Aw K t) (F:FunD K "_law_table" "_law_table" Kh f fd .none) (T:Tab P w K mg base 2 (K9 K t) bl):FnOk P w K mg base CX0 3 f fd N0 (Sc K t):=by
 refine F.okW0 bd9 bg9 T (bc5 K t) (fun vs H Q E h=>?_) (fun vs H Q E h=>?_)
 ·obtain⟨c,rfl,_⟩:=h;rfl
 ·obtain⟨c,rfl,k⟩:=h
  refine⟨c,3,rfl,by decide,fun H1 l ns S1 hl el en eb=>?_⟩
  match ns,en,eb with
  | [n0,n1,n2],_,eb=>
   have q:SqL K H1 l [.int n0,.int n1,.int n2]:=SqL.of el
   have pick:∀ y:Int,∃ m:Nat,atI [V.int (1+y / 3 % 3),.int (1+y / 3 % 6),.int 6] (y % 3)=some (.int (m:Int))/\1<=m/\m<=6:=fun y=>by
    obtain⟨v,hv,ev⟩:=atM (xs:=[V.int (1+y / 3 % 3),.int (1+y / 3 % 6),.int 6]) y 3 rfl (by decide)
    obtain⟨m,rfl,hm⟩:=in3 (by omega) (by omega) (by decide) hv
    exact⟨m,ev,hm⟩
   obtain⟨m,em,m1,m6⟩:=pick n0
   obtain⟨n,en',n1',n6⟩:=pick n1
   refine⟨_,_,.inl q,rfl,⟨by decide,by decide⟩,by decide,_,_,.inl q,rfl,⟨by decide,by decide⟩,by decide,(show 3<=sizeLine by decide),fun p hp=>?_⟩
   have Sp:=Same.upd (o:=.lst [.int (1+n0 / 3 % 3),.int (1+n0 / 3 % 6),.int 6]) hp
   have ep:upd H1 p (.lst [.int (1+n0 / 3 % 3),.int (1+n0 / 3 % 6),.int 6]) p=some (.lst [.int (1+n0 / 3 % 3),.int (1+n0 / 3 % 6),.int 6]):=Ad
   generalize upd H1 p (.lst [.int (1+n0 / 3 % 3),.int (1+n0 / 3 % 6),.int 6])=H2 at Sp ep ⊢
   have q2:=Sp.seqL q
   refine⟨_,_,.inl q2,rfl,by decide,_,_,.inl (SqL.of ep),em,?_⟩
   refine⟨_,_,.inl q2,rfl,⟨by decide,by decide⟩,by decide,_,_,.inl q2,rfl,⟨by decide,by decide⟩,by decide,(show 3<=sizeLine by decide),fun p2 hp2=>?_⟩
   have Sp2:=Same.upd (o:=.lst [.int (1+n1 / 3 % 3),.int (1+n1 / 3 % 6),.int 6]) hp2
   have ep2:upd H2 p2 (.lst [.int (1+n1 / 3 % 3),.int (1+n1 / 3 % 6),.int 6]) p2=some (.lst [.int (1+n1 / 3 % 3),.int (1+n1 / 3 % 6),.int 6]):=Ad
   generalize upd H2 p2 (.lst [.int (1+n1 / 3 % 3),.int (1+n1 / 3 % 6),.int 6])=H3 at Sp2 ep2 ⊢
   have q3:=Sp2.seqL q2
   refine⟨_,_,.inl q3,rfl,by decide,_,_,.inl (SqL.of ep2),en',?_⟩
   have S3:=(S1.trans Sp).trans Sp2
   refine⟨by decide,fun lr hlr=>⟨⟨by omega,by omega⟩,?_⟩⟩
   rw [bW]
   have hlr0:H lr=none:=S3.free hlr
   refine C7 (Fa 0 m) (fun i σ H'=>(∃ v,σ=[some (.int c),some (.ref l),some (.int m),some (.int n),some (.ref lr),v])/\Same H H'/\RowsAt K H' lr n i)
    ⟨⟨_,rfl⟩,S3.trans (Same.upd hlr),[],[],Ad,rfl,rfl,(fun r hr=>by cases hr),Bp⟩ (fun _ _ _ _ _=>bH) ?_ ?_
   ·rintro i x σ H4 hx ⟨⟨v,rfl⟩,S4,R4⟩
    obtain⟨hi,rfl⟩:=No hx
    have hys:∃ ys,H4 lr=some (.lst ys)/\ys.length=i:=by obtain⟨ys,_,h1,h2,_⟩:=R4;exact⟨ys,h1,h2⟩
    obtain⟨ys,ey,ly⟩:=hys
    refine⟨.inl ⟨rfl,_,SqL.of ey⟩,⟨by omega,by omega⟩,fun D hD=>?_⟩
    rw [bW]
    refine Eh (Fa 0 n) (fun j σ' H'=>(∃ v,σ'=[v,some (.int c),some (.int (i:Int))])/\Same H4 H' /\ ∃ zs:List Str,zs.length=j/\(∀ z∈zs,wfS z)/\H' D=some (.lst (zs.map V.str)))
     ⟨⟨_,rfl⟩,Same.upd hD,[],rfl,(fun z hz=>by cases hz),Ad⟩ (fun _ _ _ _ _=>bH) ?_ ?_
    ·rintro j xj σ' H5 hxj ⟨⟨v,rfl⟩,S5,zs,e1,e2,e3⟩
     obtain⟨hj,rfl⟩:=No hxj
     refine⟨.inl ⟨by decide,by decide⟩,.inl ⟨by decide,by decide⟩,_,rfl,fun z H6 S6 hz=>?_⟩
     refine⟨_,S6 _ _ e3,?_,⟨_,rfl⟩,(S5.trans S6).set hD,zs++[z],by rw [aI,e1];rfl,fun z' hz'=>?_,by rw [Ad,ba];rfl⟩
     ·rw [ag,e1];exact aO (show j<6 by omega) (by decide)
     ·rcases List.mem_append.mp hz' with q|q
      ·exact e2 z' q
      ·have:z'=z:=by simpa using q
       subst this;exact hz
    ·rintro σ' H5 ⟨_,S5,zs,e1,e2,e3⟩
     rw [Cf] at e1
     refine⟨_,.inl ⟨SqL.of e3,fun rt hrt=>?_⟩⟩
     have S6:=S5.trans (Same.upd (o:=.tup (zs.map V.str)) hrt)
     have er:upd H5 rt (.tup (zs.map V.str)) rt=some (.tup (zs.map V.str)):=Ad
     generalize upd H5 rt (.tup (zs.map V.str))=H6 at S6 er ⊢
     exact⟨lr,_,_,rfl,rfl,S6 _ _ ey,by rw [ly];exact aO (show i<6 by omega) (by decide),⟨_,rfl⟩,(S4.trans S6).set hlr0,(R4.same S6).row (S6 _ _ ey) er ⟨e1,e2⟩⟩
   ·rintro σ H4 ⟨⟨v,rfl⟩,S4,R4⟩
    rw [Cf] at R4
    exact .inl (R4.done m1 m6 n1' n6 S4 k)
theorem F0 (z:Str):Jh (A1 z):=⟨by unfold A1 noL;rfl,by unfold A1 dep;omega⟩
theorem Yv:∀ r:List Str,Dc (r.map A1)=true
 | []=>by unfold Dc;rfl
 | z::r=>by rw [aP];unfold Dc;rw [(F0 z).1,Yv r];rfl
theorem To:∀ T:Tb,Dc (T.map Wx)=true
 | []=>by unfold Dc;rfl
 | z::T=>by rw [aP];unfold Dc;rw [To T];unfold Wx noL;rw [Yv z];rfl
theorem a24 (T:Tb):Jh (ag0 T):=by
 refine⟨by unfold ag0 noL;exact To T,?_⟩
 have h1:∀ r:List Str,dep (Wx r)<=1:=fun r=>by
  unfold Wx dep
  exact ge (Ev (fun z=>Jj z) r)
 unfold ag0 dep
 have:=Ev h1 T
 omega
theorem bn4 {f:Addr} {fd:aH} (Z:Aw K t) (F:FunD K "_law_content" "_law_content" Ru f fd .none) (T:Tab P w K mg base 3 (Gp K t) bl):FnOk P w K mg base CX0 4 f fd Ya (ae9 K t):=by
 refine F.okW0 bv2 b01 T (bs6 K t) (fun vs H Q E h=>?_) (fun vs H Q E h=>?_)
 ·obtain⟨z,c,rfl,_⟩:=h;rfl
 ·obtain⟨z,c,rfl,k⟩:=h
  refine Hm (c:=decide (z = "table")=true) (fun e=>?_) (fun e=>?_)
  ·exact⟨c,rfl,fun T H' x S f a=>k _ H' x S (a24 T) a⟩
  ·exact⟨c,rfl,fun y H' S hy=>k (A1 y) H' _ S (F0 y) Bw⟩
theorem a23:ay1 10 9:=⟨by decide,by decide,by decide +kernel⟩
theorem a54 {f:Addr} {fd:aH} (Z:Aw K t) (F:FunD K "_law_rank" "_law_rank" Kn f fd .none) (T:Tab P w K mg base 0 (Da K t) bl):FnOk P w K mg base CX0 1 f fd N6 (Se K t):=by
 refine F.okW0 be5 bh5 T (bd1 K t) (fun vs H Q E h=>?_) (fun vs H Q E h=>?_)
 ·obtain⟨x,rfl,_⟩:=h;rfl
 ·obtain⟨x,rfl,k⟩:=h
  refine⟨⟨by decide,by decide⟩,by decide,⟨by decide,by decide⟩,by decide,⟨by decide,by decide⟩,a23,by decide,(show 4<=sizeLine by decide),fun p hp=>?_⟩
  rw [show (10:Int) ^ mM 9+1=1000000001 from by decide]
  obtain⟨v,hv,ev⟩:=atM (xs:=[V.int 0,.int (x / 4 % 3),.int (x / 4 % 3),.int (x / 4 % 1000000001)]) x 4 rfl (by decide)
  have hr:∃ r,v=.int r/\rkI r:=by
   simp only [aF,bN,or_false] at hv
   rcases hv with rfl|rfl|rfl|rfl
   ·exact⟨_,rfl,by unfold rkI;omega⟩
   ·exact⟨_,rfl,by unfold rkI;omega⟩
   ·exact⟨_,rfl,by unfold rkI;omega⟩
   ·exact⟨_,rfl,by unfold rkI;omega⟩
  obtain⟨r,rfl,hr⟩:=hr
  exact⟨by decide,_,_,.inl (SqL.of Ad),ev,k r _ (Same.upd hp) hr⟩
end
theorem M7 (l:List Nat):Txt.join (cr "") (l.map fun k=>(⟨#[k]⟩:Str))=⟨l.toArray⟩:=by
 show Builtin.Str.glued (cr "") _=_
 rw [StrLaws.glued_eq_join,show cr "" = (⟨#[]⟩:Str) from by decide +kernel]
 exact PyProof.Rows.join_ones l
theorem Kw {l:List Nat} {n:Int} (h0:0<=n) (h:n.toNat<=l.length):mP ⟨l.toArray⟩ none (some n)=⟨(l.take n.toNat).toArray⟩:=by
 have e:=cv (PyProof.Rows.slice_closes_to (x:=⟨l.toArray⟩) (j:=n) ⟨h0,by show n<=(l.length:Int);omega⟩)
 rw [e,Int.sub_zero]
 rfl
theorem R7 {l:List Nat} {n:Int} (h0:0<=n) (h:n.toNat<=l.length):mP ⟨l.toArray⟩ (some n) none=⟨(l.drop n.toNat).toArray⟩:=by
 have e:=cv (PyProof.Rows.slice_closes_from (x:=⟨l.toArray⟩) (i:=n) ⟨h0,by show n<=(l.length:Int);omega⟩)
 rw [e]
 show (⟨((l.drop n.toNat).take ((l.length:Int) - n).toNat).toArray⟩:Str)=_
 rw [jY (by rw [fu];omega)]
theorem Mp (l m:List Nat):(⟨l.toArray⟩:Str)++⟨m.toArray⟩=⟨(l++m).toArray⟩:=by
 show (⟨l.toArray++m.toArray⟩:Str)=_
 simp
theorem Jg (c:Nat) (l:List Nat):(⟨#[c]⟩:Str)++⟨l.toArray⟩=⟨(c::l).toArray⟩:=Mp [c] l
theorem M8 (l:List Nat):(⟨l.toArray⟩:Str).length=l.length:=by simp [Str.length]
theorem ao7 {n i:Nat} {x:V} (h:(O9 1 n)[i]? = some x):i<n/\x=.int (1+(i:Int)):=by
 have hi:i<n:=by
  have:=(List.getElem?_eq_some_iff.mp h).1
  rw [Cf] at this
  exact this
 rw [Kd hi] at h
 exact⟨hi,(aU h).symm⟩
theorem Li:alpha.cps.toList.length=37:=by decide +kernel
theorem Gd:alpha.length<=sizeLine:=by decide +kernel
theorem Ob (i:Int):atI alpha.cps.toList (i % 37)=some (al i):=by
 obtain⟨c,hc,e⟩:=atM (xs:=alpha.cps.toList) i 37 (by rw [Li];rfl) (by decide)
 unfold al
 rw [e];rfl
theorem af2 (cs:List Nat):((cs.map fun c=>(⟨#[c]⟩:Str)).map (·.length)).sum=cs.length:=by
 induction cs with
 | nil=>rfl
 | cons c cs ih=>
  rw [aP,aP,List.sum_cons,ih,aR]
  show 1+cs.length=cs.length+1
  omega
theorem Su (c:Int):(tlF c).length=11:=by unfold tlF;rw [ag,fV]
section
variable {P:aK} {w:bt} {K:aa} {mg:Str->Option Value} {base:Heap} {t:Adr}
theorem a53 {f:Addr} {fd:aH} (Z:Aw K t) (F:FunD K "_law_name" "_law_name" Km f fd .none) (T:Tab P w K mg base 0 (Da K t) bl):FnOk P w K mg base CX0 1 f fd N5 (Kx K t):=by
 refine F.okW0 be4 bh4 T (bd0 K t) (fun vs H Q E h=>?_) (fun vs H Q E h=>?_)
 ·obtain⟨c,n,rfl,_⟩:=h;rfl
 ·obtain⟨c,n,rfl,hn,k⟩:=h
  refine⟨(show 12<=sizeLine by decide),fun l hl=>?_⟩
  have S1:=Same.upd (o:=.lst (someN.map V.str)) hl
  have el:upd H l (.lst (someN.map V.str)) l=some (.lst (someN.map V.str)):=Ad
  unfold nmF at k
  refine⟨by decide,Hm (c:=decide (c % 5=4)=true) (fun e4=>?_) (fun e4=>?_)⟩
  ·rw [if_pos (of_decide_eq_true e4)] at k
   have ev:atI (someN.map V.str) (((n:Int)+c / 5) % 12)=some (.str (someN.getD (((n:Int)+c / 5) % 12).toNat "")):=by
    have h1:=ck ((n:Int)+c / 5) (show (12:Int)≠0 by decide)
    have h2:=b5 ((n:Int)+c / 5) (show (0:Int)<12 by decide)
    generalize ((n:Int)+c / 5) % 12=j at h1 h2 ⊢
    obtain⟨m,rfl⟩:=gI h1
    have hm:m<someN.length:=by show m<12;omega
    refine Gg (i:=m) ?_
    rw [aA,aj hm]
    show some (V.str _)=some (V.str (someN.getD m ""))
    rw [av,aj hm]
    rfl
   exact⟨⟨by decide,by decide⟩,by decide,_,_,.inl (SqL.of el),ev,k _ S1⟩
  ·rw [if_neg (fun e=>e4 (decide_eq_true e))] at k
   refine⟨rfl,⟨by decide,by decide,by decide,by decide⟩,fun D hD=>?_⟩
   refine Eh (Fa 1 11) (fun j σ' H'=>(∃ v,σ'=[v,some (.int c),some (.str alpha)])/\Same (upd H l (.lst (someN.map V.str))) H'/\H' D=some (.lst (((((cL j).map fun (j:Nat)=>al (c / 37+7 * (1+(j:Int)) * (1+(j:Int))))).map fun c=>(⟨#[c]⟩:Str)).map V.str))) ⟨⟨_,rfl⟩,Same.upd hD,Ad⟩ (fun _ _ _ _ _=>bH) ?_ ?_
   ·rintro j x σ' H5 hxj ⟨⟨v,rfl⟩,S5,e3⟩
    obtain⟨hj,rfl⟩:=ao7 hxj
    refine⟨⟨by decide,by decide⟩,.inl ⟨by decide,by decide⟩,.inr ⟨by omega,by omega⟩,by decide,Gd,_,Ob (c / 37+7 * (1+(j:Int)) * (1+(j:Int))),?_⟩
    refine⟨_,e3,?_,⟨_,rfl⟩,S5.set hD,?_⟩
    ·rw [ag,ag,ag,fV];exact aO (show j<11 by omega) (by decide)
    ·rw [Ad,km,ba,ba,ba];rfl
   ·rintro σ' H5 ⟨_,S5,e3⟩
    rw [Cf] at e3
    have e3:H5 D=some (.lst (((tlF c).map fun c=>(⟨#[c]⟩:Str)).map V.str)):=e3
    refine⟨"", D,(tlF c).map fun c=>(⟨#[c]⟩:Str),rfl,rfl,SqL.of e3,?_,?_⟩
    ·rw [af2,ag,Su];decide +kernel
    rw [M7]
    have S15:=S1.trans S5
    have tl:=Su c
    unfold nmL bsF atF at k
    generalize tlF c=cs at tl k ⊢
    refine⟨by decide,Hm (c:=decide (c % 5=3)=true) (fun e5=>?_) (fun e5=>?_)⟩
    ·rw [if_pos (of_decide_eq_true e5)] at k
     refine⟨⟨by decide,by decide⟩,⟨by decide,by decide⟩,by decide,Gd,_,Ob _,by decide,?_⟩
     have m1:0<=(n:Int) % 12/\(n:Int) % 12<12:=by omega
     refine⟨by rw [M8,tl];decide,?_⟩
     rw [Kw m1.1 (by omega)]
     refine⟨?_,?_⟩
     ·show 1+(⟨(cs.take ((n:Int) % 12).toNat).toArray⟩:Str).length<=sizeLine
      rw [M8,a_]
      exact aS (show 1+_<=100 by omega) (by decide)
     ·rw [Jg,show ((n:Int) % 12).toNat=n % 12 by omega]
      exact k _ S15
    ·rw [if_neg (fun e=>e5 (decide_eq_true e))] at k
     have big:100<=sizeLine:=by decide
     have hs:1<=1+c / 5 % 12/\1+c / 5 % 12<=12:=by omega
     refine⟨⟨by decide,by decide⟩,by decide,⟨by decide,by decide⟩,by omega,?_⟩
     have ha1:=ck (c / 60) (show 1+c / 5 % 12≠0 by omega)
     have ha2:=b5 (c / 60) (show 0<1+c / 5 % 12 by omega)
     refine⟨⟨by decide,by decide⟩,by decide,Gd,_,Ob (c / 720),?_⟩
     refine⟨by show 1+(⟨cs.toArray⟩:Str).length<=sizeLine;rw [M8,tl];omega,by rw [Jg,M8,aR,tl];omega,?_⟩
     generalize 1+c / 5 % 12=sz at hs ha1 ha2 k ⊢
     generalize c / 60 % sz=at_ at ha1 ha2 k ⊢
     rw [Jg,Kw (l:=al (c / 720)::cs) (n:=sz) (by omega) (by rw [aR];omega)]
     have lB:((al (c / 720)::cs).take sz.toNat).length=sz.toNat:=by rw [a_,aR,tl];omega
     generalize (al (c / 720)::cs).take sz.toNat=B at lB k ⊢
     refine⟨by rw [M8,lB];omega,?_⟩
     rw [Kw (l:=B) (n:=at_) ha1 (by omega)]
     refine⟨⟨by decide,by decide⟩,by decide,Gd,_,Ob _,by rw [M8,a_];show _+1<=_;omega,by rw [M8,lB];omega,?_⟩
     rw [R7 (l:=B) (n:=at_+1) (by omega) (by omega)]
     have e7:(⟨(B.take at_.toNat).toArray⟩:Str)++⟨#[al (c / 26640+(n:Int))]⟩=⟨(B.take at_.toNat++[al (c / 26640+(n:Int))]).toArray⟩:=Mp _ [_]
     rw [e7]
     refine⟨by rw [M8,M8,aI,a_,fu];show _+1+_<=_;omega,?_⟩
     rw [Mp,show (at_+1).toNat=at_.toNat+1 by omega]
     exact k _ S15
end
theorem ae6:∀ a<12,∀ b<12,someN.getD a "" = someN.getD b "" -> a=b:=by decide +kernel
theorem ap4:∀ a<12,someN.getD a "" ≠ "" := by decide +kernel
theorem a18 {i j:Int} (h:al i=al j):i % 37=j % 37:=by
 have nd:∀ a<37,∀ b<37,alpha.cps.toList.getD a 0=alpha.cps.toList.getD b 0->a=b:=by decide +kernel
 have e:∀ i:Int,al i=alpha.cps.toList.getD (i % 37).toNat 0:=fun i=>by
  have h1:=ck i (show (37:Int)≠0 by decide)
  have h2:=b5 i (show (0:Int)<37 by decide)
  have a:=Ob i
  generalize al i=x at a ⊢
  generalize i % 37=j at a h1 h2 ⊢
  obtain⟨m,rfl⟩:=gI h1
  have hm:m<alpha.cps.toList.length:=by rw [Li];omega
  rw [Gg (i:=m) (aj hm)] at a
  show x=alpha.cps.toList.getD m 0
  rw [av,aj hm]
  exact (aU a).symm
 rw [e i,e j] at h
 have h1:=ck i (show (37:Int)≠0 by decide)
 have h2:=b5 i (show (0:Int)<37 by decide)
 have h3:=ck j (show (37:Int)≠0 by decide)
 have h4:=b5 j (show (0:Int)<37 by decide)
 have:=nd _ (by omega) _ (by omega) h
 omega
theorem str_list {l m:List Nat} (h:(⟨l.toArray⟩:Str)=⟨m.toArray⟩):l=m:=by
 injection h with h
 simpa using h
theorem Na {c:Int} {k j:Nat} (hk:k<12) (hj:j<12) (h:nmF c k=nmF c j):k=j:=by
 unfold nmF at h
 by_cases e4:c % 5=4
 ·rw [if_pos e4,if_pos e4] at h
  have:=ae6 _ (by omega) _ (by omega) h
  omega
 ·rw [if_neg e4,if_neg e4] at h
  have h:=str_list h
  unfold nmL at h
  have tl:=Su c
  by_cases e3:c % 5=3
  ·rw [if_pos e3,if_pos e3] at h
   have:=congrArg gr h
   rw [aR,aR,a_,a_,tl] at this
   omega
  ·rw [if_neg e3,if_neg e3,cX,cX] at h
   have h:=List.append_cancel_left h
   have h:=(List.cons.inj (show al (c / 26640+k)::_=al (c / 26640+j)::_ from h)).1
   have:=a18 h
   omega
theorem Ug (c:Int) (k:Nat):nmF c k ≠ "" := by
 unfold nmF
 by_cases e4:c % 5=4
 ·rw [if_pos e4]
  exact ap4 _ (by omega)
 ·rw [if_neg e4]
  intro h
  have h:=str_list (m:=[]) h
  unfold nmL at h
  by_cases e3:c % 5=3
  ·rw [if_pos e3] at h;cases h
  ·rw [if_neg e3] at h
   have:=congrArg gr h
   rw [aI,aI] at this
   exact absurd this (by show ¬ (_+1+_=0);omega)
theorem Ui {c:Int} {m k:Nat} (hm:m<=10) (hk:k<12) (h:nmF c k∈Ou c m):k<m:=by
 obtain⟨j,hj,e⟩:=List.mem_map.mp h
 have hj:=List.mem_range.mp hj
 rw [Na hk (by omega) e.symm]
 exact hj
end K23
set_option maxHeartbeats 400000
namespace K23
open PySem L2
section
variable {α:Type} {ch:α->List α} {h:α->Nat}
inductive Dn (ch:α->List α) (c:α):α->Prop where
 | here:Dn ch c c
 | dn {y z:α} (d:Dn ch c y) (m:z∈ch y):Dn ch c z
theorem Dn.le (S:Gc ch h) {c z:α} (d:Dn ch c z):h z<=h c:=by
 induction d with
 | here=>exact ae _
 | dn _ m ih=>exact aS (fQ (S _ _ m)) ih
theorem Dn.head {c c' z:α} (m:c'∈ch c) (d:Dn ch c' z):Dn ch c z:=by
 induction d with
 | here=>exact .dn .here m
 | dn _ m2 ih=>exact .dn ih m2
theorem Dn.tree (u:∀ y y' z,z∈ch y->z∈ch y'->y=y') {c c' z:α} (d:Dn ch c z):Dn ch c' z->Dn ch c c'\/Dn ch c' c:=by
 induction d with
 | here=>exact fun d'=>.inr d'
 | dn d m ih=>
  intro d'
  cases d' with
  | here=>exact .inl (.dn d m)
  | dn d2 m2=>
   rw [u _ _ _ m2 m] at d2
   exact ih d2
theorem Dn.sib (S:Gc ch h) (u:∀ y y' z,z∈ch y->z∈ch y'->y=y') {n c c':α} (m:c∈ch n) (m':c'∈ch n) (d:Dn ch c c'):c=c':=by
 cases d with
 | here=>rfl
 | dn d m2=>
  rw [u _ _ _ m2 m'] at d
  have:=d.le S
  have:=S _ _ m
  omega
theorem J7:∀ {k:Nat} {d:Int} {n z:α},z∈(pre ch k d n).map (·.2) -> ∃ c∈ch n,Dn ch c z
 | 0,d,n,z,m=>by cases m
 | k+1,d,n,z,m=>by
  unfold pre at m
  rw [List.map_flatMap] at m
  obtain⟨c,hc,m⟩:=List.mem_flatMap.mp m
  rw [aP] at m
  rcases List.mem_cons.mp m with rfl|m
  ·exact⟨_,hc,.here⟩
  ·obtain⟨c2,hc2,d2⟩:=J7 m
   exact⟨c,hc,.head hc2 d2⟩
theorem Qz (S:Gc ch h) (u:∀ y y' z,z∈ch y->z∈ch y'->y=y') (nd:∀ n,(ch n).Nodup):∀ (k:Nat) (d:Int) (n:α),((pre ch k d n).map (·.2)).Nodup
 | 0,d,n=>f_
 | k+1,d,n=>by
  unfold pre
  rw [List.map_flatMap]
  refine List.pairwise_flatMap.mpr ⟨fun c hc=>?_,?_⟩
  ·rw [aP]
   refine List.nodup_cons.mpr ⟨fun m=>?_,Qz S u nd k _ c⟩
   obtain⟨c2,hc2,d2⟩:=J7 m
   have h1:h c<=h c2:=d2.le S
   have:=S _ _ hc2
   omega
  ·refine List.Pairwise.imp_of_mem ?_ (nd n)
   intro a b ha hb ne x hx y hy e
   subst e
   rw [aP] at hx hy
   have dx:∀ c∈ch n,x∈c::(pre ch k (d+1) c).map (·.2)->Dn ch c x:=fun c hc m=>by
    rcases List.mem_cons.mp m with e|m
    ·rw [e];exact .here
    ·obtain⟨c2,hc2,d2⟩:=J7 m
     exact .head hc2 d2
   rcases (dx a ha hx).tree u (dx b hb hy) with d|d
   ·exact ne (d.sib S u ha hb)
   ·exact ne (d.sib S u hb ha).symm
end
theorem M4 {S:Rs} (nd:(keys S).Nodup) {z:Str} {r:Rc}:get S z=some r ↔ (z,r)∈S:=by
 induction S with
 | nil=>exact⟨fun h=>(by cases h),fun h=>(by cases h)⟩
 | cons p S ih=>
  obtain⟨y,s⟩:=p
  have nd2:y∉keys S/\(keys S).Nodup:=List.nodup_cons.mp nd
  by_cases e:y=z
  ·rw [Bk e]
   subst e
   constructor
   ·intro h;cases h;exact bx
   ·intro h
    rcases List.mem_cons.mp h with h|h
    ·cases h;rfl
    ·exact absurd (bC (f:=(·.1)) h) nd2.1
  ·rw [Bd e,ih nd2.2,aF]
   exact⟨.inr,fun h=>h.resolve_left fun c=>e (by cases c;rfl)⟩
theorem By {f:Str->Bool} {z:Str}:∀ {S:Rs},get (S.filter fun p=>f p.1) z=if f z=true then get S z else none
 | []=>by
  show none=_
  split <;> rfl
 | (y,r)::S=>by
  by_cases e:y=z
  ·subst e
   by_cases c:f y=true
   ·rw [cC (by exact c),Bk rfl,Bk rfl,if_pos c]
   ·rw [cB (by exact c),By,if_neg c,if_neg c]
  ·by_cases c:f y=true
   ·rw [cC (by exact c),Bd e,Bd e,By]
   ·rw [cB (by exact c),Bd e,By]
theorem C4 {f:Str->Bool} (S:Rs):keys (S.filter fun p=>f p.1)=(keys S).filter f:=by
 unfold keys
 rw [List.filter_map]
 rfl
theorem ord_mem {S:Rs} {z:Str}:z∈Gz S ↔ has S z=true:=by
 unfold Gz
 rw [(Am _ _).mem_iff]
 exact mem_keys
theorem ch_mem {S:Rs} {p z:Str}:z∈chS S p ↔ has S z=true/\(Ao S z).pr=p:=by
 unfold chS
 rw [eI,ord_mem,decide_eq_true_iff]
section
variable {S R:Rs} {n:Str}
theorem a70 (T:Tr S):(Gz S).Nodup:=(Am _ _).nodup_iff.mpr T.nd
theorem Yp (T:Tr S) (p:Str):(chS S p).Nodup:=(a70 T).sublist cY
theorem Yq (y y' z:Str) (a:z∈chS S y) (b:z∈chS S y'):y=y':=(ch_mem.mp a).2.symm.trans (ch_mem.mp b).2
theorem Tr.sinks (T:Tr S):∃ h:Str->Nat,Gc (chS S) h /\ ∀ z,h z<12:=by
 obtain⟨h,h1,h2⟩:=T.up
 refine⟨h,fun n c m=>?_,h1⟩
 obtain⟨a,b⟩:=ch_mem.mp m
 have:=h2 c _ (Bz a)
 rw [b] at this
 exact this
theorem Ek {k:Nat} {d:Int} {z:Str} (m:z∈(pre (chS S) k d n).map (·.2)):has S z=true:=by
 obtain⟨c,hc,d⟩:=J7 m
 cases d with
 | here=>exact (ch_mem.mp hc).1
 | dn _ m=>exact (ch_mem.mp m).1
theorem Um (T:Tr S):((D3 S n).map (·.2)).Nodup:=by
 obtain⟨h,h1,_⟩:=T.sinks
 exact Qz h1 Yq (Yp T) _ _ _
theorem Ed {x:List Str}:∀ {l:List Str},l.Nodup->(∀ z∈l,z∈x)->l.length<=x.length:=by
 intro l nd
 induction l generalizing x with
 | nil=>exact fun _=>bo _
 | cons a l ih=>
  intro h
  have nd2:=List.nodup_cons.mp nd
  have ha:=h a bx
  have:=ih nd2.2 (x:=x.erase a) fun z hz=>(kN (show z≠a from fun e=>nd2.1 (e▸hz))).mpr (h z (aJ _ hz))
  rw [jn ha] at this
  have:0<x.length:=List.length_pos_of_mem ha
  rw [aR]
  omega
theorem Ar:(keys S).length=S.length:=by unfold keys;rw [ag]
theorem Eb (T:Tr S):(D3 S n).length<=10:=by
 have:=Ed (Um (n:=n) T) fun z hz=>mem_keys.mpr (Ek hz)
 have:=T.few
 rw [Ar,ag] at *
 omega
theorem P1 (T:Tr S) (x:Str):(chS S x).length<=10:=by
 have h1:=Ed (x:=keys S) (Yp T x) fun z hz=>mem_keys.mpr (ch_mem.mp hz).1
 have:=T.few
 rw [Ar] at h1
 omega
theorem aj1 (T:Tr S):(gone S n).Nodup:=by
 obtain⟨h,h1,_⟩:=T.sinks
 refine List.nodup_cons.mpr ⟨fun m=>?_,Um T⟩
 obtain⟨c,hc,d⟩:=J7 m
 have:=d.le h1
 have:=h1 _ _ hc
 omega
theorem Zf (hn:has S n=true) {z:Str} (m:z∈gone S n):has S z=true:=by
 rcases List.mem_cons.mp m with rfl|m
 ·exact hn
 ·exact Ek m
theorem Tr.filter (T:Tr S) (f:Str->Bool):Tr (S.filter fun p=>f p.1):=by
 obtain⟨h,h1,h2⟩:=T.up
 refine⟨?_,aS (cm _ _) T.few,?_,h,h1,fun z r g=>h2 z r ?_⟩
 ·rw [C4];exact T.nd.sublist cY
 ·rw [C4];exact fun m=>T.ne (List.mem_filter.mp m).1
 ·rw [By] at g
  split at g
  ·exact g
  ·cases g
theorem Like.refl (S:Rs):Like S S:=⟨.refl _,fun _=>rfl⟩
theorem Like.has (L:Like S R) (z:Str):has S z=has R z:=by unfold K23.has;rw [L.2]
theorem Like.rec (L:Like S R):Ao S=Ao R:=funext fun z=>by unfold Ao;rw [L.2]
theorem Like.tr (L:Like S R) (T:Tr R):Tr S:=by
 obtain⟨h,h1,h2⟩:=T.up
 refine⟨L.1.nodup_iff.mpr T.nd,?_,fun m=>T.ne (L.1.mem_iff.mp m),h,h1,fun z r g=>h2 z r (by rw [<- L.2];exact g)⟩
 rw [<- Ar,L.1.length_eq,Ar]
 exact T.few
theorem Like.ch (L:Like S R) (T:Tr R):chS S=chS R:=funext fun p=>by
 unfold chS Gz rkf
 rw [L.rec,Fq L.1 (Fj (L.tr T).nd)]
theorem Like.pre (L:Like S R) (T:Tr R) (n:Str):D3 S n=D3 R n:=by unfold D3;rw [L.ch T]
theorem Like.ln (L:Like S R):lnD S=lnD R:=funext fun w=>by unfold lnD;rw [L.rec]
theorem Like.srt (L:Like S R) (T:Tr R):Ak ltS (keys S)=Ak ltS (keys R):=Fq L.1 (Fk (L.tr T).nd)
theorem Like.filter (L:Like S R) (f:Str->Bool):Like (S.filter fun p=>f p.1) (R.filter fun p=>f p.1):=by
 refine⟨?_,fun z=>by rw [By,By,L.2]⟩
 rw [C4,C4]
 exact L.1.filter _
theorem Like.of (n1:(keys S).Nodup) (n2:(keys R).Nodup) (h:∀ z,get S z=get R z):Like S R:=by
 have hh:∀ z,z∈keys S ↔ z∈keys R:=fun z=>by rw [mem_keys,mem_keys];unfold K23.has;rw [h]
 refine⟨Nd n2 (fun z hz=>(hh z).mpr hz) ?_,h⟩
 exact Nat.le_antisymm (Ed n1 fun z hz=>(hh z).mp hz) (Ed n2 fun z hz=>(hh z).mpr hz)
theorem Sj {f:Str->Int} {zs:List Str} (nd:zs.Nodup) (p:Str->Bool):Ak (ltK f) (zs.filter p)=(Ak (ltK f) zs).filter p:=by
 have nd2:(zs.filter p).Nodup:=nd.sublist cY
 have o:=Fj (kf:=f) nd
 have o2:=Fj (kf:=f) nd2
 refine Fp (o2.of (fun a ha=>(Am _ _).mem_iff.mp ha) ((Am _ _).nodup_iff.mpr nd2)) ((Am _ _).trans ((Am _ _).filter p).symm) (De o2) ((De o).sublist cY)
theorem Yr (T:Tr S) (p:Str):Ak (ltK (rkf S)) ((keys S).filter fun z=>decide ((Ao S z).pr=p))=chS S p:=Sj T.nd _
theorem Fg {z y:Str} {r:Rc}:∀ {S:Rs},get (Cy S z r) y=if z=y then some r else get S y:=by
 intro S
 unfold Cy
 by_cases c:(S.any fun p=>decide (p.1=z))=true
 ·rw [if_pos c]
  have hz:K23.has S z=true:=by rw [<- Fh];exact c
  clear c
  induction S with
  | nil=>cases hz
  | cons p S ih=>
   obtain⟨x,s⟩:=p
   rw [aP]
   by_cases e:x=z
   ·subst e
    rw [if_pos rfl]
    by_cases e2:x=y
    ·rw [Bk e2,if_pos e2]
    ·rw [Bd e2,if_neg e2,Bd e2]
     by_cases hz2:K23.has S x=true
     ·rw [ih hz2,if_neg e2]
     ·have:(S.map fun p=>if p.1=x then (p.1,r) else p)=S:=by
       refine (dH fun p hp=>?_).trans (List.map_id' S)
       rw [if_neg (fun (e:p.1=x)=>hz2 (mem_keys.mp (e▸bC (f:=(·.1)) hp)))]
      rw [this]
   ·rw [if_neg e]
    by_cases e2:x=y
    ·rw [Bk e2,Bk e2,if_neg (fun c=>e (e2.trans c.symm))]
    ·rw [Bd e2,Bd e2]
     refine ih ?_
     unfold K23.has at hz ⊢
     rwa [Bd e] at hz
 ·rw [if_neg c]
  have hz:K23.has S z=false:=by rw [<- Fh];exact Bool.eq_false_iff.mpr c
  clear c
  induction S with
  | nil=>
   by_cases e:z=y
   ·rw [if_pos e];exact Bk e
   ·rw [if_neg e];exact Bd e
  | cons p S ih=>
   obtain⟨x,s⟩:=p
   rw [dM]
   have e:x≠z:=fun c=>by
    unfold K23.has at hz
    rw [Bk c] at hz
    cases hz
   by_cases e2:x=y
   ·rw [Bk e2,Bk e2,if_neg (fun c=>e (e2.trans c.symm))]
   ·rw [Bd e2,Bd e2]
    refine ih ?_
    unfold K23.has at hz ⊢
    rwa [Bd e] at hz
theorem Dj {z:Str} {r:Rc}:keys (Cy S z r)=if K23.has S z=true then keys S else keys S++[z]:=by
 unfold Cy
 rw [Fh]
 split
 ·unfold keys
  rw [cS]
  refine dH fun p hp=>?_
  show (if p.1=z then (p.1,r) else p).1=p.1
  split <;> rfl
 ·unfold keys
  rw [ba]
  rfl
theorem Ng {z:Str} {r:Rc} (nd:(keys S).Nodup):(keys (Cy S z r)).Nodup:=by
 rw [Dj]
 split
 ·exact nd
 ·rename_i c
  refine List.nodup_append.mpr ⟨nd,by simp,fun a ha b hb e=>?_⟩
  rw [List.mem_singleton.mp hb] at e
  exact c (mem_keys.mp (e▸ha))
theorem am6 {z:Str} {r:Rc}:(Cy S z r).length<=S.length+1:=by
 rw [<- Ar,<- Ar,Dj]
 split
 ·omega
 ·rw [aI];exact ae _
end
noncomputable def chz (S:Rs) (zs:List Str) (p:Str):List Str:=zs.filter fun z=>decide ((Ao S z).pr=p)
theorem Fc (S:Rs) (zs:List Str) (z p:Str):chz S (zs++[z]) p=chz S zs p++(if (Ao S z).pr=p then [z] else []):=by
 unfold chz
 rw [c_]
 congr 1
 by_cases h:(Ao S z).pr=p <;> simp [h]
structure UnI (S:Rs) (N:Addr->Prop) (H:Hp) (u:Addr) (zs:List Str) (kvs:List (Key×V)):Prop where
 at_:H u=some (.dK kvs)
 no:∀ p,Bb kvs (.inr p)=none->chz S zs p=[]
 yes:∀ p v,Bb kvs (.inr p)=some v -> ∃ l,v=.ref l/\H l=some (.lst ((chz S zs p).map V.str))/\N l
 inj:∀ p p' v,Bb kvs (.inr p)=some v->Bb kvs (.inr p')=some v->p=p'
 len:kvs.length<=zs.length
section
variable {S:Rs} {N:Addr->Prop} {H:Hp} {u q l:Addr} {zs:List Str} {kvs:List (Key×V)} {z:Str}
theorem UnI.old (h:UnI S N H u zs kvs) (hq:H q=none) (e:Bb kvs (.inr (Ao S z).pr)=some (.ref l)) :
  H l=some (.lst ((chz S zs (Ao S z).pr).map V.str))/\UnI S N (upd (upd H q (.lst [])) l (.lst ((chz S zs (Ao S z).pr).map V.str++[.str z]))) u (zs++[z]) kvs:=by
 obtain⟨l',el,hl,h0⟩:=h.yes _ _ e
 cases el
 have lu:u≠l:=fun c=>by rw [<- c,h.at_] at hl;cases hl
 have qu:u≠q:=fun c=>by rw [<- c,h.at_] at hq;cases hq
 refine⟨hl,by rw [Ah lu,Ah qu];exact h.at_,fun p hp=>?_,fun p v hp=>?_,h.inj,by have:=h.len;rw [aI];omega⟩
 ·rw [Fc,h.no p hp,if_neg (fun c=>by rw [c,hp] at e;cases e)]
  rfl
 ·obtain⟨l2,rfl,hl2,h2⟩:=h.yes p v hp
  refine⟨l2,rfl,?_,h2⟩
  by_cases c:(Ao S z).pr=p
  ·subst c
   rw [hp] at e
   cases e
   rw [Ad,Fc,if_pos rfl,ba]
   rfl
  ·have n1:l2≠l:=fun c2=>by
    rw [c2] at hp
    exact c (h.inj _ _ _ e hp)
   have n2:l2≠q:=fun c2=>by rw [c2,hq] at hl2;cases hl2
   rw [Ah n1,Ah n2,Fc,if_neg c,cO]
   exact hl2
theorem UnI.new (h:UnI S N H u zs kvs) (hq:H q=none) (h0q:N q) (e:Bb kvs (.inr (Ao S z).pr)=none) :
  UnI S N (upd (upd (upd H q (.lst [])) u (.dK (Dp kvs (.inr (Ao S z).pr) (.ref q)))) q (.lst ([]++[.str z]))) u (zs++[z]) (Dp kvs (.inr (Ao S z).pr) (.ref q)):=by
 have qu:u≠q:=fun c=>by have:=h.at_;rw [c,hq] at this;cases this
 have vq:∀ p v,Bb kvs (.inr p)=some v->v≠.ref q:=fun p v hp c=>by
  obtain⟨l2,rfl,hl2,_⟩:=h.yes p v hp
  cases c
  rw [hq] at hl2
  cases hl2
 refine⟨by rw [Ah qu,Ad],fun p hp=>?_,fun p v hp=>?_,fun p p' v hp hp'=>?_,?_⟩
 ·rw [K1] at hp
  split at hp
  ·cases hp
  ·rename_i c
   rw [Fc,h.no p hp,if_neg (fun c2=>c (by rw [c2]))]
   rfl
 ·rw [K1] at hp
  split at hp
  ·rename_i c
   have c:=gw c
   subst c
   cases hp
   refine⟨q,rfl,?_,h0q⟩
   rw [Ad,Fc,h.no _ e,if_pos rfl]
   rfl
  ·rename_i c
   obtain⟨l2,rfl,hl2,h2⟩:=h.yes p v hp
   have n2:l2≠q:=fun c2=>by rw [c2,hq] at hl2;cases hl2
   have n3:l2≠u:=fun c2=>by rw [c2,h.at_] at hl2;cases hl2
   refine⟨l2,rfl,?_,h2⟩
   rw [Ah n2,Ah n3,Ah n2,Fc,if_neg (fun c2=>c (by rw [c2])),cO]
   exact hl2
 ·rw [K1] at hp hp'
  split at hp
  ·rename_i c
   split at hp'
   ·rename_i c'
    exact (gw c).trans (gw c').symm
   ·exact absurd (aU hp).symm (vq p' v hp')
  ·split at hp'
   ·exact absurd (aU hp').symm (vq p v hp)
   ·exact h.inj p p' v hp hp'
 ·have:=C5 kvs (.inr (Ao S z).pr) (.ref q)
  have:=h.len
  rw [aI,cq]
  omega
end
section
variable {P:aK} {w:bt} {K:aa} {mg:Str->Option Value} {base:Heap} {t:Adr}
theorem bm0 {f:Addr} {fd:aH} (Z:Aw K t) (F:FunD K "all_unders" "Plain.all_unders" Re f fd .none) (T:Tab P w K mg base 7 (Vy K t) bl):FnOk P w K mg base CX0 8 f fd Xu (av3 K t):=by
 refine F.okW0 bt6 by5 T (br0 K t) (fun vs H Q E h=>?_) (fun vs H Q E h=>?_)
 ·obtain⟨p,d,S,rfl,_⟩:=h;rfl
 ·obtain⟨p,d,S,rfl,hP,T,k⟩:=h
  refine fun u hu=>.inl ?_
  have S1:=Same.upd (o:=.dK []) hu
  have e1:upd H u (.dK []) u=some (.dK []):=Ad
  generalize upd H u (.dK [])=H1 at S1 e1 ⊢
  have hP1:=hP.up S1
  obtain⟨⟨dx,e⟩,kvs0,ed,g⟩:=id hP1
  have l8:(keys S).length<=10:=by rw [Ar];exact T.few
  refine kX ⟨_,_,_,.ref d,e,Z.pl,Z.plr,rfl,⟨d,p,dx,_,⟨t.c_zaq,Zk K t⟩,keys S,rkf S,rfl,.inr ⟨kvs0,ed,g.keys⟩,T.nd,by omega,rfl,.head _,e,rfl,
   (fun z hz H3 S3=>⟨p,d,S,z,rfl,hP1.up S3,mem_keys.mp hz,fun q hq=>⟨q,rfl,Same.upd hq,Ad⟩⟩),fun H3 D S3 hD eD=>.inl ⟨⟨_,SqL.of eD⟩,?_⟩⟩⟩
  have hD0:H D=none:=by
   cases c:H D with
   | none=>rfl
   | some o=>rw [S1 _ _ c] at hD;cases hD
  have uD:D≠u:=fun c=>by rw [c,e1] at hD;cases hD
  have lo:(Gz S).length=(keys S).length:=(Am _ _).length_eq
  refine C7 (Cj ((Gz S).map V.str)) (fun i σ H'=>(∃ v,σ=[some (.ref p),some (.ref u),v])/\Same H H'/\H' D=some (.lst ((Gz S).map V.str)) /\ ∃ kvs,UnI S (fun l=>H l=none/\l≠D) H' u ((Gz S).take i) kvs)
   ⟨⟨_,rfl⟩,S1.trans S3,eD,[],S3 _ _ e1,(fun _ _=>rfl),(fun p v hp=>by cases hp),(fun p p' v hp=>by cases hp),bo _⟩ (fun i σ' H' _ h=>SqL.of h.2.2.1) ?_ ?_
  ·rintro i x σ H4 hx ⟨⟨v,rfl⟩,S4,eD4,kvs,U⟩
   rw [aA] at hx
   obtain⟨z,hz,rfl⟩:=Option.map_eq_some_iff.mp hx
   have hi:i<(Gz S).length:=(List.getElem?_eq_some_iff.mp hz).1
   have hh:=ord_mem.mp (aY hz)
   have hP4:=hP.up S4
   obtain⟨dx4,e4⟩:=hP4.1
   have tk:(Gz S).take (i+1)=(Gz S).take i++[z]:=by rw [bP,hz];rfl
   have kl:kvs.length<1000:=by have:=U.len;rw [a_] at this;omega
   refine⟨.inr (.inr (.inl ⟨rfl,.inl ⟨kvs,U.at_⟩⟩)),⟨p,dx4,_,⟨t.c_zaq,Qi K t⟩,rfl,.head _,e4,rfl,⟨ae _,ae _⟩,⟨p,d,S,z,rfl,hP4,(fun r hr y _ _=>?_),fun c=>ab hh c⟩⟩⟩
   obtain rfl:=Hz hr
   refine⟨(show 0<=sizeLine by decide),fun q hq=>?_⟩
   have S5:=Same.upd (o:=.lst []) hq
   refine .inr ⟨u,.inr (Ao S z).pr,.ref q,kvs,rfl,rfl,S5 _ _ U.at_,i5 kl (by decide),?_⟩
   have hq0:H q=none:=by
    cases c:H q with
    | none=>rfl
    | some o=>rw [S4 _ _ c] at hq;cases hq
   have hq3:H q=none/\q≠D:=⟨hq0,fun c=>by rw [c,eD4] at hq;cases hq⟩
   cases ev:Bb kvs (.inr (Ao S z).pr) with
   | some v=>
    obtain⟨l,rfl,hl,h0⟩:=U.yes _ _ ev
    obtain⟨hl,U2⟩:=U.old (z:=z) hq ev
    refine⟨.inl ⟨rfl,_,SqL.of (S5 _ _ hl)⟩,l,_,_,rfl,rfl,S5 _ _ hl,?_,⟨⟨_,rfl⟩,(S4.trans S5).set h0.1,?_,kvs,by rw [tk];exact U2⟩⟩
    ·rw [ag]
     have:(chz S ((Gz S).take i) (Ao S z).pr).length<=((Gz S).take i).length:=cm _ _
     rw [a_] at this
     exact b6 (show _<=10 by omega) (by decide)
    ·rw [Ah (bO h0.2)]
     exact S5 _ _ eD4
   | none=>
    have U2:=U.new (z:=z) hq hq3 ev
    have hu0:H u=none:=hu
    have qu:q≠u:=fun c=>by have:=U.at_;rw [<- c,hq] at this;cases this
    refine⟨.inl ⟨rfl,[],SqL.of ?_⟩,q,[],_,rfl,rfl,?_,by decide,⟨⟨_,rfl⟩,((S4.trans S5).set hu0).set hq0,?_,_,by rw [tk];exact U2⟩⟩
    ·rw [Ah qu,Ad]
    ·rw [Ah qu,Ad]
    ·rw [Ah (bO hq3.2),Ah uD,Ah (bO hq3.2)]
     exact eD4
  ·rintro σ H4 ⟨⟨v,rfl⟩,S4,eD4,kvs,U⟩
   rw [ag,bV] at U
   refine .inl (k H4 u S4 ⟨kvs,U.at_,fun p=>?_⟩)
   split
   ·rename_i c;exact U.no p c
   ·rename_i v' c
    obtain⟨l,e1,e2,_⟩:=U.yes p v' c
    exact⟨l,e1,e2⟩
end
section
variable {K:aa} {H H':Hp}
theorem a22 {J:It} {its:List V} {ok:Hp->Prop} {te:DE} {σ:St} {H:Hp} {L:Addr} {R:Hp->Prop} {E:EK} (Y:Fw J its ok) (Sg:St->Prop) (Pr:Nat->V->Hp->Prop) (hL:H L=none) (hok:∀ H1,Same H H1->ok H1) (hn:its.length<sizeLine) (hσ:Sg σ) (hS:∀ σ x,Sg σ->Sg (σ.set 0 (some x)))
  (mono:∀ i v H1 H2,TKeep K H1 H2->Pr i v H1->Pr i v H2)
  (he:∀ (i:Nat) x σ H1 Q1,its[i]? = some x->Sg σ->Same H H1->(∀ v H2,Same H1 H2->Pr i v H2->Q1 v H2)->te (σ.set 0 (some x)) H1 Q1 E)
  (hd:∀ H' ys,Same H H'->H' L=some (.lst ys)->ys.length=its.length->(∀ (i:Nat) (v:V),ys[i]? = some v->Pr i v H')->R H'):ah2 J (gdN 0) Hf te L R σ (upd H L (.lst [])) E:=by
 refine Eh Y (fun i σ' H'=>Sg σ'/\Same H H' /\ ∃ ys,H' L=some (.lst ys)/\ys.length=i /\ ∀ (j:Nat) (v:V),ys[j]? = some v->Pr j v H') ⟨hσ,Same.upd hL,[],Ad,rfl,fun j v e=>by simp at e⟩ (fun i σ' H' _ q=>hok H' q.2.1) ?_ ?_
 ·rintro i x σ' H' hx ⟨q1,q2,ys,q3,q4,q5⟩
  have hi:i<its.length:=(List.getElem?_eq_some_iff.mp hx).1
  refine he i x σ' H' _ hx q1 q2 fun v H2 S2 hp=>⟨ys,S2 _ _ q3,by omega,hS _ _ q1,(q2.trans S2).set hL,ys++[v],Ad,by rw [aI,q4];rfl,fun j u hu=>?_⟩
  have kp:TKeep K H2 (upd H2 L (.lst (ys++[v]))):=TKeep.lst (S2 _ _ q3)
  by_cases hj:j<ys.length
  ·rw [dW hj] at hu
   exact mono _ _ _ _ kp (mono _ _ _ _ (TKeep.of S2) (q5 j u hu))
  ·rw [cU (by omega)] at hu
   have hj0:j - ys.length=0:=by
    rcases Nat.eq_zero_or_pos (j - ys.length) with h|h
    ·exact h
    ·rw [fP (by simp;omega)] at hu;cases hu
   rw [hj0] at hu
   cases hu
   have:j=i:=by omega
   subst this
   exact mono _ _ _ _ kp hp
 ·rintro σ' H' ⟨_,q2,ys,q3,q4,q5⟩
  exact hd H' ys q2 q3 q4 q5
theorem PrAt.keep (T:TKeep K H H'):∀ {ws:List (Int×Str)} {ys:List V},PrAt K H ws ys->PrAt K H' ws ys
 | [],_,h=>h
 | w::ws,ys,h=>by
  obtain⟨q,rest,e,h1,h2⟩:=h
  exact⟨q,rest,e,T _ _ h1,h2.keep T⟩
theorem PrAt.app:∀ {ws ws':List (Int×Str)} {ys ys':List V},PrAt K H ws ys->PrAt K H ws' ys'->PrAt K H (ws++ws') (ys++ys')
 | [],_,ys,_,h,g=>by rw [show ys=[] from h];exact g
 | w::ws,_,ys,_,h,g=>by
  obtain⟨q,rest,rfl,h1,h2⟩:=h
  exact⟨q,_,rfl,h1,h2.app g⟩
theorem PrAt.split:∀ {ws:List (Int×Str)} {x:Int×Str} {ys:List V},PrAt K H (ws++[x]) ys -> ∃ ys' q,ys=ys'++[.ref q]/\PrAt K H ws ys'/\SqT K H q [.int x.1,.str x.2]
 | [],x,ys,h=>by
  obtain⟨q,rest,rfl,h1,h2⟩:=h
  rw [show rest=[] from h2]
  exact⟨[],q,rfl,rfl,h1⟩
 | w::ws,x,ys,h=>by
  obtain⟨q,rest,rfl,h1,h2⟩:=h
  obtain⟨ys',q',rfl,h3,h4⟩:=PrAt.split h2
  exact⟨.ref q::ys',q',rfl,⟨q,ys',rfl,h1,h3⟩,h4⟩
theorem PrAt.length:∀ {ws:List (Int×Str)} {ys:List V},PrAt K H ws ys->ys.length=ws.length
 | [],ys,h=>by rw [show ys=[] from h];rfl
 | w::ws,ys,h=>by
  obtain⟨q,rest,rfl,_,h2⟩:=h
  rw [aR,aR,h2.length]
theorem PrAt.tree:∀ {ws:List (Int×Str)} {ys:List V},PrAt K H ws ys->AtL K H (ws.map fun w=>.tup [.at_ (.int w.1),A1 w.2]) ys
 | [],ys,h=>by rw [show ys=[] from h];exact Bp
 | w::ws,ys,h=>by
  obtain⟨q,rest,rfl,h1,h2⟩:=h
  exact Au (Je h1 (Au (Fb rfl) (Au Bw Bp))) h2.tree
theorem Tu:∀ ws:List (Int×Str),Bv (ws.map fun w=>Dt.tup [.at_ (.int w.1),A1 w.2])<=1
 | []=>by simp [Bv]
 | w::ws=>by
  rw [aP]
  unfold Bv
  refine Nat.max_le.mpr ⟨?_,Tu ws⟩
  unfold A1
  simp [dep,Bv]
theorem bp4 {ws:List (Int×Str)} {ys:List V} {a b:Addr} {Q:VK} (h:PrAt K H ws ys) (ea:H a=some (.lst ys)) (eb:H b=some (.lst [])) (k:Q (.bl (!ws.isEmpty)) H):Be K true (.ref a) (.ref b) H Q:=by
 refine .inr (.inl ⟨.lst (ws.map fun w=>.tup [.at_ (.int w.1),A1 w.2]),.lst [],Mt (SqL.of ea) h.tree,Mt (SqL.of eb) Bp,?_,?_⟩)
 ·have:=Tu ws
  unfold dep
  omega
 ·have e:deq (.lst (ws.map fun w=>Dt.tup [.at_ (.int w.1),A1 w.2])) (.lst [])=ws.isEmpty:=by
   cases ws <;> simp [deq,Ei]
  rw [e]
  exact k
theorem UnAt.up {u:Addr} {S:Rs} (h:UnAt H u S) (T:Same H H'):UnAt H' u S:=by
 obtain⟨kvs,e,g⟩:=h
 refine⟨kvs,T _ _ e,fun p=>?_⟩
 have:=g p
 split at this
 ·exact this
 ·obtain⟨l,e1,e2⟩:=this
  exact⟨l,e1,T _ _ e2⟩
theorem UnAt.get {u:Addr} {S:Rs} (h:UnAt H u S) (p:Str) {q:Addr} (hq:H q=some (.lst [])):∃ o l,Er H u (.str p) o/\o.getD (.ref q)=.ref l/\H l=some (.lst ((chS S p).map V.str)):=by
 obtain⟨kvs,e,g⟩:=h
 have:=g p
 split at this
 ·rename_i ev
  refine⟨none,q,.inl ⟨kvs,.inr p,.inl e,rfl,ev.symm⟩,rfl,?_⟩
  rw [this]
  exact hq
 ·rename_i v ev
  obtain⟨l,rfl,hl⟩:=this
  exact⟨some (.ref l),l,.inl ⟨kvs,.inr p,.inl e,rfl,ev.symm⟩,rfl,hl⟩
theorem bi1 {a:Addr} (xs:List V):Fw (Nx K a xs.length) xs.reverse (fun H=>SqL K H a xs):=by
 refine⟨fun i H q h=>⟨by rw [b8] at h;exact h,xs,q,rfl⟩,fun H q=>by show xs.length<=xs.reverse.length;rw [b8];exact ae _,fun i H x H' q hi h=>?_⟩
 obtain⟨h1,h2⟩:=h
 rw [b8] at hi
 refine⟨h1,?_⟩
 rw [kg hi]
 exact h2 xs q
theorem au5 {c:Int}:∀ {zs:List Str} {ys:List V},ys.length=zs.length->(∀ (i:Nat) v,ys[i]? = some v -> ∀ z,zs[i]? = some z -> ∃ q,v=.ref q/\SqT K H q [.int c,.str z])->PrAt K H (zs.map fun z=>(c,z)) ys
 | [],[],_,_=>rfl
 | [],_::_,h,_=>by simp at h
 | _::_,[],h,_=>by simp at h
 | z::zs,y::ys,h,g=>by
  obtain⟨q,rfl,hq⟩:=g 0 y rfl z rfl
  exact⟨q,ys,rfl,hq,au5 (by simpa using h) fun i v h1 z h2=>g (i+1) v h1 z h2⟩
theorem Ys {zs:List Str} {a L:Addr} {c:Int} {te:DE} {σ:St} {R:Hp->Prop} {E:EK} (Sg:St->Prop) (hL:H L=none) (ha:H a=some (.lst (zs.map V.str))) (hz:zs.length<=10) (hσ:Sg σ) (hS:∀ σ x,Sg σ->Sg (σ.set 0 (some x)))
  (he:∀ (z:Str) σ H1 (Q1:VK),Sg σ->Same H H1->(∀ q,H1 q=none->Q1 (.ref q) (upd H1 q (.tup [.int c,.str z])))->te (σ.set 0 (some (.str z))) H1 Q1 E)
  (hd:∀ H' ys,Same H H'->H' L=some (.lst ys)->PrAt K H' (zs.reverse.map fun z=>(c,z)) ys->R H'):ah2 (Nx K a (zs.map V.str).length) (gdN 0) Hf te L R σ (upd H L (.lst [])) E:=by
 refine a22 (K:=K) (bi1 (zs.map V.str)) Sg (fun (i:Nat) v H=>∀ z,zs.reverse[i]? = some z -> ∃ q,v=.ref q/\SqT K H q [.int c,.str z]) hL (fun H1 S=>SqL.of (S _ _ ha)) ?_ hσ hS (fun i v H1 H2 T h z hz=>by
  obtain⟨q,e,hq⟩:=h z hz
  exact⟨q,e,T _ _ hq⟩) ?_ ?_
 ·rw [b8,ag]
  exact b6 hz (by decide)
 ·intro i x σ H1 Q1 hx hg S hk
  rw [<- ii,aA] at hx
  obtain⟨z,ez,rfl⟩:=Option.map_eq_some_iff.mp hx
  exact he z σ H1 Q1 hg S fun q hq=>hk _ _ (Same.upd hq) fun z' ez'=>by
   rw [ez] at ez'
   cases ez'
   exact⟨q,rfl,SqT.of Ad⟩
 ·intro H' ys S e hl hp
  refine hd H' ys S e (au5 ?_ hp)
  rw [hl,b8,ag,b8]
end
section
variable {P:aK} {w:bt} {K:aa} {mg:Str->Option Value} {base:Heap} {t:Adr}
structure WkI (K:aa) (S:Rs) (n:Str) (H1:Hp) (f wt:Addr) (fs ws:List (Int×Str)) (yf yw:List V) (H:Hp):Prop where
 sm:Same H1 H
 hf:H f=some (.lst yf)
 pf:PrAt K H fs yf
 hw:H wt=some (.lst yw)
 pw:PrAt K H ws yw
 df:fs++due (chS S) 12 ws=D3 S n
theorem none_of {H H':Hp} {a:Addr} (S:Same H H') (h:H' a=none):H a=none:=S.free h
theorem ai4 {S:Rs} (ws:List (Int×Str)):ws.length<=(due (chS S) 12 ws).length:=by
 unfold due
 rw [<- b8]
 generalize ws.reverse=us
 induction us with
 | nil=>exact bo _
 | cons u us ih=>
  rw [jm,aI,aR,aR]
  omega
theorem WkI.len {S:Rs} {n:Str} {H1 H:Hp} {f wt:Addr} {fs ws:List (Int×Str)} {yf yw:List V} (I:WkI K S n H1 f wt fs ws yf yw H) (T:Tr S):fs.length+ws.length<=10:=by
 have h1:=congrArg gr I.df
 rw [aI] at h1
 have:=ai4 (S:=S) ws
 have:=Eb (n:=n) T
 omega
theorem bo1 {f:Addr} {fd:aH} (Z:Aw K t) (F:FunD K "walk" "Plain.walk" R1 f fd .none) (T:Tab P w K mg base 8 (ai8 K t) bl):FnOk P w K mg base CX0 9 f fd Yh (ax1 K t):=by
 refine F.okW0 bv9 b08 T (bt3 K t) (fun vs H Q E h=>?_) (fun vs H Q E h=>?_)
 ·obtain⟨p,d,S,n,rfl,_⟩:=h;rfl
 ·obtain⟨p,d,S,n,rfl,hP,T,k⟩:=h
  obtain⟨dx,e⟩:=hP.1
  obtain⟨hh,sk,hk⟩:=T.sinks
  refine⟨p,dx,_,⟨t.c_zaq,a31 K t⟩,rfl,.head _,e,rfl,⟨ae _,ae _⟩,⟨p,d,S,rfl,hP,T,fun H1 u S1 hU=>?_⟩⟩
  refine⟨(show 0<=sizeLine by decide),fun f hf=>?_⟩
  have S2:=Same.upd (o:=.lst []) hf
  have ef:upd H1 f (.lst []) f=some (.lst []):=Ad
  generalize upd H1 f (.lst [])=H2 at S2 ef ⊢
  obtain⟨kvs,eu,_⟩:=id (hU.up S2)
  refine⟨.inr (.inr (.inl ⟨rfl,.inl ⟨kvs,eu⟩⟩)),⟨(show 0<=sizeLine by decide),fun q hq=>?_⟩⟩
  have S3:=Same.upd (o:=.lst []) hq
  have eq:upd H2 q (.lst []) q=some (.lst []):=Ad
  generalize upd H2 q (.lst [])=H3 at S3 eq ⊢
  obtain⟨o,l,h1,h2,h3⟩:=((hU.up S2).up S3).get n eq
  refine⟨o,h1,?_⟩
  rw [h2]
  refine⟨_,SqL.of h3,fun L hL=>?_⟩
  have fL:f≠L:=fun c=>by rw [<- c,S3 _ _ ef] at hL;cases hL
  have hL1:=none_of (S2.trans S3) hL
  refine Ys (c:=1) (fun σ=>σ.length=1) hL h3 (P1 T n) rfl (fun σ x hσ=>by rw [kh];exact hσ) ?_ ?_
  ·intro z σ H4 Q1 hσ S4 hk
   obtain⟨v,rfl⟩:∃ v,σ=[v]:=by
    match σ,hσ with
    | [v],_=>exact⟨v,rfl⟩
   exact⟨(show 2<=sizeLine by decide),fun q hq=>hk q hq⟩
  ·intro H4 ys S4 eL hp
   have I0:WkI K S n H1 f L [] ((chS S n).reverse.map fun z=>((1:Int),z)) [] ys H4:=⟨(S2.trans S3).trans S4,S4 _ _ (S3 _ _ ef),rfl,eL,hp,Vu sk hk⟩
   refine⟨fun m σ H'=>∃ fs ws yf yw v,m=10 - fs.length/\σ=[some (.ref p),some (.str n),some (.ref u),some (.ref f),some (.ref L),v]/\WkI K S n H1 f L fs ws yf yw H',⟨_,_,_,_,_,_,rfl,rfl,I0⟩,?_⟩
   clear I0 S4 eL hp hL S3 eq h1 h2 h3 S2 ef
   rintro m σ H5 ⟨fs,ws,yf,yw,v,rfl,rfl,I⟩
   have hl:=I.len T
   refine⟨(show 0<=sizeLine by decide),fun q hq=>?_⟩
   have S6:=Same.upd (o:=.lst []) hq
   have eq:upd H5 q (.lst []) q=some (.lst []):=Ad
   generalize upd H5 q (.lst [])=H6 at S6 eq ⊢
   have I:WkI K S n H1 f L fs ws yf yw H6:=⟨I.sm.trans S6,S6 _ _ I.hf,I.pf.keep (TKeep.of S6),S6 _ _ I.hw,I.pw.keep (TKeep.of S6),I.df⟩
   refine bp4 I.pw I.hw eq ?_
   rcases List.eq_nil_or_concat ws with rfl|⟨ws',x,rfl⟩
   ·have d0:=I.df
    rw [ai5,cO] at d0
    exact k H6 f yf (S1.trans I.sm) (d0▸I.pf) I.hf
   ·rw [List.concat_eq_append] at I hl ⊢
    have ne:(!(ws'++[x]).isEmpty)=true:=by cases ws' <;> rfl
    rw [ne]
    obtain⟨yw',q',rfl,pw',hq'⟩:=I.pw.split
    have l1:=I.pf.length
    have l2:=pw'.length
    rw [aI,cq] at hl
    refine⟨fun σ H'=>∃ fs2 ws2 yf2 yw2 v2,fs2.length=fs.length+1/\σ=[some (.ref p),some (.str n),some (.ref u),some (.ref f),some (.ref L),v2]/\WkI K S n H1 f L fs2 ws2 yf2 yw2 H',?_,?_⟩
    ·rintro σ' H' ⟨fs2,ws2,yf2,yw2,v2,e1,e2,e3⟩
     exact⟨10 - fs2.length,by omega,fs2,ws2,yf2,yw2,v2,rfl,e2,e3⟩
    ·refine .inl ⟨.inl ⟨rfl,_,SqL.of I.hw⟩,.inl ⟨L,_,_,rfl,rfl,I.hw,by rw [aI,cq,Nat.add_sub_cancel];exact List.getElem?_concat_length,?_⟩⟩
     rw [List.dropLast_concat]
     have k7:TKeep K H6 (upd H6 L (.lst yw')):=TKeep.lst I.hw
     have s7:Same H1 (upd H6 L (.lst yw')):=I.sm.set hL1
     have f7:upd H6 L (.lst yw') f=some (.lst yf):=by rw [Ah fL];exact I.hf
     have e7:upd H6 L (.lst yw') L=some (.lst yw'):=Ad
     generalize upd H6 L (.lst yw')=H7 at k7 s7 f7 e7 ⊢
     refine⟨.inl ⟨rfl,_,SqL.of f7⟩,f,_,_,rfl,rfl,f7,b6 (show yf.length<=10 by omega) (by decide),?_⟩
     have k8:TKeep K H7 (upd H7 f (.lst (yf++[.ref q']))):=TKeep.lst f7
     have s8:Same H1 (upd H7 f (.lst (yf++[.ref q']))):=s7.set hf
     have f8:upd H7 f (.lst (yf++[.ref q'])) f=some (.lst (yf++[.ref q'])):=Ad
     have e8:upd H7 f (.lst (yf++[.ref q'])) L=some (.lst yw'):=by rw [Ah (bO fL)];exact e7
     generalize upd H7 f (.lst (yf++[.ref q']))=H8 at k8 s8 f8 e8 ⊢
     have k8:=k7.trans k8
     obtain⟨kvs,eu,_⟩:=id (hU.up s8)
     have t8:=k8 _ _ hq'
     refine⟨.inl ⟨rfl,_,SqL.of e8⟩,⟨.inr (.inr (.inl ⟨rfl,.inl ⟨kvs,eu⟩⟩)),⟨_,_,.inr t8,rfl,⟨(show 0<=sizeLine by decide),fun q2 hq2=>?_⟩⟩⟩⟩
     have S9:=Same.upd (o:=.lst []) hq2
     have e9:upd H8 q2 (.lst []) q2=some (.lst []):=Ad
     generalize upd H8 q2 (.lst [])=H9 at S9 e9 ⊢
     obtain⟨o2,l2',g1,g2,g3⟩:=((hU.up s8).up S9).get x.2 e9
     refine⟨o2,g1,?_⟩
     rw [g2]
     refine⟨_,SqL.of g3,fun L2 hL2=>?_⟩
     refine Ys (c:=x.1+1) (fun σ=>∃ v,σ=[v,some (.ref q')]) hL2 g3 (P1 T x.2) ⟨none,rfl⟩ (fun σ y hσ=>by obtain⟨v,rfl⟩:=hσ;exact⟨_,rfl⟩) ?_ ?_
     ·rintro z σ H10 Q1 ⟨v,rfl⟩ S10 hk
      exact⟨_,_,.inr ((S9.trans S10).seqT t8),rfl,(show 2<=sizeLine by decide),fun q hq=>hk q hq⟩
     ·intro H10 zs S10 eL2 hp
      have S10:=S9.trans S10
      have e10:=S10 _ _ e8
      have l3:=hp.length
      rw [ag,b8] at l3
      have l4:=P1 T x.2
      refine⟨L,L2,_,_,rfl,rfl,e10,eL2,aS (show yw'.length+zs.length<=20 by omega) (by decide),?_⟩
      have k10:=(k8.trans (TKeep.of S10)).trans (TKeep.lst (zs:=yw'++zs) e10)
      refine⟨fs++[x],ws'++((chS S x.2).reverse.map fun z=>(x.1+1,z)),_,_,_,by rw [aI,cq],rfl,(s8.trans S10).set hL1,by rw [Ah fL];exact S10 _ _ f8,(I.pf.keep k10).app ⟨q',[],rfl,k10 _ _ hq',rfl⟩,Ad,(pw'.keep k10).app (hp.keep (TKeep.lst e10)),?_⟩
      rw [<- I.df]
      exact Y1 sk hk
theorem PrAt.ix {H:Hp}:∀ {ws:List (Int×Str)} {ys:List V},PrAt K H ws ys -> ∀ {i:Nat} {x:V},ys[i]? = some x -> ∃ p q,ws[i]? = some p/\x=.ref q/\SqT K H q [.int p.1,.str p.2]
 | [],ys,h,i,x,e=>by rw [show ys=[] from h] at e;cases e
 | w::ws,ys,h,i,x,e=>by
  obtain⟨q,rest,rfl,h1,h2⟩:=h
  cases i with
  | zero=>cases e;exact⟨w,q,rfl,rfl,h1⟩
  | succ i=>exact h2.ix e
theorem bm4 {f:Addr} {fd:aH} (Z:Aw K t) (F:FunD K "beneath" "Plain.beneath" Rj f fd .none) (T:Tab P w K mg base 9 (Vz K t) bl):FnOk P w K mg base (CXE P w) 10 f fd X0 (av9 K t):=by
 refine F.okWX bu2 bz1 T (br6 K t) (fun vs H Q E h=>?_) (fun vs H Q E h=>?_)
 ·obtain⟨p,d,S,n,rfl,_⟩:=h;rfl
 ·obtain⟨p,d,S,n,rfl,hP,T,k1,k2⟩:=h
  obtain⟨dx,e⟩:=hP.1
  refine⟨p,dx,_,⟨t.c_zaq,aj4 K t⟩,rfl,.head _,e,rfl,⟨ae _,ae _⟩,⟨p,d,S,n,rfl,hP,(fun hn=>?_),fun c1 c2=>(k2 c1 c2).call⟩⟩
  have k:=k1 hn
  refine⟨p,dx,_,⟨t.c_zaq,aj7 K t⟩,rfl,.head _,e,rfl,⟨ae _,ae _⟩,⟨p,d,S,n,rfl,hP,T,fun H1 a ys S1 hp ea=>.inl ⟨⟨_,SqL.of ea⟩,fun L hL=>?_⟩⟩⟩
  have lb:=Eb (n:=n) T
  have ll:=hp.length
  generalize D3 S n=ws at k lb ll hp
  have aL:a≠L:=fun c=>by rw [<- c,ea] at hL;cases hL
  refine Eh (Cj ys) (fun i σ H'=>σ.length=2/\Same H1 H'/\H' L=some (.lst (((ws.take i).map (·.2)).map V.str))) ⟨rfl,Same.upd hL,Ad⟩ (fun i σ H' _ h=>SqL.of (h.2.1 _ _ ea)) ?_ ?_
  ·rintro i x σ H2 hx ⟨hσ,S2,eL⟩
   obtain⟨⟨c,z⟩,q,hi,rfl,hq⟩:=hp.ix hx
   obtain⟨u,v,rfl⟩:∃ u v,σ=[u,v]:=by
    match σ,hσ with
    | [u,v],_=>exact⟨u,v,rfl⟩
   have hi':i<ws.length:=(List.getElem?_eq_some_iff.mp hi).1
   refine⟨_,S2.seqT hq,rfl,_,eL,?_,rfl,S2.set hL,?_⟩
   ·rw [ag,ag,a_]
    exact b6 (show _<=10 by omega) (by decide)
   ·rw [Ad,bP,hi,ba,ba]
    rfl
  ·rintro σ H2 ⟨_,S2,eL⟩
   rw [ll,bV] at eL
   exact k H2 L (S1.trans S2) (S1.free hL) eL
end
theorem Iw:∀ {l:List Str} {i:Nat} {z:Str},l.Nodup->l[i]? = some z->z∉l.take i
 | [],i,z,_,e,_=>by simp at e
 | a::l,0,z,_,_,h=>by cases h
 | a::l,i+1,z,nd,e,h=>by
  obtain⟨h1,h2⟩:=List.nodup_cons.mp nd
  rw [bD] at e
  rw [List.take_succ_cons] at h
  rcases List.mem_cons.mp h with rfl|h
  ·exact h1 (aY e)
  ·exact Iw h2 e h
theorem ah1 {p:Addr} {o:Obj} (kvs:List (Key×V)):Fw (Itd p o kvs) (kvs.map fun kv=>kV kv.1) (fun H=>H p=some (.frz o (.dK kvs))):=by
 refine⟨fun i H q h=>⟨q,by rw [ag] at h;exact h⟩,fun H q=>⟨q,by rw [ag];exact ae _⟩,fun i H x H' q _ h=>?_⟩
 obtain⟨h1,k,v,h2,h3⟩:=h
 refine⟨h1,?_⟩
 rw [aA,h2,h3]
 rfl
section
variable {P:aK} {w:bt} {K:aa} {mg:Str->Option Value} {base:Heap} {t:Adr}
theorem KvAt.names {H:Hp} {S:Rs} {kvs:List (Key×V)} (g:KvAt K H S kvs):(kvs.map fun kv=>kV kv.1)=(K23.keys S).map V.str:=by
 have:=congrArg (iA kV) g.keys
 rw [cS,cS] at this
 exact this
theorem au3 {H:Hp} {d:Addr} {S:Rs} {R:Obj->List (Key×V)->Hp->Prop} (h:RdAt K H d S) (k:∀ o kvs H2,Sm H H2->H2 d=some (.frz o (.dK kvs))->KvAt K H2 S kvs->R o kvs H2):onD d H R:=by
 obtain⟨kvs,e|⟨o,e⟩,g⟩:=h
 ·exact .inl ⟨kvs,e,fun o=>k o kvs _ (Sm.frz e) Ad (g.keep (Sm.frz e).tk)⟩
 ·exact .inr ⟨o,kvs,e,k o kvs H Sm.refl e g⟩
theorem Vt {H:Hp} {S:Rs} {l:List Str} {i:Nat} {z:Str} {kvs:List (Key×V)} (g:KvAt K H (S.filter fun r=>decide (r.1∉l.take i)) kvs) (nd:l.Nodup) (hz:l[i]? = some z) (hs:has S z=true) :
  (∃ q,Bb kvs (.inr z)=some q)/\KvAt K H (S.filter fun r=>decide (r.1∉l.take (i+1))) (Jn kvs (.inr z)):=by
 have zt:=Iw nd hz
 have gz:get (S.filter fun r=>decide (r.1∉l.take i)) z=some (Ao S z):=by
  rw [By (f:=fun y=>decide (y∉l.take i)),if_pos (by simpa using zt)]
  exact Bz hs
 obtain⟨q,ev,_⟩:=g.some gz
 refine⟨⟨q,ev⟩,?_⟩
 have:=g.filter (f:=fun y=>decide (y≠z)) (g:=fun y=>decide (y≠.inr z)) fun y=>decide_eq_decide.mpr (not_congr ⟨fun h=>gw h,fun h=>by rw [h]⟩)
 rw [List.filter_filter] at this
 rw [bP,hz]
 refine Eq.mp (congrArg (fun S=>KvAt K _ S _) (List.filter_congr fun p _=>?_)) this
 simp [and_comm,not_or]
theorem bn8 {f:Addr} {fd:aH} (Z:Aw K t) (F:FunD K "drop" "Plain.drop" Ry f fd .none) (T:Tab P w K mg base 10 (Lx K t) bl):FnOk P w K mg base (CXE P w) 11 f fd Ye (aw8 K t):=by
 refine F.okWX bv6 b05 T (bt0 K t) (fun vs H Q E h=>?_) (fun vs H Q E h=>?_)
 ·obtain⟨p,d,S,n,rfl,_⟩:=h;rfl
 ·obtain⟨p,d,S,n,rfl,hP,T,k1,k2⟩:=h
  obtain⟨dx,e⟩:=id hP.1
  refine⟨p,dx,_,⟨t.c_zaq,Il K t⟩,rfl,.head _,e,rfl,⟨ae _,ae _⟩,⟨p,d,S,n,rfl,hP,(fun r hr x _=>?_),fun c=>(k2 c).call⟩⟩
  have hn:=B1 hr
  obtain⟨⟨kvs0,ed,g⟩,k⟩:=k1 hn
  refine⟨(show 1<=sizeLine by decide),fun q hq=>?_⟩
  have S1:=Same.upd (o:=.lst [.str n]) hq
  have eq:upd H q (.lst [.str n]) q=some (.lst [.str n]):=Ad
  generalize upd H q (.lst [.str n])=H1 at S1 eq ⊢
  refine⟨p,dx,_,⟨t.c_zaq,V5 K t⟩,rfl,.head _,S1 _ _ e,rfl,⟨ae _,ae _⟩,⟨p,d,S,n,rfl,hP.up S1,T,(fun _ H2 l S2 _ el=>?_),fun _ c=>ab hn c⟩⟩
  have lb:=Eb (n:=n) T
  have nd:=aj1 (n:=n) T
  have al:∀ z∈gone S n,has S z=true:=fun z hz=>Zf hn hz
  have cu:F7 S n=S.filter fun p=>decide (p.1∉gone S n):=rfl
  unfold gone at nd al cu
  rw [<- ag (f:=(·.2))] at lb
  generalize (D3 S n).map (·.2)=ws at el lb nd al cu
  refine .inl ⟨q,l,_,_,rfl,rfl,S2 _ _ eq,el,?_,fun L hL=>?_⟩
  ·rw [ag]
   exact aS (show 1+ws.length<=11 by omega) (by decide)
  have S3:=Same.upd (o:=.lst ([.str n]++ws.map V.str)) hL
  have eL:upd H2 L (.lst ([.str n]++ws.map V.str)) L=some (.lst ((n::ws).map V.str)):=Ad
  generalize upd H2 L (.lst ([.str n]++ws.map V.str))=H3 at S3 eL ⊢
  have S3:=(S1.trans S2).trans S3
  have dL:L≠d:=fun c=>by rw [c,S3 _ _ ed] at eL;cases eL
  have dp:p≠d:=fun c=>by rw [c,ed] at e;cases e
  refine .inl ⟨⟨_,SqL.of eL⟩,?_⟩
  refine C7 (Cj ((n::ws).map V.str)) (fun i σ H'=>(∃ v,σ=[some (.ref p),some (.str n),v])/\But d H H'/\H' L=some (.lst ((n::ws).map V.str))/\RsAt K H' d (S.filter fun r=>decide (r.1∉(n::ws).take i)))
   ⟨⟨_,rfl⟩,But.of S3,eL,?_⟩ (fun i σ' H' _ h=>SqL.of h.2.2.1) ?_ ?_
  ·rw [List.take_zero,List.filter_eq_self.mpr (fun a _=>by simp)]
   exact⟨kvs0,S3 _ _ ed,g.keep (TKeep.of S3)⟩
  ·rintro i x σ H4 hx ⟨⟨v,rfl⟩,B4,eL4,kvs,ed4,g4⟩
   rw [aA] at hx
   obtain⟨z,hz,rfl⟩:=Option.map_eq_some_iff.mp hx
   obtain⟨⟨q4,ev⟩,g5⟩:=Vt g4 nd hz (al z (aY hz))
   have B5:But d H4 (upd H4 d (.dK (Jn kvs (.inr z)))):=fun b o hb h=>by rw [Ah hb];exact h
   exact .inl ⟨_,_,_,.ref d,B4 _ _ dp e,Z.pl,Z.plr,rfl,.inr ⟨.inr (.inr (.inl ⟨rfl,.inl ⟨kvs,ed4⟩⟩)),d,.inr z,q4,kvs,rfl,rfl,ed4,ev,⟨⟨_,rfl⟩,B4.trans B5,by rw [Ah dL];exact eL4,_,Ad,g5.keep (B5.tk ed4)⟩⟩⟩
  ·rintro σ H4 ⟨⟨v,rfl⟩,B4,_,R⟩
   rw [ag,bV,<- cu] at R
   exact .inl (k H4 B4 R)
theorem bm6 {f:Addr} {fd:aH} (Z:Aw K t) (F:FunD K "line_of" "Plain.line_of" Rl f fd .none) (T:Tab P w K mg base 4 (Ik K t) bl):FnOk P w K mg base CX0 5 f fd X2 (aw1 K t):=by
 refine F.okW0 bu4 bz3 T (br8 K t) (fun vs H Q E h=>?_) (fun vs H Q E h=>?_)
 ·obtain⟨p,d,S,w,rfl,_⟩:=h;rfl
 ·obtain⟨p,d,S,w,rfl,hP,hw,k⟩:=h
  obtain⟨dx,e⟩:=hP.1
  refine⟨p,dx,_,⟨t.c_zaq,Zl K t⟩,rfl,.head _,e,rfl,⟨ae _,ae _⟩,⟨p,d,S,w.2,rfl,hP,(fun r hr _ _ _=>?_),fun c=>ab hw c⟩⟩
  refine⟨p,dx,_,⟨t.c_zaq,V6 K t⟩,rfl,.head _,e,rfl,⟨ae _,ae _⟩,⟨p,d,S,w.2,rfl,hP,(fun r1 hr1 _ _ _=>?_),fun c=>ab hw c⟩⟩
  refine⟨p,dx,_,⟨t.c_zaq,Zj K t⟩,rfl,.head _,e,rfl,⟨ae _,ae _⟩,⟨p,d,S,w.2,rfl,hP,(fun r2 hr2 y hy _=>?_),fun c=>ab hw c⟩⟩
  obtain rfl:=Hz hr
  obtain rfl:=Hz hr1
  obtain rfl:=Hz hr2
  exact⟨(show 5<=sizeLine by decide),fun q hq=>k _ _ (Same.upd hq) (Je (SqT.of Ad) (Au (Fb rfl) (Au Bw (Au Bw (Au (Fb rfl) (Au (Lk (Same.upd hq) hy) Bp))))))⟩
theorem Zt {S:Rs} {w:Int×Str} (h:noL (Ao S w.2).ct=true):noL (lnD S w)=true:=by
 unfold lnD noL
 simp only [Dc,A1,Lb,noL,h,Bool.and_self]
theorem RdAt.ct {H:Hp} {d:Addr} {S:Rs} {z:Str} (h:RdAt K H d S) (hz:has S z=true):Jh (Ao S z).ct:=by
 obtain⟨kvs,_,g⟩:=h
 obtain⟨x,_,_,_,_,_,_,c⟩:=g.some (Bz hz)
 exact c
theorem Ho {H:Hp} {d:Addr} {S:Rs} (h:RdAt K H d S):∀ {ws:List (Int×Str)},(∀ w∈ws,has S w.2=true)->Dc (ws.map (lnD S))=true
 | [],_=>by unfold Dc;rfl
 | w::ws,a=>by
  rw [aP]
  unfold Dc
  rw [Zt (h.ct (a w bx)).1,Ho h fun w hw=>a w (aJ _ hw)]
  rfl
theorem bm9 {f:Addr} {fd:aH} (Z:Aw K t) (F:FunD K "lines" "Plain.lines" Ro f fd .none) (T:Tab P w K mg base 9 (Vz K t) bl):FnOk P w K mg base CX0 10 f fd X5 (aw4 K t):=by
 refine F.okW0 bu7 bz6 T (bs1 K t) (fun vs H Q E h=>?_) (fun vs H Q E h=>?_)
 ·obtain⟨p,d,S,rfl,_⟩:=h;rfl
 ·obtain⟨p,d,S,rfl,hP,T,k⟩:=h
  obtain⟨dx,e⟩:=hP.1
  refine⟨p,dx,_,⟨t.c_zaq,aj7 K t⟩,rfl,.head _,e,rfl,⟨ae _,ae _⟩,⟨p,d,S, "", rfl,hP,T,fun H1 a ys S1 hp ea=>.inl ⟨⟨_,SqL.of ea⟩,fun L hL=>?_⟩⟩⟩
  have lb:=Eb (n := "") T
  have ll:=hp.length
  have al:∀ w∈D3 S "", has S w.2=true:=fun w hw=>Ek (bC hw)
  generalize D3 S "" = ws at k lb ll hp al
  have no:=Ho hP.2 al
  refine Eh (Cj ys) (fun i σ H'=>(∃ u v,σ=[u,v,some (.ref p)])/\Same H1 H' /\ ∃ zs,H' L=some (.lst zs)/\AtL K H' ((ws.take i).map (lnD S)) zs) ⟨⟨_,_,rfl⟩,Same.upd hL,[],Ad,Bp⟩ (fun i σ H' _ h=>SqL.of (h.2.1 _ _ ea)) ?_ ?_
  ·rintro i x σ H2 hx ⟨⟨u,v,rfl⟩,S2,zs,eL,az⟩
   obtain⟨⟨c,z⟩,q,hi,rfl,hq⟩:=hp.ix hx
   have hi':i<ws.length:=(List.getElem?_eq_some_iff.mp hi).1
   have hP2:=hP.up (S1.trans S2)
   obtain⟨dx2,e2⟩:=hP2.1
   refine⟨_,S2.seqT hq,rfl,⟨p,dx2,_,⟨t.c_zaq,a32 K t⟩,rfl,.head _,e2,rfl,⟨ae _,ae _⟩,⟨p,d,S,(c,z),rfl,hP2,al _ (aY hi),fun H3 x S3 ax=>?_⟩⟩⟩
   have l3:=az.length
   rw [ag,a_] at l3
   refine⟨zs,S3 _ _ eL,b6 (show _<=10 by omega) (by decide),⟨_,_,rfl⟩,(S2.trans S3).set hL,_,Ad,?_⟩
   have n1:Dc ((ws.take i).map (lnD S))=true:=Ho hP.2 fun w hw=>al w (iu hw)
   have n2:noL (lnD S (c,z))=true:=Zt (hP.2.ct (al _ (aY hi))).1
   have tk:TKeep K H3 (upd H3 L (.lst (zs++[x]))):=TKeep.lst (S3 _ _ eL)
   rw [bP,hi,ba]
   exact Gh (Fx tk n1 (Fy S3 az)) (Au (Tg tk n2 ax) Bp)
  ·rintro σ H2 ⟨_,S2,zs,eL,az⟩
   rw [ll,bV] at az
   exact k H2 L zs (S1.trans S2) (S1.free hL) eL az
theorem bm8 {f:Addr} {fd:aH} (Z:Aw K t) (F:FunD K "copied" "Plain.copied" Rn f fd .none) (T:Tab P w K mg base 2 (K9 K t) bl):FnOk P w K mg base CX0 3 f fd X4 (aw3 K t):=by
 refine F.okW0 bu6 bz5 T (bs0 K t) (fun vs H Q E h=>?_) (fun vs H Q E h=>?_)
 ·obtain⟨p,d,S,rfl,_⟩:=h;rfl
 ·obtain⟨p,d,S,rfl,hP,k⟩:=h
  intro a dx ha hdx ne
  refine⟨a,dx,rfl,Ad,fun d0 hd0=>⟨rfl,?_⟩⟩
  have n1:d0≠a:=fun c=>by rw [c,Ad] at hd0;cases hd0
  have n2:d0≠dx:=fun c=>by rw [c,Ah ne,Ad] at hd0;cases hd0
  have hd1:H d0=none:=by rw [Ah n1,Ah n2] at hd0;exact hd0
  have S1:Same H (upd (upd (upd (upd H dx (.own a)) a (.ins t.c_zaq dx [])) d0 (.dK [])) a (.ins t.c_zaq dx [("records", .ref d0)])):=(((Same.upd hdx).set ha).set hd1).set ha
  have ea:upd (upd (upd (upd H dx (.own a)) a (.ins t.c_zaq dx [])) d0 (.dK [])) a (.ins t.c_zaq dx [("records", .ref d0)]) a=some (.ins t.c_zaq dx [("records", .ref d0)]):=Ad
  generalize upd (upd (upd (upd H dx (.own a)) a (.ins t.c_zaq dx [])) d0 (.dK [])) a (.ins t.c_zaq dx [("records", .ref d0)])=H1 at S1 ea ⊢
  obtain⟨⟨dx1,e1⟩,kvs,ed,g⟩:=hP.up S1
  refine kX ⟨_,_,_,.ref d,e1,Z.pl,Z.plr,rfl,⟨d,kvs,rfl,ed,fun q hq=>?_⟩⟩
  have S2:=Same.upd (o:=.dK kvs) hq
  have eq:upd H1 q (.dK kvs) q=some (.dK kvs):=Ad
  generalize upd H1 q (.dK kvs)=H2 at S2 eq ⊢
  have S12:=S1.trans S2
  have na:q≠a:=fun c=>by rw [c,ea] at hq;cases hq
  refine .inl ⟨_,_,_,S2 _ _ ea,Z.pl,Z.plr,(show 1<1000 by decide),?_⟩
  have tk:TKeep K H2 (upd H2 a (.ins t.c_zaq dx (El "records" (.ref q) [("records", .ref d0)]))):=fun b xs s=>by
   have nb:∀ o,H2 b=some o->o≠.ins t.c_zaq dx [("records", .ref d0)]->b≠a:=fun o h1 h2 c=>h2 (by rw [c,S2 _ _ ea] at h1;exact (aU h1).symm)
   rcases s with (s|⟨o,s⟩)|s
   ·exact .inl (.inl (by rw [Ah (nb _ s (by intro c;cases c))];exact s))
   ·exact .inl (.inr ⟨o,by rw [Ah (nb _ s (by intro c;cases c))];exact s⟩)
   ·exact .inr s
  exact k _ a q (S12.set ha) (S1.free hq) ⟨⟨dx,Ad⟩,kvs,by rw [Ah na];exact eq,(g.keep (TKeep.of S2)).keep tk⟩
theorem bo0 {f:Addr} {fd:aH} (Z:Aw K t) (F:FunD K "same" "Plain.same" R0 f fd .none) (T:Tab P w K mg base 0 (Da K t) bl):FnOk P w K mg base CX0 1 f fd Yg (ax0 K t):=by
 refine F.okW0 bv8 b07 T (bt2 K t) (fun vs H Q E h=>?_) (fun vs H Q E h=>?_)
 ·obtain⟨p,d,p',d',S,S',rfl,_⟩:=h;rfl
 ·obtain⟨p,d,p',d',S,S',rfl,⟨⟨dx,e⟩,kvs,ed,g⟩,⟨⟨dx',e'⟩,kvs',ed',g'⟩,k⟩:=h
  refine kX ⟨_,_,_,.ref d,e,Z.pl,Z.plr,rfl,kX ⟨_,_,_,.ref d',e',Z.pl,Z.plr,rfl,?_⟩⟩
  have t1:=g.trees
  have t2:=g'.trees
  exact .inr (.inr (.inr (.inr ⟨d,d',kyK S,rsD S,kyK S',rsD S',rfl,rfl,⟨kvs,ed,g.keys,t1.1,by omega⟩,⟨kvs',ed',g'.keys,t2.1,by omega⟩,k⟩)))
theorem bn2 {f:Addr} {fd:aH} (Z:Aw K t) (F:FunD K "under" "Plain.under" Rr f fd .none) (T:Tab P w K mg base 7 (Vy K t) bl):FnOk P w K mg base (CXE P w) 8 f fd X8 (aw7 K t):=by
 refine F.okWX bv0 bz9 T (bs4 K t) (fun vs H Q E h=>?_) (fun vs H Q E h=>?_)
 ·obtain⟨p,d,S,z,rfl,_⟩:=h;rfl
 ·obtain⟨p,d,S,z,rfl,hP,T,k1,k2⟩:=h
  obtain⟨dx,e⟩:=id hP.1
  refine⟨p,dx,_,⟨t.c_zaq,aj4 K t⟩,rfl,.head _,e,rfl,⟨ae _,ae _⟩,⟨p,d,S,z,rfl,hP,(fun hz=>?_),fun c1 c2=>(k2 c1 c2).call⟩⟩
  have k:=k1 hz
  refine kX ⟨_,_,_,.ref d,e,Z.pl,Z.plr,rfl,.inr (.inr (au3 hP.2 fun o kvs H1 S1 ed g=>fun L hL=>?_))⟩
  have kn:=g.names
  have l8:(keys S).length<=10:=by rw [Ar];exact T.few
  have hP1:=hP.sm S1
  refine Eh (ah1 kvs) (fun i σ' H'=>(∃ v,σ'=[v,some (.str z),some (.ref p)])/\Same H1 H'/\H' L=some (.lst ((((keys S).take i).filter fun y=>decide ((Ao S y).pr=z)).map V.str))) ⟨⟨_,rfl⟩,Same.upd hL,Ad⟩ (fun i σ' H' _ h=>h.2.1 _ _ ed) ?_ ?_
  ·rintro i x σ' H2 hx ⟨⟨v,rfl⟩,S2,eL⟩
   rw [kn,aA] at hx
   obtain⟨y,hy,rfl⟩:=Option.map_eq_some_iff.mp hx
   have tk:(keys S).take (i+1)=(keys S).take i++[y]:=by rw [bP,hy];rfl
   have hP2:=hP1.up S2
   obtain⟨dx2,e2⟩:=hP2.1
   have hh:=mem_keys.mp (aY hy)
   refine⟨p,dx2,_,⟨t.c_zaq,Qi K t⟩,rfl,.head _,e2,rfl,⟨ae _,ae _⟩,⟨p,d,S,y,rfl,hP2,(fun r hr _ _ _=>?_),fun c=>ab hh c⟩⟩
   obtain rfl:=Hz hr
   refine Hm (c:=decide ((Ao S y).pr=z)=true) (fun g=>?_) (fun g=>?_)
   ·refine⟨_,eL,?_,⟨_,rfl⟩,S2.set hL,?_⟩
    ·rw [ag]
     have h1:(((keys S).take i).filter fun y=>decide ((Ao S y).pr=z)).length<=((keys S).take i).length:=cm _ _
     rw [a_] at h1
     exact b6 (show _<=10 by omega) (by decide)
    ·rw [Ad,tk,c_,cC (p:=fun y=>decide ((Ao S y).pr=z)) g,ba]
     rfl
   ·refine⟨⟨_,rfl⟩,S2,?_⟩
    rw [eL,tk,c_,cB (p:=fun y=>decide ((Ao S y).pr=z)) g,iK,cO]
  ·rintro σ' H2 ⟨_,S2,eL⟩
   rw [kn,ag,bV] at eL
   have hP2:=hP1.up S2
   obtain⟨dx2,e2⟩:=hP2.1
   have nd:((keys S).filter fun y=>decide ((Ao S y).pr=z)).Nodup:=T.nd.sublist cY
   have lf:((keys S).filter fun y=>decide ((Ao S y).pr=z)).length<=(keys S).length:=cm _ _
   refine⟨L,p,dx2,_,⟨t.c_zaq,Zk K t⟩,_,rkf S,rfl,.inl (SqL.of eL),nd,by omega,rfl,.head _,e2,rfl,
    (fun y hy H3 S3=>⟨p,d,S,y,rfl,hP2.up S3,mem_keys.mp (List.mem_filter.mp hy).1,fun q hq=>⟨q,rfl,Same.upd hq,Ad⟩⟩),fun H3 D S3 hD eD=>?_⟩
   rw [Yr T] at eD
   exact k H3 D (S1.trans (Sm.of (S2.trans S3))) (S1.free (S2.free hD)) eD
end
theorem Uc {α β:Type} {lt:α->α->Bool} {lt':β->β->Bool} {f:α->β} (h:∀ a b,lt' (f a) (f b)=lt a b) (z:α):∀ ys:List α,M6 lt' (f z) (ys.map f)=(M6 lt z ys).map f
 | []=>rfl
 | y::ys=>by
  rw [aP]
  unfold M6
  rw [h,Uc h z ys]
  split <;> rfl
theorem U8 {α β:Type} {lt:α->α->Bool} {lt':β->β->Bool} {f:α->β} (h:∀ a b,lt' (f a) (f b)=lt a b):∀ ys:List α,Ak lt' (ys.map f)=(Ak lt ys).map f
 | []=>rfl
 | y::ys=>by
  rw [aP]
  unfold Ak
  rw [U8 h ys,Uc h]
section
variable {P:aK} {w:bt} {K:aa} {mg:Str->Option Value} {base:Heap} {t:Adr}
theorem RdAt.get {H:Hp} {d:Addr} {R:Rs} {z:Str} (h:RdAt K H d R) (hz:has R z=true):∃ q y,Er H d (.str z) (some (.ref q))/\SqT K H q [.str (Ao R z).kd,.str (Ao R z).pr,.int (Ao R z).rk,y]/\At K H (Ao R z).ct y/\Jh (Ao R z).ct:=by
 obtain⟨kvs,e,g⟩:=h
 obtain⟨x,dg,q,y,rfl,h1,h2,h3⟩:=Qd g e (Bz hz)
 exact⟨q,y,dg,h1,h2,h3⟩
theorem a49 {f:Addr} {fd:aH} (Z:Aw K t) (F:FunD K "_law_under" "_law_under" Ki f fd .none) (T:Tab P w K mg base 0 (Da K t) bl):FnOk P w K mg base CX0 1 f fd N1 (Nr K t):=by
 refine F.okW0 be0 bh0 T (bc6 K t) (fun vs H Q E h=>?_) (fun vs H Q E h=>?_)
 ·obtain⟨d,R,z,rfl,_⟩:=h;rfl
 ·obtain⟨d,R,z,rfl,hR,T,k⟩:=h
  refine .inr (.inr (au3 hR fun o kvs H1 S1 ed g=>fun L hL=>?_))
  have kn:=g.names
  have l8:(keys R).length<=10:=by rw [Ar];exact T.few
  have hR1:=hR.sm S1
  refine Eh (ah1 kvs) (fun i σ' H'=>(∃ v,σ'=[v,some (.str z),some (.ref d)])/\Same H1 H' /\ ∃ ds:List (Str×Addr),H' L=some (.lst (ds.map fun d=>.ref d.2))/\ds.map (·.1)=((keys R).take i).filter (fun y=>decide ((Ao R y).pr=z)) /\ ∀ d∈ds,H' d.2=some (.tup [.int (rkf R d.1),.str d.1])) ⟨⟨_,rfl⟩,Same.upd hL,[],Ad,rfl,(fun d hd=>by cases hd)⟩ (fun i σ' H' _ h=>h.2.1 _ _ ed) ?_ ?_
  ·rintro i x σ' H2 hx ⟨⟨v,rfl⟩,S2,ds,eL,en,ht⟩
   rw [kn,aA] at hx
   obtain⟨y,hy,rfl⟩:=Option.map_eq_some_iff.mp hx
   have tk:(keys R).take (i+1)=(keys R).take i++[y]:=by rw [bP,hy];rfl
   have hh:=mem_keys.mp (aY hy)
   obtain⟨q,c,dg,hq,_⟩:=(hR1.up S2).get hh
   refine⟨_,dg,_,_,.inr hq,rfl,Hm (c:=decide ((Ao R y).pr=z)=true) (fun g=>?_) (fun g=>?_)⟩
   ·refine⟨_,dg,_,_,.inr hq,rfl,(show 2<=sizeLine by decide),fun b hb=>?_⟩
    have S3:=Same.upd (o:=.tup [.int (Ao R y).rk,.str y]) hb
    have eb:upd H2 b (.tup [.int (Ao R y).rk,.str y]) b=some (.tup [.int (Ao R y).rk,.str y]):=Ad
    generalize upd H2 b (.tup [.int (Ao R y).rk,.str y])=H3 at S3 eb ⊢
    have eL3:=S3 _ _ eL
    refine⟨_,eL3,?_,⟨_,rfl⟩,(S2.trans S3).set hL,ds++[(y,b)],by rw [Ad,ba];rfl,?_,fun d hd=>?_⟩
    ·have h0:=congrArg gr en
     rw [ag] at h0 ⊢
     have h1:(((keys R).take i).filter fun y=>decide ((Ao R y).pr=z)).length<=((keys R).take i).length:=cm _ _
     rw [a_] at h1
     exact b6 (show _<=10 by omega) (by decide)
    ·rw [ba,en,tk,c_,cC (p:=fun y=>decide ((Ao R y).pr=z)) g]
     rfl
    ·have e3:H3 d.2=some (.tup [.int (rkf R d.1),.str d.1]):=by
      rcases List.mem_append.mp hd with hd|hd
      ·exact S3 _ _ (ht d hd)
      ·rw [List.mem_singleton.mp hd];exact eb
     rw [Ah (fun c=>by rw [c,eL3] at e3;cases e3)]
     exact e3
   ·refine⟨⟨_,rfl⟩,S2,ds,eL,?_,ht⟩
    rw [en,tk,c_,cB (p:=fun y=>decide ((Ao R y).pr=z)) g,iK,cO]
  ·rintro σ' H2 ⟨_,S2,ds,eL,en,ht⟩
   rw [kn,ag,bV] at en
   have nd:(ds.map (·.1)).Nodup:=by rw [en];exact T.nd.sublist cY
   have ld:ds.length<=10:=by
    have h0:=congrArg gr en
    have h1:((keys R).filter fun y=>decide ((Ao R y).pr=z)).length<=(keys R).length:=cm _ _
    rw [ag] at h0
    omega
   refine .inl (.inr ⟨L,ds,rkf R,rfl,SqL.of eL,ht,nd,by omega,fun D hD=>.inl ⟨⟨_,SqL.of Ad⟩,fun F hF=>?_⟩⟩)
   have S3:=S2.trans (Same.upd (o:=.lst ((Ak (ltD (rkf R)) ds).map fun d=>.ref d.2)) hD)
   have ht3:∀ d∈Ak (ltD (rkf R)) ds,upd H2 D (.lst ((Ak (ltD (rkf R)) ds).map fun d=>.ref d.2)) d.2=some (.tup [.int (rkf R d.1),.str d.1]):=fun d hd=>Same.upd hD _ _ (ht d ((Am _ _).mem_iff.mp hd))
   have eD:upd H2 D (.lst ((Ak (ltD (rkf R)) ds).map fun d=>.ref d.2)) D=some (.lst ((Ak (ltD (rkf R)) ds).map fun d=>.ref d.2)):=Ad
   have ec:(Ak (ltD (rkf R)) ds).map (·.1)=chS R z:=by
    rw [<- U8 (lt:=ltD (rkf R)) (lt':=ltK (rkf R)) (f:=(·.1)) (fun _ _=>rfl),en]
    exact Yr T z
   have le:(Ak (ltD (rkf R)) ds).length=ds.length:=(Am _ _).length_eq
   generalize upd H2 D (.lst ((Ak (ltD (rkf R)) ds).map fun d=>.ref d.2))=H3 at S3 ht3 eD hF ⊢
   generalize Ak (ltD (rkf R)) ds=es at ht3 eD ec le ⊢
   refine Eh (Cj (es.map fun d=>V.ref d.2)) (fun i σ H'=>σ.length=1/\Same H3 H'/\H' F=some (.lst (((es.take i).map (·.1)).map V.str))) ⟨rfl,Same.upd hF,Ad⟩ (fun i σ H' _ h=>SqL.of (h.2.1 _ _ eD)) ?_ ?_
   ·rintro i x σ H4 hx ⟨hσ,S4,eF⟩
    rw [aA] at hx
    obtain⟨e,he,rfl⟩:=Option.map_eq_some_iff.mp hx
    obtain⟨u,rfl⟩:∃ u,σ=[u]:=by
     match σ,hσ with
     | [u],_=>exact⟨u,rfl⟩
    refine⟨_,_,.inr (SqT.of (S4 _ _ (ht3 e (aY he)))),rfl,_,eF,?_,rfl,S4.set hF,?_⟩
    ·rw [ag,ag,a_]
     exact b6 (show _<=10 by omega) (by decide)
    ·rw [Ad,bP,he,ba,ba]
     rfl
   ·rintro σ H4 ⟨_,S4,eF⟩
    rw [ag,bV,ec] at eF
    have Sf:=S1.trans (Sm.of (S3.trans S4))
    exact k H4 F Sf (S1.free (S3.free hF)) eF
theorem Ov:∀ {ds es:List Dt},Dc ds=true->Dc es=true->Dc (ds++es)=true
 | [],_,_,h=>h
 | d::ds,es,h,g=>by
  unfold Dc at h
  rw [aw] at h
  rw [dM]
  unfold Dc
  rw [h.1,Ov h.2 g]
  rfl
theorem am1 {R:Rs} (T:Tr R) {j:Nat} {k:Int} {z:Str}:(pre (chS R) j k z).length<=10:=by
 obtain⟨h,h1,_⟩:=T.sinks
 have:=Ed (Qz h1 Yq (Yp T) j k z) fun y hy=>mem_keys.mpr (Ek hy)
 have:=T.few
 rw [Ar,ag] at *
 omega
theorem a47 (Z:Aw K t) (g:DOk K mg "_law_lines" Kg t.f_zab t.d_zab Jb) (T:Tab P w K mg base 1 (Vx K t) bl):∀ n,FnOk P w K mg base CX0 (1+n+1) t.f_zab t.d_zab Jb (G5 K t n):=by
 refine av2 (G5 K t) (ax6 K t) g bd8 bg8 T 40 (bc4 K t) (fun n vs H Q E h=>?_) (fun vs H Q E h=>?_) (fun n vs H Q E h=>?_)
 ·obtain⟨d,R,z,k,h,rfl,_⟩:=h;rfl
 ·obtain⟨d,R,z,k,h,rfl,_,_,_,_,c,_⟩:=h
  exact absurd c (Nat.not_lt_zero _)
 ·obtain⟨d,R,z,k,h,rfl,hR,T,sk,h12,hz,q⟩:=h
  refine⟨(show 0<=sizeLine by decide),fun L hL=>?_⟩
  have S1:=Same.upd (o:=.lst []) hL
  have eL:upd H L (.lst []) L=some (.lst []):=Ad
  generalize upd H L (.lst [])=H1 at S1 eL ⊢
  refine⟨d,R,z,rfl,hR.up S1,T,fun H2 l S2 hl el=>.inl ⟨⟨_,SqL.of el⟩,?_⟩⟩
  have lp:pre (chS R) 12 k z=(chS R z).flatMap fun c=>(k,c)::pre (chS R) 12 (k+1) c:=by
   show (chS R z).flatMap _=_
   refine E0 fun c hc=>?_
   rw [Qy sk (h12 c) (show h c<11 by have:=sk _ _ hc;have:=h12 z;omega)]
  have lb:=am1 T (j:=12) (k:=k) (z:=z)
  have al:∀ w∈pre (chS R) 12 k z,has R w.2=true:=fun w hw=>Ek (bC hw)
  rw [lp] at q lb al
  have sub:∀ i,∀ w∈((chS R z).take i).flatMap (fun c=>(k,c)::pre (chS R) 12 (k+1) c),w∈(chS R z).flatMap (fun c=>(k,c)::pre (chS R) 12 (k+1) c):=fun i w hw=>by
   obtain⟨c,hc,m⟩:=List.mem_flatMap.mp hw
   exact List.mem_flatMap.mpr ⟨c,iu hc,m⟩
  have ne:l≠L:=fun c=>by rw [c,eL] at hl;cases hl
  refine C7 (Cj ((chS R z).map V.str)) (fun i σ H'=>(∃ a b c e f,σ=[some (.ref d),some (.str z),some (.int k),some (.ref L),a,b,c,e,f])/\Sm H H'/\H' l=some (.lst ((chS R z).map V.str)) /\ ∃ ys,H' L=some (.lst ys)/\AtL K H' ((((chS R z).take i).flatMap fun c=>(k,c)::pre (chS R) 12 (k+1) c).map (lnD R)) ys)
   ⟨⟨_,_,_,_,_,rfl⟩,(Sm.of S1).trans S2,el,[],S2.lst eL,Bp⟩ (fun i σ' H' _ h=>SqL.of h.2.2.1) ?_ ?_
  ·rintro i x σ H3 hx ⟨⟨a,b,c,e,f,rfl⟩,S3,el3,ys,eL3,az⟩
   rw [aA] at hx
   obtain⟨y,hy,rfl⟩:=Option.map_eq_some_iff.mp hx
   have my:=aY hy
   have hh:=(ch_mem.mp my).1
   have hR3:=hR.sm S3
   obtain⟨p,v,dg,hp,hv,hc⟩:=hR3.get hh
   refine⟨_,dg,_,hp,rfl,?_⟩
   have n0:Dc ((((chS R z).take i).flatMap fun c=>(k,c)::pre (chS R) 12 (k+1) c).map (lnD R))=true:=Ho hR fun w hw=>al w (sub i w hw)
   have n1:noL (lnD R (k,y))=true:=Zt hc.1
   have l0:((((chS R z).take (i+1)).flatMap fun c=>(k,c)::pre (chS R) 12 (k+1) c)).length<=10:=by
    have e1:=congrArg (fun l=>(l.flatMap fun c=>(k,c)::pre (chS R) 12 (k+1) c).length) (kq (i+1) (chS R z))
    rw [eV,aI] at e1
    omega
   rw [bP,hy,eV,aI] at l0
   have ly:=az.length
   rw [ag] at ly
   have l1:((some y).toList.flatMap fun c=>(k,c)::pre (chS R) 12 (k+1) c)=(k,y)::pre (chS R) 12 (k+1) y:=by
    show [y].flatMap _=_
    rw [jX]
   rw [l1,aR] at l0
   refine⟨.inl ⟨rfl,_,SqL.of eL3⟩,(show 5<=sizeLine by decide),fun b1 hb1=>⟨L,ys,_,rfl,rfl,?_⟩⟩
   have S4:=Same.upd (o:=.tup [.int k,.str y,.str (Ao R y).kd,.int (Ao R y).rk,v]) hb1
   have eb:upd H3 b1 (.tup [.int k,.str y,.str (Ao R y).kd,.int (Ao R y).rk,v]) b1=some (.tup [.int k,.str y,.str (Ao R y).kd,.int (Ao R y).rk,v]):=Ad
   generalize upd H3 b1 (.tup [.int k,.str y,.str (Ao R y).kd,.int (Ao R y).rk,v])=H4 at S4 eb ⊢
   have eL4:=S4 _ _ eL3
   refine⟨eL4,b6 (show _<=10 by omega) (by decide),?_⟩
   have at4:At K H4 (lnD R (k,y)) (.ref b1):=Je (SqT.of eb) (Au (Fb rfl) (Au Bw (Au Bw (Au (Fb rfl) (Au (Lk S4 hv) Bp)))))
   have tk:TKeep K H4 (upd H4 L (.lst (ys++[.ref b1]))):=TKeep.lst eL4
   have a5:AtL K (upd H4 L (.lst (ys++[.ref b1]))) (((((chS R z).take i).flatMap fun c=>(k,c)::pre (chS R) 12 (k+1) c).map (lnD R))++[lnD R (k,y)]) (ys++[.ref b1]):=Gh (Fx tk n0 (Fy S4 az)) (Au (Tg tk n1 at4) Bp)
   have eL5:upd H4 L (.lst (ys++[.ref b1])) L=some (.lst (ys++[.ref b1])):=Ad
   have el5:upd H4 L (.lst (ys++[.ref b1])) l=some (.lst ((chS R z).map V.str)):=by rw [Ah ne];exact S4 _ _ el3
   have S5:Sm H (upd H4 L (.lst (ys++[.ref b1]))):=(S3.trans (Sm.of S4)).set hL
   generalize upd H4 L (.lst (ys++[.ref b1]))=H5 at a5 eL5 el5 S5 ⊢
   refine⟨.inl ⟨rfl,_,SqL.of eL5⟩,d,R,y,k+1,h,rfl,hR.sm S5,T,sk,h12,by have:=sk _ _ my;omega,fun H6 l6 zs S6 hl6 el6 az6=>?_⟩
   have eL6:=S6.lst eL5
   have l6n:=az6.length
   rw [ag] at l6n
   refine⟨L,l6,_,_,rfl,rfl,eL6,el6,?_,?_⟩
   ·rw [aI,ly]
    exact aS (show _<=20 by rw [l6n];show _+1+_<=20;omega) (by decide)
   ·have tk7:TKeep K H6 (upd H6 L (.lst ((ys++[.ref b1])++zs))):=TKeep.lst eL6
    refine⟨⟨_,_,_,_,_,rfl⟩,(S5.trans S6).set hL,by rw [Ah ne];exact S6.lst el5,_,Ad,?_⟩
    rw [bP,hy,eV,l1,ba,aP,<- ko (x:=lnD R (k,y)),<- cX]
    have n2:Dc ((pre (chS R) 12 (k+1) y).map (lnD R))=true:=Ho hR fun w hw=>Ek (bC hw)
    refine Gh (Fx (S6.tk.trans tk7) ?_ a5) (Fx tk7 n2 az6)
    exact Ov n0 (by unfold Dc;rw [n1];unfold Dc;rfl)
  ·rintro σ H3 ⟨⟨a,b,c,e,f,rfl⟩,S3,el3,ys,eL3,az⟩
   rw [ag,bV] at az
   exact .inl (q H3 L ys S3 hL eL3 az)
theorem bn3 {f:Addr} {fd:aH} (Z:Aw K t) (F:FunD K "_law_beneath" "_law_beneath" Rt f fd .none) (T:Tab P w K mg base 14 (Tz K t) bl):FnOk P w K mg base CX0 15 f fd X9 (Pc K t):=by
 refine F.okW0 bv1 b00 T (bs5 K t) (fun vs H Q E h=>?_) (fun vs H Q E h=>?_)
 ·obtain⟨d,R,z,rfl,_⟩:=h;rfl
 ·obtain⟨d,R,z,rfl,hR,T,k⟩:=h
  obtain⟨h,sk,h12⟩:=T.sinks
  refine⟨d,R,z,1,h,rfl,hR,T,sk,h12,h12 z,fun H1 l ys S1 hl el az=>.inl ⟨⟨_,SqL.of el⟩,fun L hL=>?_⟩⟩
  have lb:=Eb (n:=z) T
  have ly:=az.length
  rw [ag] at ly
  unfold D3 at k lb
  generalize pre (chS R) 12 1 z=ws at k lb ly az
  refine Eh (Cj ys) (fun i σ H'=>σ.length=1/\Same H1 H'/\H' L=some (.lst (((ws.take i).map (·.2)).map V.str))) ⟨rfl,Same.upd hL,Ad⟩ (fun i σ H' _ h=>SqL.of (h.2.1 _ _ el)) ?_ ?_
  ·rintro i x σ H2 hx ⟨hσ,S2,eL⟩
   obtain⟨u,rfl⟩:∃ u,σ=[u]:=by
    match σ,hσ with
    | [u],_=>exact⟨u,rfl⟩
   have hi:i<ws.length:=by rw [<- ly];exact (List.getElem?_eq_some_iff.mp hx).1
   have hw:ws[i]? = some ws[i]:=aj hi
   obtain⟨y,hy,ay⟩:=Mr az (i:=i) (d:=lnD R ws[i]) (by rw [aA,hw];rfl)
   rw [hx] at hy
   cases hy
   obtain⟨a,xs,rfl,ha,ax⟩:=ah7 ay
   obtain⟨y1,e1,a1⟩:=Mr ax (i:=1) (d:=A1 ws[i].2) rfl
   have e1':y1=.str ws[i].2:=by unfold A1 At at a1;exact a1.1
   subst e1'
   refine⟨_,_,.inr (S2.seqT ha),Gg (i:=1) e1,_,eL,?_,rfl,S2.set hL,?_⟩
   ·rw [ag,ag,a_]
    exact b6 (show _<=10 by omega) (by decide)
   ·rw [Ad,bP,hw,ba,ba]
    rfl
  ·rintro σ H2 ⟨_,S2,eL⟩
   rw [ly,bV] at eL
   exact k H2 L (S1.trans (Sm.of S2)) eL
end
section
variable {P:aK} {w:bt} {K:aa} {mg:Str->Option Value} {base:Heap} {t:Adr} {H:Hp}
theorem RdAt.rc {d:Addr} {R:Rs} {z:Str} {r:Rc} (h:RdAt K H d R) (g:K23.get R z=some r):∃ x,Er H d (.str z) (some x)/\RcAt K H r x:=by
 obtain⟨kvs,e,g2⟩:=h
 exact Qd g2 e g
theorem bl5 {c:Bool} {A B:Prop} (e:c=true) (h:A):if c=true then A else B:=by rw [if_pos e];exact h
theorem bl4 {c:Bool} {A B:Prop} (e:c=false) (h:B):if c=true then A else B:=by rw [if_neg (by rw [e];exact ak)];exact h
theorem a28 {r:Rc} (c:Jh r.ct):dep (rcD r)<=6:=by
 unfold rcD dep
 refine ge ?_
 simp only [Bv,A1,Lb,dep,gC,bo,true_and,and_true]
 exact c.2
theorem Ic {d:Dt} {x y:V} {neg:Bool} {Q:VK} {a b:Addr} (hx:x=.ref a) (hy:y=.ref b) (h:At K H d x) (h':At K H d y) (c:dep d<=40) (k:Q (.bl (!neg)) H):Be K neg x y H Q:=by
 subst hx
 subst hy
 refine .inr (.inl ⟨d,d,h,h',c,?_⟩)
 rw [Ew h]
 cases neg <;> exact k
theorem Uw {r:Rc} {x y:V} {neg:Bool} {Q:VK} (h:RcAt K H r x) (h':RcAt K H r y) (k:Q (.bl (!neg)) H):Be K neg x y H Q:=by
 obtain⟨q,_,e,_,_,c⟩:=id h
 obtain⟨q',_,e',_⟩:=id h'
 exact Ic e e' h.at h'.at (by have:=a28 c;omega) k
theorem a57 {f:Addr} {fd:aH} (Z:Aw K t) (F:FunD K "_law_one" "_law_one" Kq f fd .none) (T:Tab P w K mg base 4 (Ik K t) bl):FnOk P w K mg base CX0 5 f fd N9 (Si K t):=by
 refine F.okW0 be8 bh8 T (bd4 K t) (fun vs H Q E h=>?_) (fun vs H Q E h=>?_)
 ·obtain⟨p,d,d0,S,R,z,r,rfl,_⟩:=h;rfl
 ·obtain⟨p,d,d0,S,R,z,r,rfl,hP,hR,g1,g2,k⟩:=h
  obtain⟨dx,e⟩:=hP.1
  have hs:=B1 g1
  obtain⟨x0,dg,hx0⟩:=hR.rc g2
  refine⟨p,dx,_,⟨t.c_zaq,V8 K t⟩,rfl,.head _,e,rfl,⟨ae _,ae _⟩,⟨p,d,S,z,rfl,hP,?_⟩⟩
  rw [hs]
  refine⟨p,dx,_,⟨t.c_zaq,Il K t⟩,rfl,.head _,e,rfl,⟨ae _,ae _⟩,⟨p,d,S,z,rfl,hP,(fun r1 hr1 x hx=>⟨_,dg,?_⟩),fun c=>ab hs c⟩⟩
  rw [g1] at hr1
  cases hr1
  refine Uw hx hx0 ?_
  refine⟨p,dx,_,⟨t.c_zaq,Il K t⟩,rfl,.head _,e,rfl,⟨ae _,ae _⟩,⟨p,d,S,z,rfl,hP,(fun r1 hr1 x1 hx1=>?_),fun c=>ab hs c⟩⟩
  obtain⟨q1,y1,rfl,h1,_⟩:=hx1
  refine⟨.type "tuple", true,.sqT rfl h1 rfl,rfl,?_⟩
  refine⟨p,dx,_,⟨t.c_zaq,Zl K t⟩,rfl,.head _,e,rfl,⟨ae _,ae _⟩,⟨p,d,S,z,rfl,hP,(fun r2 hr2 _ _ _=>?_),fun c=>ab hs c⟩⟩
  refine⟨p,dx,_,⟨t.c_zaq,Qi K t⟩,rfl,.head _,e,rfl,⟨ae _,ae _⟩,⟨p,d,S,z,rfl,hP,(fun r3 hr3 _ _ _=>?_),fun c=>ab hs c⟩⟩
  refine⟨p,dx,_,⟨t.c_zaq,V6 K t⟩,rfl,.head _,e,rfl,⟨ae _,ae _⟩,⟨p,d,S,z,rfl,hP,(fun r4 hr4 _ _ _=>?_),fun c=>ab hs c⟩⟩
  refine⟨p,dx,_,⟨t.c_zaq,Zj K t⟩,rfl,.head _,e,rfl,⟨ae _,ae _⟩,⟨p,d,S,z,rfl,hP,(fun r5 hr5 y hy hc=>?_),fun c=>ab hs c⟩⟩
  rw [g1] at hr2 hr3 hr4 hr5
  cases hr2
  cases hr3
  cases hr4
  cases hr5
  refine⟨(show 4<=sizeLine by decide),fun b hb=>?_⟩
  have S1:=Same.upd (o:=.tup [.str r.kd,.str r.pr,.int r.rk,y]) hb
  have eb:upd H b (.tup [.str r.kd,.str r.pr,.int r.rk,y]) b=some (.tup [.str r.kd,.str r.pr,.int r.rk,y]):=Ad
  generalize upd H b (.tup [.str r.kd,.str r.pr,.int r.rk,y])=H1 at S1 eb ⊢
  obtain⟨x2,dg2,hx2⟩:=(hR.up S1).rc g2
  exact⟨_,dg2,Uw ⟨b,y,rfl,SqT.of eb,Lk S1 hy,hc⟩ hx2 (k H1 S1)⟩
theorem Gn {a:Addr} {z:Str} (f:ah3 t H a z):ExcAt H a t.c_zap [("part", .str z),("choice", .non)]:=by
 obtain⟨dx,ne,e1,e2⟩:=f
 exact .inr ⟨dx,ne,.inr (.inl e1),e2⟩
theorem bn5 {f:Addr} {fd:aH} (Z:Aw K t) (F:FunD K "_law_dropped" "_law_dropped" Rv f fd .none) (T:Tab P w K mg base 11 (Ty K t) bl):FnOk P w K mg base CX0 12 f fd Yb (U5 K t):=by
 refine F.okW0 bv3 b02 T (bs7 K t) (fun vs H Q E h=>?_) (fun vs H Q E h=>?_)
 ·obtain⟨p,d,S,z,rfl,_⟩:=h;rfl
 ·obtain⟨p,d,S,z,rfl,hP,T,hz,k⟩:=h
  obtain⟨dx,e⟩:=hP.1
  refine⟨p,dx,_,⟨t.c_zaq,aj6 K t⟩,rfl,.head _,e,rfl,⟨ae _,ae _⟩,⟨p,d,S,z,rfl,hP,T,(fun c=>ab c hz),fun _ H1 a S1 f=>⟨a,rfl,t.c_zap,?_⟩⟩⟩
  obtain⟨da,ne,e1,e2⟩:=id f
  refine⟨some da,.inl e1,Z.ec,true,Z.me,Or.inr ⟨t.c_zap,_,.str z,Gn f,Z.ec,Z.n1,rfl,?_⟩⟩
  have:=k H1 S1
  rw [<- decide_eq_true (show z=z from rfl)] at this
  exact this
noncomputable def bk6 (K:aa) (t:Adr):DS:=(Ag (Ax 3 (Ae (A0 K) (Ab 3) (dFn (fun vs H Q _=>ad0 vs H Q) (Aa (D6 K (dFn (fun vs H Q _=>(Ww K) vs H Q) (Aa (Ab 5) (Aa (dC (.ref t.c_zan)) Af))) (D6 K (Ae (Be K false) (dUn (Cl K "part") (Ab 5)) (Ab 1)) (Ae (Ds false) (dUn (Cl K "choice") (Ab 5)) (dC .non)))) Af)))) Ai)
theorem aj2 (Z:Aw K t) {a:Addr} {z:Str} {D:Mo} {p m v:Option V} {n:Nat} (f:ah3 t H a z) (k:D.nx [p,some (.str z),m,some (.int ((n+1:Nat):Int)),v,none] H):asD a (bk6 K t) (.as 5) D [p,some (.str z),m,some (.int (n:Int)),v,none] H:=by
 refine .inl ⟨.ref t.c_zap,true,.exc rfl (Gn f) Z.ec rfl,Z.kt,?_⟩
 refine Or.inr ⟨t.c_zap,_,.str z,Gn f,Z.ec,Z.n1,rfl,bl5 (decide_eq_true rfl) (Or.inr ⟨t.c_zap,_,.non,Gn f,Z.ec,Z.n2,rfl,?_⟩)⟩
 exact k
theorem bn6 {f:Addr} {fd:aH} (Z:Aw K t) (F:FunD K "_law_no_part" "_law_no_part" Rw f fd .none) (T:Tab P w K mg base 10 (Lx K t) bl):FnOk P w K mg base CX0 11 f fd Yc (U6 K t):=by
 refine F.okW0 bv4 b03 T (bs8 K t) (fun vs H Q E h=>?_) (fun vs H Q E h=>?_)
 ·obtain⟨p,d,S,z,m,rfl,_⟩:=h;rfl
 ·obtain⟨p,d,S,z,m,rfl,hP,T,hz,hm,hm5,k⟩:=h
  refine⟨⟨by omega,by omega⟩,?_⟩
  rw [bW]
  refine C7 (Fa 0 m) (fun i σ H'=>(∃ v,σ=[some (.ref p),some (.str z),some (.int m),some (.int (i:Int)),v,none])/\Same H H') ⟨⟨_,rfl⟩,Same.refl _⟩ (fun _ _ _ _ _=>bH) ?_ ?_
  ·rintro i x σ H1 hx ⟨⟨v,rfl⟩,S1⟩
   obtain⟨hi,rfl⟩:=No hx
   have hP1:=hP.up S1
   obtain⟨dx,e⟩:=hP1.1
   have fin:∀ {v:Option V} {H2:Hp} {a:Addr} {D:Mo} {us:List (Addr×HK×DS)},Same H1 H2->ah3 t H2 a z->(∀ H3,Same H H3->D.nx [some (.ref p),some (.str z),some (.int m),some (.int ((i+1:Nat):Int)),v,none] H3) ->
     ∃ C dx,FlO H2 a C dx/\ECls K C/\Jf K C a ((t.c_zap,.as 5,bk6 K t)::us) D [some (.ref p),some (.str z),some (.int m),some (.int (i:Int)),v,none] H2:=fun S2 f g=>by
    obtain⟨da,ne,e1,e2⟩:=id f
    exact⟨t.c_zap,some da,.inl e1,Z.ec,true,Z.me,aj2 Z f (g _ (S1.trans S2))⟩
   have hc:i=0\/i=1\/i=2\/i=3\/i=4\/i=5\/i=6:=by omega
   rcases hc with rfl|rfl|rfl|rfl|rfl|rfl|rfl
   ·exact⟨p,dx,_,⟨t.c_zaq,Il K t⟩,rfl,.head _,e,rfl,⟨ae _,ae _⟩,⟨p,d,S,z,rfl,hP1,(fun r hr=>ab (B1 hr) hz),fun _ H2 a S2 f=>⟨a,rfl,fin S2 f fun H3 S3=>⟨⟨_,rfl⟩,S3⟩⟩⟩⟩
   ·exact⟨p,dx,_,⟨t.c_zaq,Zl K t⟩,rfl,.head _,e,rfl,⟨ae _,ae _⟩,⟨p,d,S,z,rfl,hP1,(fun r hr=>ab (B1 hr) hz),fun _ H2 a S2 f=>⟨a,rfl,fin S2 f fun H3 S3=>⟨⟨_,rfl⟩,S3⟩⟩⟩⟩
   ·exact⟨p,dx,_,⟨t.c_zaq,Qi K t⟩,rfl,.head _,e,rfl,⟨ae _,ae _⟩,⟨p,d,S,z,rfl,hP1,(fun r hr=>ab (B1 hr) hz),fun _ H2 a S2 f=>⟨a,rfl,fin S2 f fun H3 S3=>⟨⟨_,rfl⟩,S3⟩⟩⟩⟩
   ·exact⟨p,dx,_,⟨t.c_zaq,V6 K t⟩,rfl,.head _,e,rfl,⟨ae _,ae _⟩,⟨p,d,S,z,rfl,hP1,(fun r hr=>ab (B1 hr) hz),fun _ H2 a S2 f=>⟨a,rfl,fin S2 f fun H3 S3=>⟨⟨_,rfl⟩,S3⟩⟩⟩⟩
   ·exact⟨p,dx,_,⟨t.c_zaq,Zj K t⟩,rfl,.head _,e,rfl,⟨ae _,ae _⟩,⟨p,d,S,z,rfl,hP1,(fun r hr=>ab (B1 hr) hz),fun _ H2 a S2 f=>⟨a,rfl,fin S2 f fun H3 S3=>⟨⟨_,rfl⟩,S3⟩⟩⟩⟩
   ·have n0:z ≠ "" := fun c=>by have:=hm5 c;omega
    exact⟨p,dx,_,⟨t.c_zaq,Zm K t⟩,rfl,.head _,e,rfl,⟨ae _,ae _⟩,⟨p,d,S,z,rfl,hP1,T,(fun c=>ab (c.resolve_left n0) hz),fun _ _ H2 a S2 f=>⟨a,rfl,fin S2 f fun H3 S3=>⟨⟨_,rfl⟩,S3⟩⟩⟩⟩
   ·have n0:z ≠ "" := fun c=>by have:=hm5 c;omega
    exact⟨p,dx,_,⟨t.c_zaq,V5 K t⟩,rfl,.head _,e,rfl,⟨ae _,ae _⟩,⟨p,d,S,z,rfl,hP1,T,(fun c=>ab (c.resolve_left n0) hz),fun _ _ H2 a S2 f=>⟨a,rfl,fin S2 f fun H3 S3=>⟨⟨_,rfl⟩,S3⟩⟩⟩⟩
  ·rintro σ H1 ⟨⟨v,rfl⟩,S1⟩
   rw [Cf]
   have:=k H1 S1
   rw [<- decide_eq_true (show (m:Int)=m from rfl)] at this
   exact .inl this
end
noncomputable def hF (c:Int) (z:Str):Nat:=if z = "" then 11 else match (cL 10).find? (fun k=>decide (nmF c k=z)) with
 | some k=>10 - k
 | none=>0
theorem bk5 (c:Int) (z:Str):hF c z<12:=by
 unfold hF
 split
 ·omega
 ·split <;> omega
theorem as2 {c:Int} {k:Nat} (h:k<10):hF c (nmF c k)=10 - k:=by
 unfold hF
 rw [if_neg (Ug c k)]
 cases e:(cL 10).find? (fun j=>decide (nmF c j=nmF c k)) with
 | none=>
  have:=List.find?_eq_none.mp e k (List.mem_range.mpr h)
  exact absurd (decide_eq_true rfl) this
 | some j=>
  have h0:=List.find?_some e
  have h1:=of_decide_eq_true (show decide (nmF c j=nmF c k)=true from h0)
  have h2:=List.mem_range.mp (List.mem_of_find?_eq_some e)
  rw [Na (by omega) (by omega) h1]
theorem a29 (c:Int):hF c "" = 11:=if_pos rfl
theorem a43 (c:Int):∀ m,m<=12->(Ou c m).Nodup:=by
 intro m h
 unfold Ou
 induction m with
 | zero=>exact f_
 | succ m ih=>
  rw [km,ba]
  refine List.nodup_append.mpr ⟨ih (by omega),by simp,fun a ha b hb e=>?_⟩
  obtain⟨j,hj,rfl⟩:=List.mem_map.mp ha
  have hj:=List.mem_range.mp hj
  have hb:b=nmF c m:=by simpa using hb
  rw [hb] at e
  have:=Na (by omega) (by omega) e
  omega
theorem Uh (c:Int) (m:Nat):(Ou c m).length=m:=by unfold Ou;rw [ag,fV]
structure Mk (c:Int) (i:Nat) (R:Rs) (hs:List Str):Prop where
 ks:keys R=Ou c i
 up:∀ z r,get R z=some r->hF c z<hF c r.pr
 rk:∀ z r,get R z=some r->rkI r.rk
 ho:hs≠[]/\hs.length<=i+1 /\ ∀ y∈hs,10 - i<hF c y
theorem Mk.start (c:Int):Mk c 0 [] [""]:=⟨rfl,(fun z r h=>by cases h),(fun z r h=>by cases h),by simp,by simp,fun y hy=>by
 rw [List.mem_singleton.mp hy,a29]
 omega⟩
theorem Mk.step {c:Int} {i:Nat} {R:Rs} {hs:List Str} {r:Rc} (M:Mk c i R hs) (hi:i<10) (hp:r.pr∈hs) (hk:rkI r.rk) (b:Bool):Mk c (i+1) (Cy R (nmF c i) r) (if b=true then hs++[nmF c i] else hs):=by
 have nh:has R (nmF c i)=false:=by
  rw [cJ]
  intro h
  have:=mem_keys.mpr h
  rw [M.ks] at this
  have:=Ui (by omega) (by omega) this
  omega
 refine⟨?_,fun z s h=>?_,fun z s h=>?_,?_⟩
 ·rw [Dj,if_neg (by rw [nh];exact ak),M.ks]
  unfold Ou
  rw [km,ba]
  rfl
 ·rw [Fg] at h
  split at h
  ·rename_i e
   cases h
   rw [<- e,as2 hi]
   exact M.ho.2.2 _ hp
  ·exact M.up z s h
 ·rw [Fg] at h
  split at h
  ·cases h;exact hk
  ·exact M.rk z s h
 ·have old:∀ y∈hs,10 - (i+1)<hF c y:=fun y hy=>by have:=M.ho.2.2 y hy;omega
  cases b with
  | false=>exact⟨M.ho.1,(show hs.length<=i+1+1 by have:=M.ho.2.1;omega),old⟩
  | true=>
   refine⟨by simp,?_,fun y hy=>?_⟩
   ·show (hs++[nmF c i]).length<=_
    rw [aI,cq]
    have:=M.ho.2.1
    omega
   ·rcases List.mem_append.mp hy with hy|hy
    ·exact old y hy
    ·rw [List.mem_singleton.mp hy,as2 hi]
     omega
theorem Mk.tr {c:Int} {i:Nat} {R:Rs} {hs:List Str} (M:Mk c i R hs) (hi:i<=10):Tr R:=by
 refine⟨by rw [M.ks];exact a43 c i (by omega),by rw [<- Ar,M.ks,Uh];exact hi,?_,hF c,bk5 c,M.up⟩
 rw [M.ks]
 intro h
 obtain⟨j,_,e⟩:=List.mem_map.mp h
 exact Ug c j e
theorem bj1 {α:Type} (xs:List Int):∃ ys:List Int,D0 (xs.map V.int) (some 5) (some 15)=ys.map V.int/\ys.length<=10:=by
 unfold D0
 rw [<- List.map_drop,<- iB]
 refine⟨_,rfl,?_⟩
 rw [a_,ag,show (some (15:Int))=some ((15:Nat):Int) from rfl,show (some (5:Int))=some ((5:Nat):Int) from rfl,HT.sIx_nat,HT.sIx_nat]
 omega
theorem Tf {α:Type} {xs:List α} (i:Int) (h:xs≠[]):∃ v,v∈xs/\atI xs (i % (xs.length:Int))=some v:=by
 have hl:0<xs.length:=List.length_pos_iff.mpr h
 exact atM i _ rfl (by omega)
section
variable {P:aK} {w:bt} {K:aa} {mg:Str->Option Value} {base:Heap} {t:Adr}
theorem sto {H:Hp} {d:Addr} {S:Rs} {z:Str} {r:Rc} {x:V} {N:Hp->Prop} (hR:RsAt K H d S) (hl:S.length<100) (hx:RcAt K H r x) (k:∀ H',But d H H'->RsAt K H' d (Cy S z r)->N H'):ae0 (.ref d) (.str z) x H N:=by
 obtain⟨kvs,ed,g⟩:=hR
 have B:But d H (upd H d (.dK (Dp kvs (.inr z) x))):=But.upd
 exact⟨_,.inl ⟨kvs,.inr z,ed,rfl,by rw [g.len];exact i5 hl (by decide),rfl⟩,k _ B ⟨_,Ad,(g.put hx).keep (B.tk ed)⟩⟩
theorem But.same {H H1 H2:Hp} {d:Addr} (b:But d H1 H2) (S:Same H H1) (h:H d=none):Same H H2:=fun c o e=>b c o (fun z=>by rw [z,h] at e;cases e) (S c o e)
theorem bn7 {f:Addr} {fd:aH} (Z:Aw K t) (F:FunD K "_law_records" "_law_records" Rx f fd .none) (T:Tab P w K mg base 4 (Ik K t) bl):FnOk P w K mg base CX0 5 f fd Yd (af0 K t):=by
 refine F.okW0 bv5 b04 T (bs9 K t) (fun vs H Q E h=>?_) (fun vs H Q E h=>?_)
 ·obtain⟨a,ns,rfl,_⟩:=h;rfl
 ·obtain⟨a,ns,rfl,hA,hl,k⟩:=h
  refine fun d hd=>.inl ?_
  have S1:=Same.upd (o:=.dK []) hd
  have ed:upd H d (.dK []) d=some (.dK []):=Ad
  generalize upd H d (.dK [])=H1 at S1 ed ⊢
  refine⟨(show 1<=sizeLine by decide),fun h hh=>?_⟩
  have S2:=S1.trans (Same.upd (o:=.lst [.str ""]) hh)
  have eh:upd H1 h (.lst [.str ""]) h=some (.lst ([("" : Str)].map V.str)):=Ad
  have ed2:=Same.upd (o:=.lst [.str ""]) hh _ _ ed
  have hd0:H h=none:=S1.free hh
  have nhd:h≠d:=fun c=>by rw [c,ed] at hh;cases hh
  generalize upd H1 h (.lst [.str ""])=H2 at S2 eh ed2 ⊢
  obtain⟨ys,ey,ly⟩:=bj1 (α:=Nat) ns
  refine .inl ⟨_,S2.seqL hA,fun p hp=>.inl ⟨⟨_,SqL.of Ad⟩,?_⟩⟩
  rw [ey]
  have S3:=S2.trans (Same.upd (o:=.lst (ys.map V.int)) hp)
  have ep:upd H2 p (.lst (ys.map V.int)) p=some (.lst (ys.map V.int)):=Ad
  have eh3:=Same.upd (o:=.lst (ys.map V.int)) hp _ _ eh
  have ed3:=Same.upd (o:=.lst (ys.map V.int)) hp _ _ ed2
  have nph:p≠h:=fun c=>by rw [c,eh] at hp;cases hp
  have npd:p≠d:=fun c=>by rw [c,ed2] at hp;cases hp
  generalize upd H2 p (.lst (ys.map V.int))=H3 at S3 ep eh3 ed3 ⊢
  generalize hc:C9 ns 0=c at k
  refine ai6 (aq9 (ys.map V.int)) (fun i σ H'=>(∃ v3 v4 v5 v6 v7,σ=[some (.ref a),some (.ref d),some (.ref h),v3,v4,v5,v6,v7])/\Same H H'/\H' p=some (.lst (ys.map V.int)) /\ ∃ R hs,RsAt K H' d R/\H' h=some (.lst (hs.map V.str))/\Mk c i R hs)
   ⟨⟨_,_,_,_,_,rfl⟩,S3,ep,[],[""],⟨[],ed3,rfl⟩,eh3,Mk.start c⟩ (fun i σ H' _ q=>SqL.of q.2.2.1) ?_ ?_
  ·rintro i x y T σ H4 hx hT ⟨⟨v3,v4,v5,v6,v7,rfl⟩,S4,ep4,R,hs,hR,eh4,M⟩
   obtain⟨hi,ex,ey2⟩:i<ys.length/\x=.int (i:Int) /\ ∃ n:Int,y=.int n:=by
    have hi:=(List.getElem?_eq_some_iff.mp hx).1
    rw [Ff,ag] at hi
    have:=Hh (k:=0) (xs:=ys.map V.int) (i:=i) (x:=.int ys[i]) (by rw [aA,aj hi];rfl)
    rw [this] at hx
    cases hx
    exact⟨hi,by rw [hX],_,rfl⟩
   obtain⟨n,rfl⟩:=ey2
   subst ex
   refine⟨_,SqT.of Ad,rfl,?_⟩
   have S5:=Same.upd (o:=.tup [.int (i:Int),.int n]) hT
   generalize upd H4 T (.tup [.int (i:Int),.int n])=H5 at S5 ⊢
   refine⟨n,4,rfl,by decide,fun H6 l xs S6 hl6 el6 en eb=>?_⟩
   match xs,en with
   | [n0,n1,n2,n3],_=>
    have q6:SqL K H6 l [.int n0,.int n1,.int n2,.int n3]:=SqL.of el6
    have S46:=S5.trans S6
    refine⟨a,ns,0,rfl,(S4.trans S46).seqL hA,c,i,by rw [hc];rfl,by omega,fun H7 S7=>?_⟩
    have S47:=S46.trans S7
    have q7:=S7.seqL q6
    refine⟨(show 4<=sizeLine by decide),fun b1 hb1=>⟨_,_,.inl ((Same.upd hb1).seqL q7),rfl,by decide,?_⟩⟩
    obtain⟨v,hv,ev⟩:=atM (xs:=[V.str "chapter", .str "chapter", .str "para", .str "table"]) n0 4 rfl (by decide)
    obtain⟨kd,rfl⟩:∃ kd:Str,v=.str kd:=by
     simp only [aF,bN,or_false] at hv
     rcases hv with rfl|rfl|rfl|rfl <;> exact⟨_,rfl⟩
    refine⟨_,_,.inl (SqL.of Ad),ev,?_⟩
    have S8:=S47.trans (Same.upd (o:=.lst [.str "chapter", .str "chapter", .str "para", .str "table"]) hb1)
    have q8:=(Same.upd (o:=.lst [.str "chapter", .str "chapter", .str "para", .str "table"]) hb1).seqL q7
    generalize upd H7 b1 (.lst [.str "chapter", .str "chapter", .str "para", .str "table"])=H8 at S8 q8 ⊢
    have eh8:=S8 _ _ eh4
    obtain⟨pr,hpr,epr⟩:=Tf (xs:=hs.map V.str) n1 (by simpa using M.ho.1)
    obtain⟨py,hpy,rfl⟩:=List.mem_map.mp hpr
    have l0:0<(hs.map V.str).length:=List.length_pos_iff.mpr (by simpa using M.ho.1)
    refine⟨_,_,.inl q8,rfl,.inl ⟨_,.inl (SqL.of eh8),by omega,_,_,.inl (SqL.of eh8),epr,?_⟩⟩
    refine⟨_,_,.inl q8,rfl,n2,rfl,fun rk H9 S9 hrk=>?_⟩
    have q9:=S9.seqL q8
    refine⟨_,_,.inl q9,rfl,kd,n3+(i:Int),rfl,fun D HA xc SA hD aD=>?_⟩
    refine⟨(show 4<=sizeLine by decide),fun b2 hb2=>?_⟩
    have SB:=((S8.trans S9).trans SA).trans (Same.upd (o:=.tup [.str kd,.str py,.int rk,xc]) hb2)
    have eB:upd HA b2 (.tup [.str kd,.str py,.int rk,xc]) b2=some (.tup [.str kd,.str py,.int rk,xc]):=Ad
    have aB:=Lk (Same.upd (o:=.tup [.str kd,.str py,.int rk,xc]) hb2) aD
    generalize upd HA b2 (.tup [.str kd,.str py,.int rk,xc])=HB at SB eB aB ⊢
    have lR:R.length=i:=by rw [<- Ar,M.ks,Uh]
    refine sto (r:=⟨kd,py,rk,D⟩) (hR.up SB) (by omega) ⟨b2,xc,rfl,SqT.of eB,aB,hD⟩ fun HC BC RC=>?_
    have SC:=BC.same (S4.trans SB) hd
    have ehC:=BC _ _ nhd (SB _ _ eh4)
    have epC:=BC _ _ npd (SB _ _ ep4)
    have st:=M.step (r:=⟨kd,py,rk,D⟩) (by omega) hpy hrk (decide (kd = "chapter"))
    refine Hm (c:=decide (kd = "chapter")=true) (fun e=>?_) (fun e=>?_)
    ·rw [if_pos e] at st
     have lh:=M.ho.2.1
     refine⟨.inl ⟨rfl,_,SqL.of ehC⟩,h,_,_,rfl,rfl,ehC,?_,⟨_,_,_,_,_,rfl⟩,SC.set hd0,by rw [Ah nph];exact epC,_,_,?_,?_,st⟩
     ·rw [ag];exact b6 (show _<=11 by omega) (by decide)
     ·obtain⟨kvs,e1,e2⟩:=RC
      exact⟨kvs,by rw [Ah (bO nhd)];exact e1,e2.keep (TKeep.lst ehC)⟩
     ·rw [Ad,ba];rfl
    ·rw [if_neg e] at st
     exact⟨⟨_,_,_,_,_,rfl⟩,SC,epC,_,_,RC,ehC,st⟩
  ·rintro σ H4 ⟨⟨v3,v4,v5,v6,v7,rfl⟩,S4,ep4,R,hs,hR,eh4,M⟩
   rw [Ff,ag] at M
   exact .inl (k H4 d R ys.length S4 hd hR (M.tr ly) ly M.ks M.rk)
end
theorem Ph (z:Str):∀ S:Rs,D5 (kyK S) (rsD S) (.inr z)=(get S z).map rcD
 | []=>rfl
 | (y,r)::S=>by
  show (if (eJ y:Key)=.inr z then some (rcD r) else D5 (kyK S) (rsD S) (.inr z))=_
  by_cases e:y=z
  ·rw [if_pos (by rw [e]),Bk e];rfl
  ·rw [if_neg (fun c=>e (gw c)),Bd e]
   exact Ph z S
noncomputable def Y4 (S':Rs) (p:Str×Rc):Bool:=match get S' p.1 with
 | none=>false
 | some r=>deq (rcD p.2) (rcD r)
theorem Lu (S':Rs):∀ S:Rs,Jk (kyK S') (rsD S') (kyK S) (rsD S)=S.all (Y4 S')
 | []=>rfl
 | (y,r)::S=>by
  rw [bF,<- Lu S' S]
  show ((match D5 (kyK S') (rsD S') (.inr y) with
   | none=>false
   | some d'=>deq (rcD r) d')&&Jk (kyK S') (rsD S') (kyK S) (rsD S))=_
  rw [Ph]
  congr 1
  unfold Y4
  cases get S' y <;> rfl
theorem Ks (S S':Rs):Kr S S'=(S.length==S'.length&&S.all (Y4 S')):=by
 unfold Kr P5
 rw [Lu]
 congr 2
 ·unfold kyK;rw [ag,Ar]
 ·unfold kyK;rw [ag,Ar]
theorem bq8 {r r':Rc} (h:r.pr≠r'.pr):deq (rcD r) (rcD r')=false:=by
 unfold rcD deq
 unfold Ei
 unfold Ei
 rw [Yx r.pr,decide_eq_false h,kU,fw]
theorem bq9 {r r':Rc} (h:r.rk≠r'.rk):deq (rcD r) (rcD r')=false:=by
 unfold rcD deq
 unfold Ei
 unfold Ei
 unfold Ei
 have:deq (Lb r.rk) (Lb r'.rk)=false:=by
  unfold Lb deq
  show decide (r.rk=r'.rk)=false
  exact decide_eq_false h
 rw [this,kU,fw,fw]
theorem Kt {S S':Rs} {z:Str} {r r':Rc} (n:(keys S).Nodup) (h:get S z=some r) (h':get S' z=some r') (e:deq (rcD r) (rcD r')=false):Kr S S'=false:=by
 rw [Ks,j_]
 right
 rw [List.all_eq_false]
 refine⟨(z,r),(M4 n).mp h,?_⟩
 unfold Y4
 rw [h']
 show ¬ deq (rcD r) (rcD r')=true
 rw [e]
 exact ak
section
variable {P:aK} {w:bt} {K:aa} {mg:Str->Option Value} {base:Heap} {t:Adr} {H H':Hp} {p d d2:Addr} {S S' S2:Rs}
theorem Fo (h:RdAt K H d S) (L:Like S S') (nd:(keys S).Nodup):Kr S S'=true:=by
 rw [Ks,aw]
 refine⟨by rw [<- Ar,<- Ar,L.1.length_eq];exact beq_self_eq_true _,List.all_eq_true.mpr fun q hq=>?_⟩
 obtain⟨z,r⟩:=q
 have g:=(M4 nd).mpr hq
 obtain⟨x,_,hx⟩:=h.rc g
 unfold Y4
 rw [<- L.2,g]
 exact Ew hx.at
theorem PlIn.but (h:PlIn t H p d2) {kvs:List (Key×V)} (e:H d=some (.dK kvs)) (b:But d H H'):PlIn t H' p d2:=by
 obtain⟨dx,h⟩:=h
 exact⟨dx,b _ _ (fun c=>by rw [c,e] at h;cases h) h⟩
theorem PwAt.but (h:PwAt K t H p d S) (b:But d H H') (r:RsAt K H' d S'):PwAt K t H' p d S':=by
 obtain⟨kvs,e,_⟩:=h.2
 exact⟨h.1.but e b,r⟩
theorem RsAt.other (h:RsAt K H d S) (h2:RsAt K H d2 S2) (ne:d≠d2) (b:But d2 H H'):RsAt K H' d S:=by
 obtain⟨kvs,e,g⟩:=h
 obtain⟨kvs2,e2,_⟩:=h2
 exact⟨kvs,b _ _ ne e,g.keep (b.tk e2)⟩
theorem RdAt.other (h:RdAt K H d S) (h2:RsAt K H d2 S2) (ne:d≠d2) (b:But d2 H H'):RdAt K H' d S:=by
 obtain⟨kvs,e,g⟩:=h
 obtain⟨kvs2,e2,_⟩:=h2
 refine⟨kvs,?_,g.keep (b.tk e2)⟩
 rcases e with e|⟨u,e⟩
 ·exact .inl (b _ _ ne e)
 ·exact .inr ⟨u,b _ _ ne e⟩
theorem PwAt.other (h:PwAt K t H p d S) (h2:RsAt K H d2 S2) (ne:d≠d2) (b:But d2 H H'):PwAt K t H' p d S:=by
 obtain⟨kvs,e,_⟩:=id h2
 exact⟨h.1.but e b,h.2.other h2 ne b⟩
theorem PlAt.other (h:PlAt K t H p d S) (h2:RsAt K H d2 S2) (ne:d≠d2) (b:But d2 H H'):PlAt K t H' p d S:=by
 obtain⟨kvs,e,_⟩:=id h2
 exact⟨h.1.but e b,h.2.other h2 ne b⟩
theorem RsAt.ne (h:RsAt K H d S) (e:H d2=none):d≠d2:=fun c=>by
 obtain⟨kvs,e2,_⟩:=h
 rw [c,e] at e2
 cases e2
theorem RdAt.ne (h:RdAt K H d S) (e:H d2=none):d≠d2:=fun c=>by
 obtain⟨kvs,e2|⟨u,e2⟩,_⟩:=h
 ·rw [c,e] at e2;cases e2
 ·rw [c,e] at e2;cases e2
noncomputable def Z4 (t:Adr) (H:Hp) (a dx d:Addr):Hp:=upd (upd (upd (upd H dx (.own a)) a (.ins t.c_zaq dx [])) d (.dK [])) a (.ins t.c_zaq dx [("records", .ref d)])
theorem au0 {a dx d0:Addr} (ha:H a=none) (hdx:H dx=none) (ne:dx≠a) (hd0:upd (upd H dx (.own a)) a (.ins t.c_zaq dx []) d0=none):H d0=none/\Same H (Z4 t H a dx d0)/\PwAt K t (Z4 t H a dx d0) a d0 []:=by
 have n1:d0≠a:=fun c=>by rw [c,Ad] at hd0;cases hd0
 have n2:d0≠dx:=fun c=>by rw [c,Ah ne,Ad] at hd0;cases hd0
 have hd1:H d0=none:=by rw [Ah n1,Ah n2] at hd0;exact hd0
 exact⟨hd1,(((Same.upd hdx).set ha).set hd1).set ha,⟨dx,Ad⟩,[],by unfold Z4;rw [Ah n1,Ad],rfl⟩
theorem Uf {z:Str} {r:Rc} {y:V} {Q:VK} {E:EK} (hP:PwAt K t H p d S) (hl:S.length<100) (hy:At K H r.ct y) (hc:Jh r.ct) (k:∀ H',But d H H'->PwAt K t H' p d (Cy S z r)->Q .non H') :
  ∃ a dx fs mi,V.ref p=.ref a/\mi∈C8 K t/\H a=some (.ins mi.C dx fs)/\fs.lookup (cr "lay")=none/\(5+1<=mi.i.ps.length/\mi.i.ps.length<=5+1+mi.i.dfs.length)/\spE mi.i.sp (mi.i.dfs.drop (5+1+mi.i.dfs.length - mi.i.ps.length)) [.ref a,.str z,.str r.kd,.str r.pr,.int r.rk,y] H Q E:=by
 obtain⟨dx,e⟩:=id hP.1
 exact⟨p,dx,_,⟨t.c_zaq,Ol K t⟩,rfl,.head _,e,rfl,⟨ae _,ae _⟩,⟨p,d,S,z,r,y,rfl,hP,hl,hy,hc,fun H' B R=>k H' B (hP.but B R)⟩⟩
end
section
variable {P:aK} {w:bt} {K:aa} {mg:Str->Option Value} {base:Heap} {t:Adr}
theorem ag4 {x y:Str} (h:x≠y):[x,y].Nodup:=by simp [h]
theorem a55 {f:Addr} {fd:aH} (Z:Aw K t) (F:FunD K "_law_ring" "_law_ring" Ko f fd .none) (T:Tab P w K mg base 4 (Ik K t) bl):FnOk P w K mg base CX0 5 f fd N7 (Sh K t):=by
 refine F.okW0 be6 bh6 T (bd2 K t) (fun vs H Q E h=>?_) (fun vs H Q E h=>?_)
 ·obtain⟨x,y,rfl,_⟩:=h;rfl
 ·obtain⟨x,y,rfl,xy,x0,y0,k⟩:=h
  intro p dxp hp0 hdxp nep
  refine⟨p,dxp,rfl,Ad,fun d hd0=>⟨rfl,?_⟩⟩
  obtain⟨hd,S1,hP1⟩:=au0 (K:=K) (t:=t) hp0 hdxp nep hd0
  refine (show ∀ H1,Same H H1->PwAt K t H1 p d []->_ from ?_) (Z4 t H p dxp d) S1 hP1
  intro H1 S1 hP1
  refine Uf (r:=⟨"chapter", y,0,A1 ""⟩) hP1 (by decide) Bw (F0 _) fun H2 B2 hP2=>?_
  have s2:Cy [] x ⟨"chapter", y,0,A1 ""⟩=[(x,⟨"chapter", y,0,A1 ""⟩)]:=rfl
  rw [s2] at hP2
  refine Uf (r:=⟨"chapter", x,1,A1 "b"⟩) hP2 (by show 1<100;decide) Bw (F0 _) fun H3 B3 hP3=>?_
  have s3:Cy [(x,⟨"chapter", y,0,A1 ""⟩)] y ⟨"chapter", x,1,A1 "b"⟩=[(x,⟨"chapter", y,0,A1 ""⟩),(y,⟨"chapter", x,1,A1 "b"⟩)]:=by
   unfold Cy
   rw [if_neg (by simp [xy])]
   rfl
  rw [s3] at hP3
  have S3:Same H H3:=B3.same (B2.same S1 hd) hd
  have nd:(keys [(x,(⟨"chapter", y,0,A1 ""⟩:Rc)),(y,⟨"chapter", x,1,A1 "b"⟩)]).Nodup:=ag4 xy
  have gx:get [(x,(⟨"chapter", y,0,A1 ""⟩:Rc)),(y,⟨"chapter", x,1,A1 "b"⟩)] x=some ⟨"chapter", y,0,A1 ""⟩:=Bk rfl
  have gy:get [(x,(⟨"chapter", y,0,A1 ""⟩:Rc)),(y,⟨"chapter", x,1,A1 "b"⟩)] y=some ⟨"chapter", x,1,A1 "b"⟩:=(Bd xy).trans (Bk rfl)
  have lS:[(x,(⟨"chapter", y,0,A1 ""⟩:Rc)),(y,⟨"chapter", x,1,A1 "b"⟩)].length=2:=rfl
  have eS:keys [(x,(⟨"chapter", y,0,A1 ""⟩:Rc)),(y,⟨"chapter", x,1,A1 "b"⟩)]=[x,y]:=rfl
  clear s2 s3 B2 B3 hP2 hP1 S1
  generalize [(x,(⟨"chapter", y,0,A1 ""⟩:Rc)),(y,⟨"chapter", x,1,A1 "b"⟩)]=S at hP3 nd gx gy lS eS
  obtain⟨dx3,e3⟩:=id hP3.1
  refine⟨p,dx3,_,⟨t.c_zaq,Qk K t⟩,rfl,.head _,e3,rfl,⟨ae _,ae _⟩,⟨p,d,S,rfl,hP3.rd,fun H4 p' d' S4 hd' hT4=>?_⟩⟩
  have hP4:=hP3.up S4
  obtain⟨dx4,e4⟩:=id hT4.1
  have ne:d≠d':=hP3.2.ne hd'
  refine⟨p',dx4,_,⟨t.c_zaq,La K t⟩,rfl,.head _,e4,rfl,⟨ae _,ae _⟩,⟨p',d',p,d,S,S,rfl,hT4.rd,hP4.rd,?_⟩⟩
  rw [Fo hT4.2.rd (Like.refl S) nd]
  refine⟨p',dx4,_,⟨t.c_zaq,Om K t⟩,rfl,.head _,e4,rfl,⟨ae _,ae _⟩,⟨p',d',S,rfl,hT4.rd,nd,by omega,fun l hl=>?_⟩⟩
  have S5:=Same.upd (o:=.lst ((Ak ltS (keys S)).map V.str)) hl
  have el:upd H4 l (.lst ((Ak ltS (keys S)).map V.str)) l=some (.lst ((Ak ltS (keys S)).map V.str)):=Ad
  generalize upd H4 l (.lst ((Ak ltS (keys S)).map V.str))=H5 at S5 el ⊢
  refine⟨(show 2<=sizeLine by decide),fun l2 hl2=>.inr ⟨rfl,l2,[x,y],rfl,.inl (SqL.of Ad),ag4 xy,(show 2<64 by decide),fun D hD=>?_⟩⟩
  have S6:=(S5.trans (Same.upd (o:=.lst [.str x,.str y]) hl2)).trans (Same.upd (o:=.lst ((Ak ltS [x,y]).map V.str)) hD)
  have el6:=(Same.upd (o:=.lst [.str x,.str y]) hl2).trans (Same.upd (o:=.lst ((Ak ltS [x,y]).map V.str)) hD) _ _ el
  have eD:upd (upd H5 l2 (.lst [.str x,.str y])) D (.lst ((Ak ltS [x,y]).map V.str)) D=some (.lst ((Ak ltS [x,y]).map V.str)):=Ad
  refine (show ∀ H6,Same H4 H6->H6 l=some (.lst ((Ak ltS (keys S)).map V.str))->H6 D=some (.lst ((Ak ltS [x,y]).map V.str))->_ from ?_) (upd (upd H5 l2 (.lst [.str x,.str y])) D (.lst ((Ak ltS [x,y]).map V.str))) S6 el6 eD
  intro H6 S6 el6 eD
  rw [eS] at el6
  refine Ic rfl rfl (Cg (SqL.of el6)) (Cg (SqL.of eD)) ?_ ?_
  ·unfold dep
   have:=Ev (fun z=>Jj z) (Ak ltS [x,y])
   omega
  have hT6:=hT4.up S6
  have hP6:=hP4.up S6
  obtain⟨dx6,e6⟩:=id hT6.1
  refine⟨p',dx6,_,⟨t.c_zaq,Qi K t⟩,rfl,.head _,e6,rfl,⟨ae _,ae _⟩,⟨p',d',S,x,rfl,hT6.rd,(fun r hr _ _ _=>?_),fun c=>ab (B1 gx) c⟩⟩
  rw [gx] at hr
  cases hr
  refine bl4 (show (!decide (y=y))=false by rw [decide_eq_true rfl];rfl) ?_
  refine Uf (r:=⟨"chapter", "", 0,A1 ""⟩) hT6 (by omega) Bw (F0 _) fun H7 B7 hT7=>?_
  have hP7:=hP6.other hT6.2 ne B7
  have S7:Same H H7:=B7.same ((S3.trans S4).trans S6) (S3.free hd')
  obtain⟨dx7,e7⟩:=id hT7.1
  refine⟨p',dx7,_,⟨t.c_zaq,La K t⟩,rfl,.head _,e7,rfl,⟨ae _,ae _⟩,⟨p',d',p,d,_,S,rfl,hT7.rd,hP7.rd,?_⟩⟩
  rw [Kt (z:=x) (r:=⟨"chapter", "", 0,A1 ""⟩) (Ng nd) (by rw [Fg,if_pos rfl]) gx (bq8 (fun c=>y0 c.symm))]
  obtain⟨dx8,e8⟩:=id hP7.1
  refine⟨p,dx8,_,⟨t.c_zaq,Il K t⟩,rfl,.head _,e8,rfl,⟨ae _,ae _⟩,⟨p,d,S,x,rfl,hP7.rd,(fun r hr v hv=>?_),fun c=>ab (B1 gx) c⟩⟩
  rw [gx] at hr
  cases hr
  refine⟨(show 4<=sizeLine by decide),fun b hb=>?_⟩
  have S9:=Same.upd (o:=.tup [.str "chapter", .str y,.int 0,.str ""]) hb
  have eb:upd H7 b (.tup [.str "chapter", .str y,.int 0,.str ""]) b=some (.tup [.str "chapter", .str y,.int 0,.str ""]):=Ad
  generalize upd H7 b (.tup [.str "chapter", .str y,.int 0,.str ""])=H8 at S9 eb ⊢
  refine Uw (r:=⟨"chapter", y,0,A1 ""⟩) (hv.keep (TKeep.of S9)) ⟨b,_,rfl,SqT.of eb,Bw,F0 _⟩ ?_
  refine⟨p,dx8,_,⟨t.c_zaq,V8 K t⟩,rfl,.head _,S9 _ _ e8,rfl,⟨ae _,ae _⟩,⟨p,d,S,y,rfl,hP7.rd.up S9,?_⟩⟩
  rw [B1 gy]
  exact k H8 (S7.trans S9)
end
theorem M0 (xs:List V) (n:Nat):D0 xs none (some (n:Int))=xs.take n:=by
 unfold D0
 rw [HT.sIx_none,HT.sIx_nat,Nat.sub_zero,List.drop_zero,Nat.min_comm]
 exact List.take_eq_take_iff.mpr (by omega)
theorem Vo (xs:List V) (n:Nat):D0 xs (some (n:Int)) none=xs.drop n:=by
 unfold D0
 rw [HT.sIx_none,HT.sIx_nat]
 by_cases h:n<=xs.length
 ·rw [Nat.min_eq_left h,jY (by rw [fu];omega)]
 ·rw [Nat.min_eq_right (by omega),gQ (ae _),gQ (by omega),List.take_nil]
theorem a41 {xs:List Str} (h:xs.Nodup):Dr xs=xs:=by
 suffices g:∀ (xs σ:List Str),(σ++xs).Nodup->xs.foldl (fun σ k=>if σ.any (fun j=>decide (j=k)) then σ else σ++[k]) σ=σ++xs from g xs [] h
 intro xs
 induction xs with
 | nil=>intro σ _;rw [cO];rfl
 | cons x xs ih=>
  intro σ n
  rw [List.foldl_cons]
  have nx:¬ (σ.any fun j=>decide (j=x))=true:=fun c=>by
   obtain⟨y,hy,e⟩:=List.any_eq_true.mp c
   have e:=of_decide_eq_true e
   subst e
   exact (List.nodup_append.mp n).2.2 y hy y bx rfl
  rw [if_neg nx,ih _ (by rw [cX];exact n),cX]
  rfl
theorem Wf {S:Rs} {z:Str} {r:Rc} (nd:(keys S).Nodup):Ak ltS (Dr (Ak ltS (keys S)++[z]))=Ak ltS (keys (Cy S z r)):=by
 have n1:(Ak ltS (keys S)).Nodup:=(Am _ _).nodup_iff.mpr nd
 have hm:((Ak ltS (keys S)).any fun j=>decide (j=z))=true ↔ has S z=true:=by
  rw [ig,<- mem_keys]
  constructor
  ·rintro⟨y,hy,e⟩
   have e:=of_decide_eq_true e
   subst e
   exact (Am _ _).mem_iff.mp hy
  ·exact fun h=>⟨z,(Am _ _).mem_iff.mpr h,decide_eq_true rfl⟩
 refine Fq ?_ (Fk (M9 _))
 rw [Hr,a41 n1,Dj]
 by_cases c:has S z=true
 ·rw [if_pos (hm.mpr c),if_pos c]
  exact Am _ _
 ·rw [if_neg (fun e=>c (hm.mp e)),if_neg c]
  exact (Am _ _).append_right _
theorem Eu (zs:List Str):dep (.lst (zs.map A1))<=40:=by
 unfold dep
 have:=Ev (fun z=>Jj z) zs
 omega
section
variable {P:aK} {w:bt} {K:aa} {mg:Str->Option Value} {base:Heap} {t:Adr}
noncomputable def aq6 (K:aa) (t:Adr):DS:=
 (Ag (Eo (Di K (dSl K (Ab 5) Cu (Df (Ae Av (Ae Bc (dFn (spE (Cz K t) []) (Aa (Ab 0) (Aa (dC (.int 2)) Af))) (dC (.int 2))) (dC (.int 4)))))) (gdN 6) (Ag (A9 (An "lay" 5 (C8 K t) (Ab 2) (Aa (Ab 6) (Aa (dC (.str "para")) (Aa (dC (.str "")) (Aa (Ae Mf (dC (.int 10)) (dC (.int 9))) (Aa (dC (.str "first")) Af)))))))
  Ai))
 (Ag (Ax 7 (dFn (fun vs H Q _=>(D4 K true) vs H Q) (Aa (dSl K (Ab 5) Cu (Df (Ae Av (Ae Bc (dFn (spE (Cz K t) []) (Aa (Ab 0) (Aa (dC (.int 2)) Af))) (dC (.int 2))) (dC (.int 4))))) Af)))
 (Ag (Eo (Di K (Ab 5)) (gdN 6) (Ag (Hc (Ae (A6 K) (Ab 1) (Ab 6)) (gdT K 4 [(gdN 8),(gdN 9),(gdN 10),(gdN 11)]))
  (Ag (A9 (An "lay" 5 (C8 K t) (Ab 2) (Aa (Ab 6) (Aa (Ab 8) (Aa (Ab 9) (Aa (Ab 10) (Aa (Ab 11) Af)))))))
  (Ag (Ax 7 (dUn (G4 K) (Ae (A0 K) (Ab 7) (C6 (Aa (Ab 6) Af)))))
  (Ag (dIf (dOr (A7 (Ae (Be K true) (An "names" 0 (B0 K t) (Ab 2) Af) (Ab 7))) (dOr (A7 (Ae (Be K true) (An "state" 1 (Bl K t) (Ab 2) (Aa (Ab 6) Af)) (Ae (A6 K) (Ab 1) (Ab 6)))) (A7 (Ae (Ds true) (An "same" 1 (Bt K t) (An "copied" 0 (Bu K t) (Ab 2) Af) (Aa (Ab 2) Af)) (dC (.bl true)))))) (Ag (A5 (dC .non))
   Ai) Ai)
  Ai)))))
 (Ag (A5 (Ab 2))
 Ai))))
noncomputable def FR:Rc:=⟨"para", "", 1000000000,A1 "first"⟩
theorem at7 (Z:Aw K t) {H H1:Hp} {a d0 p d L:Addr} {ns:List Int} {R:Rs} {us:List Str} {Q:VK} {v3 v4:Option V} (hA:SqL K H a (ns.map V.int)) (hR:RsAt K H d0 R) (T:Tr R) (S1:Same H H1) (hd:H d=none) (hP:PwAt K t H1 p d []) (eL:H1 L=some (.lst (us.map V.str))) (hu:us.Perm (keys R)) (nLd:L≠d)
  (k:∀ H' p d' S,Same H H'->H d'=none->PwAt K t H' p d' S->Like S R->Q (.ref p) H'):aq6 K t (Jp Q fun _ _=>False) [some (.ref a),some (.ref d0),some (.ref p),v3,v4,some (.ref L),none,none,none,none,none,none] H1:=by
 have ud:us.Nodup:=hu.nodup_iff.mpr T.nd
 have ul:us.length<=10:=by rw [hu.length_eq,Ar];exact T.few
 refine⟨a,ns,2,rfl,S1.seqL hA,⟨by decide,by decide⟩,by decide,.inl ⟨_,SqL.of eL,fun l5 hl5=>.inl ⟨⟨_,SqL.of Ad⟩,?_⟩⟩⟩
 obtain⟨m,em,hm4⟩:=Gk (C9 ns 2 / 2) (m:=4) (by decide)
 have em:C9 ns 2 / 2 % 4=(m:Int):=em
 rw [em,M0,<- iB]
 have S2:=S1.trans (Same.upd (o:=.lst ((us.take m).map V.str)) hl5)
 have e5:upd H1 l5 (.lst ((us.take m).map V.str)) l5=some (.lst ((us.take m).map V.str)):=Ad
 have eL2:=Same.upd (o:=.lst ((us.take m).map V.str)) hl5 _ _ eL
 have hP2:=hP.up (Same.upd (o:=.lst ((us.take m).map V.str)) hl5)
 have n5d:l5≠d:=fun c=>by
  obtain⟨_,e,_⟩:=hP.2
  rw [c,e] at hl5
  cases hl5
 generalize upd H1 l5 (.lst ((us.take m).map V.str))=H2 at S2 e5 eL2 hP2 ⊢
 refine C7 (Cj ((us.take m).map V.str)) (fun i σ H'=>(∃ v6,σ=[some (.ref a),some (.ref d0),some (.ref p),v3,v4,some (.ref L),v6,none,none,none,none,none])/\Same H H'/\H' l5=some (.lst ((us.take m).map V.str))/\H' L=some (.lst (us.map V.str)) /\ ∃ S,PwAt K t H' p d S/\(keys S).Nodup/\keys S=(us.take m).take i)
  ⟨⟨_,rfl⟩,S2,e5,eL2,[],hP2,f_,rfl⟩ (fun i σ' H' _ h=>SqL.of h.2.2.1) ?_ ?_
 ·rintro i x σ H3 hx ⟨⟨v6,rfl⟩,S3,e53,eL3,S,hP3,nd,ks⟩
  rw [aA] at hx
  obtain⟨z,hz,rfl⟩:=Option.map_eq_some_iff.mp hx
  have lS:S.length<=10:=by
   rw [<- Ar,ks,a_,a_];omega
  have udm:(us.take m).Nodup:=ud.sublist (jo _ _)
  have nh:has S z=false:=by
   rw [cJ]
   intro c
   have:=mem_keys.mpr c
   rw [ks] at this
   exact Iw udm hz this
  obtain⟨dx3,e3⟩:=id hP3.1
  refine⟨p,dx3,_,⟨t.c_zaq,Ol K t⟩,rfl,.head _,e3,rfl,⟨ae _,ae _⟩,a23,⟨p,d,S,z,FR,.str "first", rfl,hP3,by omega,Bw,F0 _,fun H4 B4 R4=>⟨⟨_,rfl⟩,B4.same S3 hd,B4 _ _ n5d e53,B4 _ _ nLd eL3,_,hP3.but B4 R4,Ng nd,?_⟩⟩⟩
  rw [Dj,if_neg (by rw [nh];exact ak),ks,bP,hz]
  rfl
 ·rintro σ H3 ⟨⟨v6,rfl⟩,S3,e53,eL3,S,hP3,nd,ks⟩
  rw [ag,bV] at ks
  refine .inl ⟨a,ns,2,rfl,S3.seqL hA,⟨by decide,by decide⟩,by decide,.inl ⟨_,SqL.of eL3,fun l7 hl7=>?_⟩⟩
  rw [em,M0,<- iB]
  have S4:=S3.trans (Same.upd (o:=.lst ((us.take m).map V.str)) hl7)
  have e7:upd H3 l7 (.lst ((us.take m).map V.str)) l7=some (.lst ((us.take m).map V.str)):=Ad
  have eL4:=Same.upd (o:=.lst ((us.take m).map V.str)) hl7 _ _ eL3
  have hP4:=hP3.up (Same.upd (o:=.lst ((us.take m).map V.str)) hl7)
  generalize upd H3 l7 (.lst ((us.take m).map V.str))=H4 at S4 e7 eL4 hP4 ⊢
  refine .inr ⟨rfl,l7,us.take m,rfl,.inl (SqL.of e7),ud.sublist (jo _ _),by rw [a_];omega,fun D hD=>.inl ⟨⟨_,SqL.of (Same.upd hD _ _ eL4)⟩,?_⟩⟩
  have S5:=S4.trans (Same.upd (o:=.lst ((Ak ltS (us.take m)).map V.str)) hD)
  have eD:upd H4 D (.lst ((Ak ltS (us.take m)).map V.str)) D=some (.lst ((Ak ltS (keys S)).map V.str)):=by rw [ks];exact Ad
  have eL5:=Same.upd (o:=.lst ((Ak ltS (us.take m)).map V.str)) hD _ _ eL4
  have hP5:=hP4.up (Same.upd (o:=.lst ((Ak ltS (us.take m)).map V.str)) hD)
  generalize upd H4 D (.lst ((Ak ltS (us.take m)).map V.str))=H5 at S5 eD eL5 hP5 ⊢
  have sub0:∀ z∈keys S,z∈us:=fun z hz=>by rw [ks] at hz;exact iu hz
  clear hP4 hP3 e7 eL4 eL3 e53 S4 S3
  refine C7 (Cj (us.map V.str)) (fun i σ H'=>(∃ l7 v6 v8 v9 va vb,σ=[some (.ref a),some (.ref d0),some (.ref p),v3,v4,some (.ref L),v6,some (.ref l7),v8,v9,va,vb] /\ ∃ S,H' l7=some (.lst ((Ak ltS (keys S)).map V.str))/\PwAt K t H' p d S/\(keys S).Nodup/\(∀ z∈keys S,z∈us) /\ ∀ z∈us.take i,get S z=get R z)/\Same H H'/\H' L=some (.lst (us.map V.str)))
   ⟨⟨D,_,_,_,_,_,rfl,S,eD,hP5,nd,sub0,(fun z hz=>by cases hz)⟩,S5,eL5⟩ (fun i σ' H' _ h=>SqL.of h.2.2) ?_ ?_
  ·rintro i x σ H6 hx ⟨⟨l7,v6,v8,v9,va,vb,rfl,S,e7,hP6,nd,sub,same⟩,S6,eL6⟩
   rw [aA] at hx
   obtain⟨z,hz,rfl⟩:=Option.map_eq_some_iff.mp hx
   have hzk:has R z=true:=mem_keys.mp (hu.mem_iff.mp (aY hz))
   have gz:=Bz hzk
   have lS:S.length<=10:=by
    have:=Ed nd sub
    rw [Ar] at this
    omega
   have hR6:=(hR.up S6)
   obtain⟨q,y,dg,hq,hy,hc⟩:=hR6.rd.get hzk
   refine⟨_,dg,_,hq,rfl,?_⟩
   refine Uf (r:=Ao R z) hP6 (by omega) hy hc fun H7 B7 hP7=>?_
   have S7:=B7.same S6 hd
   have n7:l7≠d:=fun c=>by
    obtain⟨_,e,_⟩:=hP6.2
    rw [c,e] at e7
    cases e7
   have e77:=B7 _ _ n7 e7
   have eL7:=B7 _ _ nLd eL6
   have nd':(keys (Cy S z (Ao R z))).Nodup:=Ng nd
   have sub':∀ y∈keys (Cy S z (Ao R z)),y∈us:=fun y hy=>by
    rw [Dj] at hy
    split at hy
    ·exact sub y hy
    ·rcases List.mem_append.mp hy with hy|hy
     ·exact sub y hy
     ·rw [List.mem_singleton.mp hy];exact aY hz
   have same':∀ y∈us.take (i+1),get (Cy S z (Ao R z)) y=get R y:=fun y hy=>by
    rw [Fg]
    split
    ·rename_i e;rw [<- e];exact gz.symm
    ·rename_i e
     rw [bP,hz] at hy
     rcases List.mem_append.mp hy with hy|hy
     ·exact same y hy
     ·exact absurd (List.mem_singleton.mp hy).symm e
   have gz':get (Cy S z (Ao R z)) z=some (Ao R z):=by rw [Fg,if_pos rfl]
   have lS':(Cy S z (Ao R z)).length<=11:=by have:=am6 (S:=S) (z:=z) (r:=Ao R z);omega
   have kp:=Wf (S:=S) (z:=z) (r:=Ao R z) nd
   have lk:(Ak ltS (keys S)).length<=10:=by rw [(Am _ _).length_eq,Ar];exact lS
   generalize Cy S z (Ao R z)=S' at hP7 nd' sub' same' gz' lS' kp
   refine⟨(show 1<=sizeLine by decide),fun b1 hb1=>.inl ⟨l7,b1,_,_,rfl,rfl,Same.upd hb1 _ _ e77,Ad,?_,fun b2 hb2=>?_⟩⟩
   ·rw [ag];exact aS (show _+1<=11 by omega) (by decide)
   have S8:=(Same.upd (o:=.lst [.str z]) hb1).trans (Same.upd (o:=.lst ((Ak ltS (keys S)).map V.str++[.str z])) hb2)
   have eb2:upd (upd H7 b1 (.lst [.str z])) b2 (.lst ((Ak ltS (keys S)).map V.str++[.str z])) b2=some (.lst ((Ak ltS (keys S)++[z]).map V.str)):=by rw [Ad,ba];rfl
   generalize upd (upd H7 b1 (.lst [.str z])) b2 (.lst ((Ak ltS (keys S)).map V.str++[.str z]))=H8 at S8 eb2 ⊢
   refine⟨Ak ltS (keys S)++[z],SqL.of eb2,by rw [aI];show _+1<30;omega,fun D hD=>?_⟩
   rw [kp]
   have S9:=S8.trans (Same.upd (o:=.lst ((Ak ltS (keys S')).map V.str)) hD)
   have eD:upd H8 D (.lst ((Ak ltS (keys S')).map V.str)) D=some (.lst ((Ak ltS (keys S')).map V.str)):=Ad
   generalize upd H8 D (.lst ((Ak ltS (keys S')).map V.str))=H9 at S9 eD ⊢
   have hP9:=hP7.up S9
   obtain⟨dx9,e9⟩:=id hP9.1
   refine⟨p,dx9,_,⟨t.c_zaq,Om K t⟩,rfl,.head _,e9,rfl,⟨ae _,ae _⟩,⟨p,d,S',rfl,hP9.rd,nd',by omega,fun l hl=>?_⟩⟩
   have SA:=S9.trans (Same.upd (o:=.lst ((Ak ltS (keys S')).map V.str)) hl)
   have elA:upd H9 l (.lst ((Ak ltS (keys S')).map V.str)) l=some (.lst ((Ak ltS (keys S')).map V.str)):=Ad
   have eDA:=Same.upd (o:=.lst ((Ak ltS (keys S')).map V.str)) hl _ _ eD
   generalize upd H9 l (.lst ((Ak ltS (keys S')).map V.str))=HA at SA elA eDA ⊢
   refine Ic rfl rfl (Cg (SqL.of elA)) (Cg (SqL.of eDA)) (Eu _) ?_
   have hPA:=hP7.up SA
   obtain⟨dxA,eA⟩:=id hPA.1
   have hRA:=hR.up (S7.trans SA)
   obtain⟨x0,dgA,hx0⟩:=hRA.rd.rc gz
   refine⟨p,dxA,_,⟨t.c_zaq,Il K t⟩,rfl,.head _,eA,rfl,⟨ae _,ae _⟩,⟨p,d,S',z,rfl,hPA.rd,(fun r1 hr1 x hx=>⟨_,dgA,?_⟩),fun c=>ab (B1 gz') c⟩⟩
   rw [gz'] at hr1
   cases hr1
   refine Uw hx hx0 ?_
   refine⟨p,dxA,_,⟨t.c_zaq,Qk K t⟩,rfl,.head _,eA,rfl,⟨ae _,ae _⟩,⟨p,d,S',rfl,hPA.rd,fun HB p' d' SB hd' hTB=>?_⟩⟩
   obtain⟨dxB,eB⟩:=id hTB.1
   refine⟨p',dxB,_,⟨t.c_zaq,La K t⟩,rfl,.head _,eB,rfl,⟨ae _,ae _⟩,⟨p',d',p,d,S',S',rfl,hTB.rd,(hPA.up SB).rd,?_⟩⟩
   rw [Fo hTB.2.rd (Like.refl S') nd']
   exact⟨⟨D,_,_,_,_,_,rfl,S',SB _ _ eDA,hPA.up SB,nd',sub',same'⟩,S7.trans (SA.trans SB),SB _ _ (SA _ _ eL7)⟩
  ·rintro σ H6 ⟨⟨l7,v6,v8,v9,va,vb,rfl,S,e7,hP6,nd,sub,same⟩,S6,eL6⟩
   rw [ag,bV] at same
   refine .inl (k H6 p d S S6 hd hP6 (Like.of nd T.nd fun z=>?_))
   by_cases c:z∈us
   ·exact same z c
   ·have h1:has S z=false:=by rw [cJ];exact fun g=>c (sub z (mem_keys.mpr g))
    have h2:has R z=false:=by rw [cJ];exact fun g=>c (hu.mem_iff.mpr (mem_keys.mpr g))
    rw [Z7 h1,Z7 h2]
theorem a52 {f:Addr} {fd:aH} (Z:Aw K t) (F:FunD K "_law_laid" "_law_laid" Kl f fd .none) (T:Tab P w K mg base 3 (Gp K t) bl):FnOk P w K mg base CX0 4 f fd N4 (Sd K t):=by
 refine F.okW0 be3 bh3 T (bc9 K t) (fun vs H Q E h=>?_) (fun vs H Q E h=>?_)
 ·obtain⟨a,d,ns,R,rfl,_⟩:=h;rfl
 ·obtain⟨a,d0,ns,R,rfl,hA,hR,T,k⟩:=h
  intro p dxp hp0 hdxp nep
  refine⟨p,dxp,rfl,Ad,fun d hd0=>⟨rfl,?_⟩⟩
  obtain⟨hd,S1,hP1⟩:=au0 (K:=K) (t:=t) hp0 hdxp nep hd0
  refine (show ∀ H1,Same H H1->PwAt K t H1 p d []->_ from ?_) (Z4 t H p dxp d) S1 hP1
  intro H1 S1 hP1
  have hR1:=hR.up S1
  obtain⟨kvs,ed,g⟩:=id hR1
  have lk:(keys R).length<=10:=by rw [Ar];exact T.few
  refine .inr ⟨rfl,d0,kvs,rfl,.inl ed,by have:=g.len;have:=T.few;omega,fun l3 hl3=>?_⟩
  rw [g.names]
  have S2:=S1.trans (Same.upd (o:=.lst ((keys R).map V.str)) hl3)
  have e3:upd H1 l3 (.lst ((keys R).map V.str)) l3=some (.lst ((keys R).map V.str)):=Ad
  have hP2:=hP1.up (Same.upd (o:=.lst ((keys R).map V.str)) hl3)
  generalize upd H1 l3 (.lst ((keys R).map V.str))=H2 at S2 e3 hP2 ⊢
  refine⟨a,ns,1,rfl,S2.seqL hA,.inl ⟨_,.inl (SqL.of e3),?_⟩⟩
  rw [ag]
  have hmx:0<(if ((keys R).length:Int) > 1 then ((keys R).length:Int) else 1):=by split <;> omega
  refine⟨hmx,?_⟩
  have q1:=ck (C9 ns 1) (show (if ((keys R).length:Int) > 1 then ((keys R).length:Int) else 1)≠0 by omega)
  generalize C9 ns 1 % (if ((keys R).length:Int) > 1 then ((keys R).length:Int) else 1)=n4 at q1 ⊢
  obtain⟨n,rfl⟩:=gI q1
  refine .inl ⟨_,SqL.of e3,fun b1 hb1=>?_⟩
  have Sa:=Same.upd (o:=.lst (D0 ((keys R).map V.str) (some (n:Int)) none)) hb1
  have eb1:upd H2 b1 (.lst (D0 ((keys R).map V.str) (some (n:Int)) none)) b1=some (.lst (((keys R).drop n).map V.str)):=by rw [Ad,Vo,<- List.map_drop]
  generalize upd H2 b1 (.lst (D0 ((keys R).map V.str) (some (n:Int)) none))=Ha at Sa eb1 ⊢
  refine .inl ⟨_,SqL.of (Sa _ _ e3),fun b2 hb2=>?_⟩
  have Sb:=Sa.trans (Same.upd (o:=.lst (D0 ((keys R).map V.str) none (some (n:Int)))) hb2)
  have eb1b:=Same.upd (o:=.lst (D0 ((keys R).map V.str) none (some (n:Int)))) hb2 _ _ eb1
  have eb2:upd Ha b2 (.lst (D0 ((keys R).map V.str) none (some (n:Int)))) b2=some (.lst (((keys R).take n).map V.str)):=by rw [Ad,M0,<- iB]
  generalize upd Ha b2 (.lst (D0 ((keys R).map V.str) none (some (n:Int))))=Hb at Sb eb1b eb2 ⊢
  refine .inl ⟨b1,b2,_,_,rfl,rfl,eb1b,eb2,?_,fun L hL=>?_⟩
  ·rw [ag,ag,fu,a_];exact aS (show _<=20 by omega) (by decide)
  have S4:=Sb.trans (Same.upd (o:=.lst (((keys R).drop n).map V.str++((keys R).take n).map V.str)) hL)
  have eL:upd Hb L (.lst (((keys R).drop n).map V.str++((keys R).take n).map V.str)) L=some (.lst (((keys R).drop n++(keys R).take n).map V.str)):=by rw [Ad,ba]
  generalize upd Hb L (.lst (((keys R).drop n).map V.str++((keys R).take n).map V.str))=H4 at S4 eL ⊢
  have hu:((keys R).drop n++(keys R).take n).Perm (keys R):=List.perm_append_comm.trans (List.Perm.of_eq (kq n _))
  have hP4:=hP2.up S4
  have nd4:∀ {L:Addr} {H:Hp} {ys:List V},H L=some (.lst ys)->PwAt K t H p d []->L≠d:=fun eL h c=>by
   obtain⟨_,e,_⟩:=h.2
   rw [c,e] at eL
   cases eL
  refine⟨a,ns,2,rfl,(S2.trans S4).seqL hA,by decide,Hm (fun _=>?_) (fun _=>?_)⟩
  ·refine⟨_,SqL.of eL,fun L2 hL2=>?_⟩
   rw [<- ii]
   have S5:=Same.upd (o:=.lst (((keys R).drop n++(keys R).take n).reverse.map V.str)) hL2
   exact at7 Z hA hR T ((S2.trans S4).trans S5) hd (hP4.up S5) Ad ((List.reverse_perm _).trans hu) (nd4 Ad (hP4.up S5)) k
  ·exact at7 Z hA hR T (S2.trans S4) hd hP4 eL hu (nd4 eL hP4) k
end
theorem Tv:∀ {ds:List Dt} {n:Nat},(∀ d∈ds,dep d<=n)->Bv ds<=n
 | [],_,_=>by unfold Bv;exact bo _
 | d::ds,n,h=>by
  unfold Bv
  exact Nat.max_le.mpr ⟨h d bx,Tv fun e he=>h e (aJ _ he)⟩
theorem a27 {S:Rs} {w:Int×Str} (c:Jh (Ao S w.2).ct):dep (lnD S w)<=6:=by
 unfold lnD dep
 refine ge ?_
 simp only [Bv,A1,Lb,dep,gC,bo,true_and,and_true]
 exact c.2
section
variable {P:aK} {w:bt} {K:aa} {mg:Str->Option Value} {base:Heap} {t:Adr}
theorem PlAt.ins {H:Hp} {p d:Addr} {S:Rs} (h:PlAt K t H p d S):∃ dx,H p=some (.ins t.c_zaq dx [("records", .ref d)]):=h.1
theorem a51 {f:Addr} {fd:aH} (Z:Aw K t) (F:FunD K "_law_good" "_law_good" Kk f fd .none) (T:Tab P w K mg base 15 (Ua K t) bl):FnOk P w K mg base CX0 16 f fd N3 (E8 K t):=by
 refine F.okW0 be2 bh2 T (bc8 K t) (fun vs H Q E h=>?_) (fun vs H Q E h=>?_)
 ·obtain⟨p,d,d0,S,R,x,rfl,_⟩:=h;rfl
 ·obtain⟨p,d,d0,S,R,x,rfl,hP,hR,L,T,x0,hx,k⟩:=h
  have TS:=L.tr T
  obtain⟨h,sk,h12⟩:=T.sinks
  obtain⟨dx,e⟩:=hP.ins
  have lk:(keys R).length<=10:=by rw [Ar];exact T.few
  have ls:(Ak ltS (keys R)).length<=10:=by rw [(Am _ _).length_eq];exact lk
  refine⟨p,dx,_,⟨t.c_zaq,aj5 K t⟩,rfl,.head _,e,rfl,⟨ae _,ae _⟩,⟨p,d,S,rfl,hP,TS,fun H1 l1 ys S1 _ e1 az=>?_⟩⟩
  refine⟨d0,R, "", 1,h,rfl,hR.up S1,T,sk,h12,h12 "", fun H2 l2 zs S2 hl2 e2 az2=>?_⟩
  rw [L.pre T,L.ln] at az
  have al:∀ w∈D3 R "", has R w.2=true:=fun w hw=>Ek (bC hw)
  refine Ic rfl rfl (Mt (SqL.of (S2.lst e1)) (Fx S2.tk (Ho hR al) az)) (Mt (SqL.of e2) az2) ?_ ?_
  ·unfold dep
   have:Bv ((D3 R "").map (lnD R))<=6:=Tv fun q hq=>by
    obtain⟨w,hw,rfl⟩:=List.mem_map.mp hq
    exact a27 (hR.ct (al w hw))
   omega
  have S2:=(Sm.of S1).trans S2
  have hP2:=hP.sm S2
  obtain⟨dx2,e2⟩:=hP2.ins
  refine⟨p,dx2,_,⟨t.c_zaq,Om K t⟩,rfl,.head _,e2,rfl,⟨ae _,ae _⟩,⟨p,d,S,rfl,hP2,TS.nd,aS TS.few (by decide),fun l hl=>?_⟩⟩
  have S3:=S2.trans (Sm.of (Same.upd (o:=.lst ((Ak ltS (keys S)).map V.str)) hl))
  have e3:upd H2 l (.lst ((Ak ltS (keys S)).map V.str)) l=some (.lst ((Ak ltS (keys S)).map V.str)):=Ad
  generalize upd H2 l (.lst ((Ak ltS (keys S)).map V.str))=H3 at S3 e3 ⊢
  obtain⟨kvs,ed,g⟩:=hR.sm S3
  refine .inr ⟨rfl,d0,keys R,rfl,.inr ⟨kvs,ed,g.keys⟩,T.nd,by omega,fun D hD=>?_⟩
  have S4:=S3.trans (Sm.of (Same.upd (o:=.lst ((Ak ltS (keys R)).map V.str)) hD))
  have e4:upd H3 D (.lst ((Ak ltS (keys R)).map V.str)) D=some (.lst ((Ak ltS (keys R)).map V.str)):=Ad
  have e34:=Same.upd (o:=.lst ((Ak ltS (keys R)).map V.str)) hD _ _ e3
  generalize upd H3 D (.lst ((Ak ltS (keys R)).map V.str))=H4 at S4 e4 e34 ⊢
  rw [L.srt T] at e34
  refine Ic rfl rfl (Cg (SqL.of e34)) (Cg (SqL.of e4)) (Eu _) ?_
  refine⟨(show 1<=sizeLine by decide),fun b1 hb1=>?_⟩
  have S5:=S4.trans (Sm.of (Same.upd (o:=.lst [.str ""]) hb1))
  have e5:upd H4 b1 (.lst [.str ""]) b1=some (.lst [.str ""]):=Ad
  generalize upd H4 b1 (.lst [.str ""])=H5 at S5 e5 ⊢
  obtain⟨kvs5,ed5,g5⟩:=hR.sm S5
  refine .inr ⟨rfl,d0,keys R,rfl,.inr ⟨kvs5,ed5,g5.keys⟩,T.nd,by omega,fun D2 hD2=>?_⟩
  have S6:=S5.trans (Sm.of (Same.upd (o:=.lst ((Ak ltS (keys R)).map V.str)) hD2))
  have e6:upd H5 D2 (.lst ((Ak ltS (keys R)).map V.str)) D2=some (.lst ((Ak ltS (keys R)).map V.str)):=Ad
  have e56:=Same.upd (o:=.lst ((Ak ltS (keys R)).map V.str)) hD2 _ _ e5
  generalize upd H5 D2 (.lst ((Ak ltS (keys R)).map V.str))=H6 at S6 e6 e56 ⊢
  refine .inl ⟨b1,D2,_,_,rfl,rfl,e56,e6,?_,fun N hN=>?_⟩
  ·rw [ag];exact aS (show 1+_<=11 by omega) (by decide)
  have S7:=S6.trans (Sm.of (Same.upd (o:=.lst ([.str ""]++(Ak ltS (keys R)).map V.str)) hN))
  have e7:upd H6 N (.lst ([.str ""]++(Ak ltS (keys R)).map V.str)) N=some (.lst (((("" : Str)::Ak ltS (keys R))).map V.str)):=Ad
  generalize upd H6 N (.lst ([.str ""]++(Ak ltS (keys R)).map V.str))=H7 at S7 e7 ⊢
  refine .inl ⟨⟨_,SqL.of e7⟩,?_⟩
  have mem:∀ z∈("" : Str)::Ak ltS (keys R),z = "" \/ has R z=true:=fun z hz=>by
   rcases List.mem_cons.mp hz with h|h
   ·exact .inl h
   ·exact .inr (mem_keys.mp ((Am _ _).mem_iff.mp h))
  generalize ("" : Str)::Ak ltS (keys R)=zs at e7 mem
  clear e56 e6 e5 e34 e4 e3
  refine C7 (Cj (zs.map V.str)) (fun i σ H'=>(∃ v,σ=[some (.ref p),some (.ref d0),some (.str x),v])/\Sm H H'/\H' N=some (.lst (zs.map V.str))) ⟨⟨_,rfl⟩,S7,e7⟩ (fun i σ' H' _ h=>SqL.of h.2.2) ?_ ?_
  ·rintro i y σ H8 hy ⟨⟨v,rfl⟩,S8,e8⟩
   rw [aA] at hy
   obtain⟨z,hz,rfl⟩:=Option.map_eq_some_iff.mp hy
   have mz:=mem z (aY hz)
   have ms:z = "" \/ has S z=true:=by rw [L.has];exact mz
   have no:∀ {α:Prop},z ≠ "" -> has S z=false->α:=fun n c=>ab (ms.resolve_left n) c
   have hP8:=hP.sm S8
   obtain⟨dx8,f8⟩:=hP8.ins
   refine⟨p,dx8,_,⟨t.c_zaq,Zm K t⟩,rfl,.head _,f8,rfl,⟨ae _,ae _⟩,⟨p,d,S,z,rfl,hP8,TS,(fun _ H9 l9 S9 _ e9=>?_),fun n c=>no n c⟩⟩
   refine⟨d0,R,z,rfl,hR.sm (S8.trans S9),T,fun HA lA SA _ eA=>?_⟩
   rw [L.ch T] at e9
   refine Ic rfl rfl (Cg (SqL.of (SA.lst e9))) (Cg (SqL.of eA)) (Eu _) ?_
   have eNA:=SA.lst (S9.lst e8)
   have SA:=(S8.trans S9).trans SA
   have hPA:=hP.sm SA
   obtain⟨dxA,fA⟩:=hPA.ins
   refine⟨p,dxA,_,⟨t.c_zaq,V5 K t⟩,rfl,.head _,fA,rfl,⟨ae _,ae _⟩,⟨p,d,S,z,rfl,hPA,TS,(fun _ HB lB SB _ eB=>?_),fun n c=>no n c⟩⟩
   refine⟨d0,R,z,rfl,hR.sm (SA.trans (Sm.of SB)),T,fun HC lC SC eC=>?_⟩
   rw [L.pre T] at eB
   refine Ic rfl rfl (Cg (SqL.of (SC.lst eB))) (Cg (SqL.of eC)) (Eu _) ?_
   have SC2:=(SA.trans (Sm.of SB)).trans SC
   have eNC:=SC.lst (SB _ _ eNA)
   have hPC:=hP.sm SC2
   refine Hm (c:=(!decide (z = ""))=true) (fun n=>?_) (fun n=>?_)
   ·have n:z ≠ "" := by simpa using n
    have hs:=mz.resolve_left n
    exact⟨p,d,d0,S,R,z,Ao R z,rfl,hPC,hR.sm SC2,by rw [L.2];exact Bz hs,Bz hs,fun HD SD=>⟨⟨_,rfl⟩,SC2.trans (Sm.of SD),SD _ _ eNC⟩⟩
   ·exact⟨⟨_,rfl⟩,SC2,eNC⟩
  ·rintro σ H8 ⟨⟨v,rfl⟩,S8,e8⟩
   have hP8:=hP.sm S8
   obtain⟨dx8,f8⟩:=hP8.ins
   have h0:has S "" = false:=by rw [cJ];exact fun c=>TS.ne (mem_keys.mpr c)
   have hxS:has S x=false:=by rw [L.has];exact hx
   refine .inl ⟨p,dx8,_,⟨t.c_zaq,V8 K t⟩,rfl,.head _,f8,rfl,⟨ae _,ae _⟩,⟨p,d,S, "", rfl,hP8,?_⟩⟩
   rw [h0]
   refine⟨p,d,S, "", 5,rfl,hP8,TS,h0,by decide,fun _=>by decide,fun H9 S9=>?_⟩
   refine⟨p,d,S, "", rfl,hP8.up S9,TS,h0,fun HA SA=>?_⟩
   have SA:=S9.trans SA
   have hPA:=hP8.up SA
   obtain⟨dxA,fA⟩:=hPA.ins
   refine⟨p,dxA,_,⟨t.c_zaq,V8 K t⟩,rfl,.head _,fA,rfl,⟨ae _,ae _⟩,⟨p,d,S,x,rfl,hPA,?_⟩⟩
   rw [hxS]
   exact⟨p,d,S,x,7,rfl,hPA,TS,hxS,by decide,fun c=>absurd c x0,fun HB SB=>k HB (S8.trans (Sm.of (SA.trans SB)))⟩
end
theorem Pa {S S':Rs} (h:S.length≠S'.length):Kr S S'=false:=by
 rw [Ks,j_]
 exact .inl (by simpa using h)
theorem am7 {S:Rs} {z:Str} {r:Rc} (h:has S z=false):Cy S z r=S++[(z,r)]:=by
 unfold Cy
 rw [Fh,h]
 rfl
theorem Yw {S:Rs} {z:Str}:has (F7 S z) z=false:=by
 unfold has F7
 rw [By (f:=fun y=>decide (y∉gone S z)),if_neg (by simp [gone])]
 rfl
theorem Tp {S:Rs} {z:Str} (h:has S z=true):(F7 S z).length≠S.length:=fun e=>by
 have e2:F7 S z=S:=(cY (l:=S)).eq_of_length e
 have:=Yw (S:=S) (z:=z)
 rw [e2,h] at this
 cases this
theorem Like.gone {S R:Rs} (L:Like S R) (T:Tr R) (z:Str):gone S z=K23.gone R z:=by unfold K23.gone;rw [L.pre T]
theorem Like.cut {S R:Rs} (L:Like S R) (T:Tr R) (z:Str):Like (F7 S z) (F7 R z):=by
 unfold F7
 rw [L.gone T]
 exact L.filter fun y=>decide (y∉K23.gone R z)
theorem ao6 {i:Int} (h:rkI i):(i+1) % 1000000001≠i:=by unfold rkI at h;omega
section
variable {P:aK} {w:bt} {K:aa} {mg:Str->Option Value} {base:Heap} {t:Adr}
theorem Sm.seqL {H H':Hp} {a:Addr} {xs:List V} (S:Sm H H') (h:SqL K H a xs):SqL K H' a xs:=by
 rcases h with (h|⟨o,h⟩)|h
 ·exact .inl (.inl (S.lst h))
 ·rcases S _ _ h with h|⟨_,_,c,_⟩
  ·exact .inl (.inr ⟨o,h⟩)
  ·cases c
 ·exact .inr h
noncomputable def af9 (K:aa) (t:Adr):DS:=
 (Ag (dIf (dOr (Hd (He K (dFn (spE (E8 K t) []) (Aa (Ab 5) (Aa (Ab 8) (Aa (Ab 6) Af)))))) (Hd (He K (dFn (spE (E8 K t) []) (Aa (Ab 3) (Aa (Ab 1) (Aa (Ab 2) Af))))))) (Ag (A5 (dC (.bl false)))
  Ai) Ai)
 (Ag (dIf (dOr (A7 (Ae (Ds true) (An "same" 1 (Bt K t) (Ab 5) (Aa (Ab 3) Af)) (dC (.bl false)))) (A7 (Ae (Ds true) (An "same" 1 (Bt K t) (Ab 3) (Aa (Ab 5) Af)) (dC (.bl false))))) (Ag (A5 (dC (.bl false)))
  Ai) Ai)
 (Ag (Ax 10 (An "copied" 0 (Bu K t) (Ab 3) Af))
 (Ag (Hc (Ae (A6 K) (Ab 1) (Ab 6)) (gdT K 4 [(gdN 11),(gdN 12),(gdN 13),(gdN 14)]))
 (Ag (A9 (An "lay" 5 (C8 K t) (Ab 10) (Aa (Ab 6) (Aa (Ab 11) (Aa (Ab 12) (Aa (Ae Av (Ae (A0 K) (Ab 13) (dC (.int 1))) (Ae (A0 K) (Ae Mf (dC (.int 10)) (dC (.int 9))) (dC (.int 1)))) (Aa (Ab 14) Af)))))))
 (Ag (A5 (D6 K (Ae (Ds false) (An "same" 1 (Bt K t) (Ab 10) (Aa (Ab 3) Af)) (dC (.bl false))) (D6 K (Ae (Be K false) (An "names" 0 (B0 K t) (Ab 10) Af) (An "names" 0 (B0 K t) (Ab 3) Af)) (Ae (Ds false) (An "same" 1 (Bt K t) (An "copied" 0 (Bu K t) (Ab 3) Af) (Aa (Ab 3) Af)) (dC (.bl true))))))
 Ai))))))
theorem b21 (Z:Aw K t) {H:Hp} {d0 p d p' d' u:Addr} {S R:Rs} {x z:Str} {Q:VK} {v0 v4 v7 v9:Option V} (hR:RdAt K H d0 R) (hP:PlAt K t H p d S) (hT:PlAt K t H p' d' (F7 S z)) (hU:RdAt K H u (F7 R z)) (L:Like S R) (T:Tr R) (x0:x ≠ "") (hx:has R x=false) (hz:has R z=true) (rk:∀ z r,get R z=some r->rkI r.rk)
  (k:∀ H',Q (.bl true) H'):af9 K t (Jp Q fun _ _=>False) [v0,some (.ref d0),some (.str x),some (.ref p),v4,some (.ref p'),some (.str z),v7,some (.ref u),v9,none,none,none,none,none] H:=by
 have TS:=L.tr T
 have hzS:has S z=true:=by rw [L.has];exact hz
 have z0:z ≠ "" := fun c=>T.ne (mem_keys.mpr (c▸hz))
 refine⟨p',d',u,F7 S z,F7 R z,z,rfl,hT,hU,L.cut T z,T.filter fun y=>decide (y∉gone R z),z0,Yw,fun H1 S1=>?_⟩
 refine⟨p,d,d0,S,R,x,rfl,hP.sm S1,hR.sm S1,L,T,x0,hx,fun H2 S2=>?_⟩
 have S2:=S1.trans S2
 have hP2:=hP.sm S2
 have hT2:=hT.sm S2
 obtain⟨dx,e⟩:=hT2.ins
 obtain⟨dp,ep⟩:=hP2.ins
 refine⟨p',dx,_,⟨t.c_zaq,La K t⟩,rfl,.head _,e,rfl,⟨ae _,ae _⟩,⟨p',d',p,d,F7 S z,S,rfl,hT2,hP2,?_⟩⟩
 rw [Pa (Tp hzS)]
 refine⟨p,dp,_,⟨t.c_zaq,La K t⟩,rfl,.head _,ep,rfl,⟨ae _,ae _⟩,⟨p,d,p',d',S,F7 S z,rfl,hP2,hT2,?_⟩⟩
 rw [Pa (bO (Tp hzS))]
 refine⟨p,dp,_,⟨t.c_zaq,Qk K t⟩,rfl,.head _,ep,rfl,⟨ae _,ae _⟩,⟨p,d,S,rfl,hP2,fun H3 q dq S3 hdq hO=>?_⟩⟩
 have hP3:=hP2.up S3
 have hR3:=(hR.sm S2).up S3
 obtain⟨rq,y,dg,hq,hy,hc⟩:=hR3.get hz
 refine⟨_,dg,_,hq,rfl,?_⟩
 obtain⟨dxq,eq⟩:=id hO.1
 have ne:d≠dq:=hP2.2.ne hdq
 have hrk:=rk z _ (Bz hz)
 have gS:get S z=some (Ao R z):=by rw [L.2];exact Bz hz
 refine⟨q,dxq,_,⟨t.c_zaq,Ol K t⟩,rfl,.head _,eq,rfl,⟨ae _,ae _⟩,a23,by decide,⟨q,dq,S,z,⟨(Ao R z).kd,(Ao R z).pr,((Ao R z).rk+1) % 1000000001,(Ao R z).ct⟩,y,rfl,hO,by have:=TS.few;omega,hy,hc,fun H4 B4 R4=>?_⟩⟩
 have hO4:=hO.but B4 R4
 have hP4:=hP3.other hO.2 ne B4
 have kS:keys (Cy S z ⟨(Ao R z).kd,(Ao R z).pr,((Ao R z).rk+1) % 1000000001,(Ao R z).ct⟩)=keys S:=by rw [Dj,if_pos hzS]
 have sf:Kr (Cy S z ⟨(Ao R z).kd,(Ao R z).pr,((Ao R z).rk+1) % 1000000001,(Ao R z).ct⟩) S=false:=Kt (z:=z) (Ng TS.nd) (by rw [Fg,if_pos rfl]) gS (bq9 (ao6 hrk))
 generalize Cy S z ⟨(Ao R z).kd,(Ao R z).pr,((Ao R z).rk+1) % 1000000001,(Ao R z).ct⟩=S4 at hO4 kS sf
 clear R4
 have l4:S4.length<=10:=by rw [<- Ar,kS,Ar];exact TS.few
 obtain⟨dx4,e4⟩:=id hO4.1
 obtain⟨dp4,ep4⟩:=hP4.ins
 refine⟨q,dx4,_,⟨t.c_zaq,La K t⟩,rfl,.head _,e4,rfl,⟨ae _,ae _⟩,⟨q,dq,p,d,S4,S,rfl,hO4.rd,hP4,?_⟩⟩
 rw [sf]
 refine⟨q,dx4,_,⟨t.c_zaq,Om K t⟩,rfl,.head _,e4,rfl,⟨ae _,ae _⟩,⟨q,dq,S4,rfl,hO4.rd,by rw [kS];exact TS.nd,by omega,fun l hl=>?_⟩⟩
 have S5:=Same.upd (o:=.lst ((Ak ltS (keys S4)).map V.str)) hl
 have e5:upd H4 l (.lst ((Ak ltS (keys S4)).map V.str)) l=some (.lst ((Ak ltS (keys S4)).map V.str)):=Ad
 generalize upd H4 l (.lst ((Ak ltS (keys S4)).map V.str))=H5 at S5 e5 ⊢
 rw [kS] at e5
 refine⟨p,dp4,_,⟨t.c_zaq,Om K t⟩,rfl,.head _,S5 _ _ ep4,rfl,⟨ae _,ae _⟩,⟨p,d,S,rfl,hP4.up S5,TS.nd,by have:=TS.few;omega,fun l2 hl2=>?_⟩⟩
 have S6:=S5.trans (Same.upd (o:=.lst ((Ak ltS (keys S)).map V.str)) hl2)
 have e6:upd H5 l2 (.lst ((Ak ltS (keys S)).map V.str)) l2=some (.lst ((Ak ltS (keys S)).map V.str)):=Ad
 have e56:=Same.upd (o:=.lst ((Ak ltS (keys S)).map V.str)) hl2 _ _ e5
 generalize upd H5 l2 (.lst ((Ak ltS (keys S)).map V.str))=H6 at S6 e6 e56 ⊢
 refine Ic rfl rfl (Cg (SqL.of e56)) (Cg (SqL.of e6)) (Eu _) ?_
 have hP6:=hP4.up S6
 obtain⟨dp6,ep6⟩:=hP6.ins
 refine⟨p,dp6,_,⟨t.c_zaq,Qk K t⟩,rfl,.head _,ep6,rfl,⟨ae _,ae _⟩,⟨p,d,S,rfl,hP6,fun H7 q7 dq7 S7 _ hO7=>?_⟩⟩
 obtain⟨dx7,e7⟩:=id hO7.1
 refine⟨q7,dx7,_,⟨t.c_zaq,La K t⟩,rfl,.head _,e7,rfl,⟨ae _,ae _⟩,⟨q7,dq7,p,d,S,S,rfl,hO7.rd,hP6.up S7,?_⟩⟩
 rw [Fo hO7.2.rd (Like.refl S) TS.nd]
 exact k H7
end
theorem inS {z:Str} {zs:List Str}:inV (.str z) (zs.map V.str)=decide (z∈zs):=by
 induction zs with
 | nil=>rfl
 | cons y zs ih=>
  show ((y==z)||inV (.str z) (zs.map V.str))=_
  rw [ih]
  by_cases e:y=z
  ·subst e;simp
  ·have e2:¬ z=y:=fun c=>e c.symm
   simp [e,e2]
section
variable {P:aK} {w:bt} {K:aa} {mg:Str->Option Value} {base:Heap} {t:Adr}
theorem a45 {H:Hp} {l:Addr} {zs:List Str} {z:Str} {Q:VK} (e:H l=some (.lst (zs.map V.str))) (k:Q (.bl (decide (z∉zs))) H):O4 K true (.str z) (.ref l) H Q:=by
 refine .inl ⟨l,_,rfl,.inl (SqL.of e),rfl,?_,?_⟩
 ·rw [List.all_map];exact List.all_eq_true.mpr fun _ _=>rfl
 ·rw [if_pos rfl,inS,<- decide_not];exact k
theorem a59 {H:Hp} {d:Addr} {S:Rs} {R:Obj->List (Key×V)->Hp->Prop} (h:RdAt K H d S) (k:∀ o kvs H2,Sm H H2->But d H H2->H2 d=some (.frz o (.dK kvs))->KvAt K H2 S kvs->R o kvs H2):onD d H R:=by
 obtain⟨kvs,e|⟨o,e⟩,g⟩:=h
 ·exact .inl ⟨kvs,e,fun o=>k o kvs _ (Sm.frz e) But.upd Ad (g.keep (Sm.frz e).tk)⟩
 ·exact .inr ⟨o,kvs,e,k o kvs H Sm.refl (fun _ _ _ e=>e) e g⟩
noncomputable def bg1 (K:aa) (t:Adr):DS:=
 (Ag (Ax 6 (Ae (A6 K) (dFn (fun vs H Q _=>(D4 K true) vs H Q) (Aa (Ab 1) Af)) (Ae Av (dFn (spE (Cz K t) []) (Aa (Ab 0) (Aa (dC (.int 3)) Af))) (dFn (fun vs H Q _=>(O5 K) vs H Q) (Aa (Ab 1) Af)))))
 (Ag (A9 (An "drop" 1 (Gw K t) (Ab 5) (Aa (Ab 6) Af)))
 (Ag (Ax 7 (Ae (A0 K) (C6 (Aa (Ab 6) Af)) (dFn (spE (Pc K t) []) (Aa (Ab 1) (Aa (Ab 6) Af)))))
 (Ag (Ax 8 Ig)
 (Ag (Eo (Di K (Ab 1)) (gdN 9) (Ag (dIf (A7 (Ae (O4 K true) (Ab 9) (Ab 7))) (Ag (Hc (Ae (A6 K) (Ab 1) (Ab 9)) (Js K (Ab 8) (Ab 9)))
   Ai) Ai)
  Ai))
(af9 K t))))))
theorem b20 (Z:Aw K t) {H:Hp} {a d0 p d p' d':Addr} {ns:List Int} {S R:Rs} {x:Str} {Q:VK} {v4:Option V} (hA:SqL K H a (ns.map V.int)) (hR:RdAt K H d0 R) (hP:PlAt K t H p d S) (hT:PwAt K t H p' d' S) (n1:d≠d') (n2:d0≠d') (L:Like S R) (T:Tr R) (x0:x ≠ "") (hx:has R x=false) (rk:∀ z r,get R z=some r->rkI r.rk) (hne:R≠[])
  (k:∀ H',Q (.bl true) H'):bg1 K t (Jp Q fun _ _=>False) [some (.ref a),some (.ref d0),some (.str x),some (.ref p),v4,some (.ref p'),none,none,none,none,none,none,none,none,none] H:=by
 have TS:=L.tr T
 have lk:(keys R).length<=10:=by rw [Ar];exact T.few
 have l0:0<R.length:=List.length_pos_iff.mpr hne
 obtain⟨kvs,ed,g⟩:=id hR
 refine .inr ⟨rfl,d0,keys R,rfl,.inr ⟨kvs,ed,g.keys⟩,T.nd,by omega,fun D hD=>?_⟩
 have S1:=Same.upd (o:=.lst ((Ak ltS (keys R)).map V.str)) hD
 have eD:upd H D (.lst ((Ak ltS (keys R)).map V.str)) D=some (.lst ((Ak ltS (keys R)).map V.str)):=Ad
 generalize upd H D (.lst ((Ak ltS (keys R)).map V.str))=H1 at S1 eD ⊢
 have hR1:=hR.up S1
 obtain⟨kvs1,ed1,g1⟩:=id hR1
 have ll:((Ak ltS (keys R)).map V.str).length=kvs1.length:=by rw [ag,(Am _ _).length_eq,Ar,g1.len]
 refine⟨a,ns,3,rfl,S1.seqL hA,.inr ⟨kvs1,ed1,by have:=g1.len;omega,?_⟩⟩
 obtain⟨v,hv,ev⟩:=Tf (xs:=(Ak ltS (keys R)).map V.str) (C9 ns 3) (by intro c;have:=congrArg gr c;rw [ll,g1.len] at this;simp at this;exact hne this)
 obtain⟨z,hz,rfl⟩:=List.mem_map.mp hv
 rw [ll] at ev
 have hz:has R z=true:=mem_keys.mp ((Am _ _).mem_iff.mp hz)
 have hzS:has S z=true:=by rw [L.has];exact hz
 refine⟨_,_,.inl (SqL.of eD),ev,?_⟩
 have hT1:=hT.up S1
 have hP1:=hP.up S1
 obtain⟨dx,e⟩:=id hT1.1
 refine⟨p',dx,_,⟨t.c_zaq,aj6 K t⟩,rfl,.head _,e,rfl,⟨ae _,ae _⟩,⟨p',d',S,z,rfl,hT1.rd,TS,(fun _=>⟨hT1.2,fun H2 B2 R2=>?_⟩),fun c=>ab hzS c⟩⟩
 have hT2:=hT1.but B2 R2
 have hP2:=hP1.other hT1.2 n1 B2
 have hR2:=hR1.other hT1.2 n2 B2
 refine⟨(show 1<=sizeLine by decide),fun b1 hb1=>?_⟩
 have S3:=Same.upd (o:=.lst [.str z]) hb1
 have e3:upd H2 b1 (.lst [.str z]) b1=some (.lst [.str z]):=Ad
 generalize upd H2 b1 (.lst [.str z])=H3 at S3 e3 ⊢
 refine⟨d0,R,z,rfl,hR2.up S3,T,fun H4 l4 S4 e4=>?_⟩
 have lp:=Eb (n:=z) T
 refine .inl ⟨b1,l4,_,_,rfl,rfl,S4.lst e3,e4,?_,fun G hG=>?_⟩
 ·rw [ag,ag];exact aS (show 1+_<=11 by omega) (by decide)
 have S5:=((Sm.of S3).trans S4).trans (Sm.of (Same.upd (o:=.lst ([.str z]++((D3 R z).map (·.2)).map V.str)) hG))
 have e5:upd H4 G (.lst ([.str z]++((D3 R z).map (·.2)).map V.str)) G=some (.lst ((gone R z).map V.str)):=Ad
 generalize upd H4 G (.lst ([.str z]++((D3 R z).map (·.2)).map V.str))=H5 at S5 e5 ⊢
 refine fun u hu=>.inl ?_
 have S6:=S5.trans (Sm.of (Same.upd (o:=.dK []) hu))
 have e6:upd H5 u (.dK []) u=some (.dK []):=Ad
 have eG:=Same.upd (o:=.dK []) hu _ _ e5
 have hRu:=(hR2.sm S5).ne hu
 have hPu:=(hP2.sm S5).2.ne hu
 have hTu:=(hT2.rd.sm S5).2.ne hu
 generalize upd H5 u (.dK [])=H6 at S6 e6 eG ⊢
 refine .inr (.inr (a59 (hR2.sm S6) fun o kvs7 H7 S7 B7 ed7 g7=>?_))
 have S7b:=S6.trans S7
 have hR7:=hR2.sm S7b
 have hP7:=hP2.sm S7b
 have hT7:=hT2.rd.sm S7b
 have eG7:=S7.lst eG
 have hU7:RsAt K H7 u []:=⟨[],B7 _ _ (bO hRu) e6,rfl⟩
 have Gu:G≠u:=fun c=>by rw [c,e6] at eG;cases eG
 have kn:=g7.names
 refine C7 (ah1 kvs7) (fun i σ H'=>(∃ v,σ=[some (.ref a),some (.ref d0),some (.str x),some (.ref p),v4,some (.ref p'),some (.str z),some (.ref G),some (.ref u),v,none,none,none,none,none])/\But u H7 H'/\RsAt K H' u ((R.take i).filter fun q=>decide (q.1∉gone R z)))
  ⟨⟨_,rfl⟩,(fun _ _ _ e=>e),hU7⟩ (fun i σ' H' _ h=>h.2.1 _ _ hRu ed7) ?_ ?_
 ·rintro i yv σ H8 hyv ⟨⟨v,rfl⟩,B8,hU8⟩
  rw [kn,aA] at hyv
  obtain⟨y,hy,rfl⟩:=Option.map_eq_some_iff.mp hyv
  have hyR:=hy
  unfold keys at hyR
  rw [aA] at hyR
  obtain⟨⟨y',r⟩,hi,rfl⟩:=Option.map_eq_some_iff.mp hyR
  have gy:get R y'=some r:=(M4 T.nd).mpr (aY hi)
  have tk:R.take (i+1)=R.take i++[(y',r)]:=by rw [bP,hi];rfl
  have hR8:=hR7.other hU7 hRu B8
  refine a45 (B8 _ _ Gu eG7) (Hm (c:=decide (y'∉gone R z)=true) (fun c=>?_) (fun c=>?_))
  ·obtain⟨xv,dg,hxv⟩:=hR8.rc gy
   have lf:((R.take i).filter fun q=>decide (q.1∉gone R z)).length<=(R.take i).length:=cm _ _
   rw [a_] at lf
   have few:=T.few
   refine⟨_,dg,sto hU8 (by omega) hxv fun H9 B9 R9=>⟨⟨_,rfl⟩,B8.trans B9,?_⟩⟩
   have nh:has ((R.take i).filter fun q=>decide (q.1∉gone R z)) y'=false:=by
    rw [cJ]
    intro h
    have m:=mem_keys.mpr h
    rw [C4 (f:=fun q=>decide (q∉gone R z))] at m
    have m:=(List.mem_filter.mp m).1
    unfold keys at m
    rw [iB] at m
    exact Iw T.nd hy m
   rw [am7 nh] at R9
   rw [tk,c_,cC (p:=fun q:Str×Rc=>decide (q.1∉gone R z)) c,iK]
   exact R9
  ·refine⟨⟨_,rfl⟩,B8,?_⟩
   rw [tk,c_,cB (p:=fun q:Str×Rc=>decide (q.1∉gone R z)) c,iK,cO]
   exact hU8
 ·rintro σ H8 ⟨⟨v,rfl⟩,B8,hU8⟩
  rw [ag,g7.len,bV] at hU8
  exact .inl (b21 Z (hR7.other hU7 hRu B8) (hP7.other hU7 hPu B8) (hT7.other hU7 hTu B8) hU8.rd L T x0 hx hz rk k)
theorem a58 {f:Addr} {fd:aH} (Z:Aw K t) (F:FunD K "law" "law" Ec f fd .none) (T:Tab P w K mg base 16 (Zc K t) bl):FnOk P w K mg base CX0 17 f fd Oa (Nu K t):=by
 refine F.okW0 be9 bh9 T (bd5 K t) (fun vs H Q E h=>?_) (fun vs H Q E h=>?_)
 ·obtain⟨a,ns,rfl,_⟩:=h;rfl
 ·obtain⟨a,ns,rfl,hA,hl,k⟩:=h
  refine⟨a,ns,rfl,hA,hl,fun H1 d0 R m S1 hd0 hR T hm ks rk=>?_⟩
  refine⟨a,ns,0,rfl,S1.seqL hA,C9 ns 0,11,rfl,by decide,fun H2 S2=>?_⟩
  refine⟨a,ns,0,rfl,(S1.trans S2).seqL hA,C9 ns 0,0,rfl,by decide,fun H3 S3=>?_⟩
  have S3:=S2.trans S3
  have hxR:has R (nmF (C9 ns 0) 11)=false:=by
   rw [cJ]
   intro h
   have:=mem_keys.mpr h
   rw [ks] at this
   have:=Ui hm (by decide) this
   omega
  have x0:=Ug (C9 ns 0) 11
  refine⟨nmF (C9 ns 0) 0,nmF (C9 ns 0) 11,rfl,(fun c=>by have:=Na (by decide) (by decide) c;omega),Ug _ _,x0,fun H4 S4=>?_⟩
  generalize nmF (C9 ns 0) 11=x at hxR x0 ⊢
  have S4:=S3.trans S4
  have hR4:=hR.up S4
  refine⟨a,d0,ns,R,rfl,(S1.trans S4).seqL hA,hR4,T,fun H5 p d S S5 hd hP L=>?_⟩
  have TS:=L.tr T
  refine⟨p,d,d0,S,R,x,rfl,hP.rd,(hR4.up S5).rd,L,T,x0,hxR,fun H6 S6=>?_⟩
  have hA6:=S6.seqL (((S1.trans S4).trans S5).seqL hA)
  have hR6:=(hR4.up S5).rd.sm S6
  have hP6:=hP.rd.sm S6
  clear S6 hP hR4 hR S5 S4 S3 S2 S1
  obtain⟨dx,e⟩:=hP6.ins
  refine⟨p,dx,_,⟨t.c_zaq,aj5 K t⟩,rfl,.head _,e,rfl,⟨ae _,ae _⟩,⟨p,d,S,rfl,hP6,TS,fun H7 l1 ys S7 f1 e1 _=>?_⟩⟩
  have hP7:=hP6.up S7
  obtain⟨dx7,e7⟩:=hP7.ins
  refine⟨p,dx7,_,⟨t.c_zaq,Om K t⟩,rfl,.head _,e7,rfl,⟨ae _,ae _⟩,⟨p,d,S,rfl,hP7,TS.nd,aS TS.few (by decide),fun l2 hl2=>?_⟩⟩
  have f2:=S7.free hl2
  have S8:=S7.trans (Same.upd (o:=.lst ((Ak ltS (keys S)).map V.str)) hl2)
  have e2:upd H7 l2 (.lst ((Ak ltS (keys S)).map V.str)) l2=some (.lst ((Ak ltS (keys S)).map V.str)):=Ad
  have e1:=Same.upd (o:=.lst ((Ak ltS (keys S)).map V.str)) hl2 _ _ e1
  generalize upd H7 l2 (.lst ((Ak ltS (keys S)).map V.str))=H8 at S8 e2 e1 ⊢
  have hP8:=hP6.up S8
  obtain⟨dx8,e8⟩:=hP8.ins
  refine⟨p,dx8,_,⟨t.c_zaq,Zm K t⟩,rfl,.head _,e8,rfl,⟨ae _,ae _⟩,⟨p,d,S, "", rfl,hP8,TS,(fun _ H9 l3 S9 f3 e3=>?_),fun n _=>absurd rfl n⟩⟩
  have f3:=S8.free f3
  have e1:=S9.lst e1
  have e2:=S9.lst e2
  have S9:=(Sm.of S8).trans S9
  have hP9:=hP6.sm S9
  obtain⟨dx9,e9⟩:=hP9.ins
  refine⟨p,dx9,_,⟨t.c_zaq,V5 K t⟩,rfl,.head _,e9,rfl,⟨ae _,ae _⟩,⟨p,d,S, "", rfl,hP9,TS,(fun _ HA l4 SA f4 e4=>?_),fun n _=>absurd rfl n⟩⟩
  have f4:=S9.free f4
  have e1:=SA _ _ e1
  have e2:=SA _ _ e2
  have e3:=SA _ _ e3
  have SA:=S9.trans (Sm.of SA)
  refine⟨(show 4<=sizeLine by decide),fun N hN=>.inl ⟨⟨_,SqL.of Ad⟩,?_⟩⟩
  have free:∀ l∈[l1,l2,l3,l4],H6 l=none:=fun l hl=>by
   simp only [aF,bN,or_false] at hl
   rcases hl with rfl|rfl|rfl|rfl <;> assumption
  have are:∀ l∈[l1,l2,l3,l4],∃ ys,upd HA N (.lst [.ref l1,.ref l2,.ref l3,.ref l4]) l=some (.lst ys)/\l≠N:=fun l hl=>by
   have h:∃ ys,HA l=some (.lst ys):=by
    simp only [aF,bN,or_false] at hl
    rcases hl with rfl|rfl|rfl|rfl <;> exact⟨_,by assumption⟩
   obtain⟨ys,h⟩:=h
   have n:l≠N:=fun c=>by rw [c,hN] at h;cases h
   exact⟨ys,by rw [Ah n];exact h,n⟩
  have SB:=SA.trans (Sm.of (Same.upd (o:=.lst [.ref l1,.ref l2,.ref l3,.ref l4]) hN))
  have eN:upd HA N (.lst [.ref l1,.ref l2,.ref l3,.ref l4]) N=some (.lst ([l1,l2,l3,l4].map V.ref)):=Ad
  generalize upd HA N (.lst [.ref l1,.ref l2,.ref l3,.ref l4])=HB at are SB eN ⊢
  generalize [l1,l2,l3,l4]=ls at free are eN
  clear e1 e2 e3 e4 f1 f2 f3 f4 SA
  refine C7 (Cj (ls.map V.ref)) (fun i σ H'=>(∃ v,σ=[some (.ref a),some (.ref d0),some (.str x),some (.ref p),v,none,none,none,none,none,none,none,none,none,none])/\Sm H6 H'/\H' N=some (.lst (ls.map V.ref)) /\ ∀ l∈ls,∃ ys,H' l=some (.lst ys)/\l≠N) ⟨⟨_,rfl⟩,SB,eN,are⟩ (fun i σ' H' _ h=>SqL.of h.2.2.1) ?_ ?_
  ·rintro i y σ HC hy ⟨⟨v,rfl⟩,SC,eC,aC⟩
   rw [aA] at hy
   obtain⟨l,hl,rfl⟩:=Option.map_eq_some_iff.mp hy
   have ml:=aY hl
   obtain⟨ys,el,nl⟩:=aC l ml
   refine .inl ⟨.inl ⟨rfl,_,SqL.of el⟩,l,ys,rfl,rfl,el,⟨_,rfl⟩,SC.set (free l ml),by rw [Ah (bO nl)];exact eC,fun l' hl'=>?_⟩
   obtain⟨ys',el',nl'⟩:=aC l' hl'
   by_cases c:l'=l
   ·exact⟨[],by rw [c];exact Ad,nl'⟩
   ·exact⟨ys',by rw [Ah c];exact el',nl'⟩
  ·rintro σ HC ⟨⟨v,rfl⟩,SC,_,_⟩
   have hPC:=hP6.sm SC
   have hRC:=hR6.sm SC
   have hAC:=SC.seqL hA6
   obtain⟨dxC,eC⟩:=hPC.ins
   have hxS:has S x=false:=by rw [L.has];exact hxR
   refine .inl ⟨p,dxC,_,⟨t.c_zaq,Qk K t⟩,rfl,.head _,eC,rfl,⟨ae _,ae _⟩,⟨p,d,S,rfl,hPC,fun HD p' d' SD hd' hT=>?_⟩⟩
   have n1:=hPC.2.ne hd'
   have n2:=hRC.ne hd'
   have hPD:=hPC.up SD
   obtain⟨dxD,eD⟩:=id hT.1
   refine⟨p',dxD,_,⟨t.c_zaq,La K t⟩,rfl,.head _,eD,rfl,⟨ae _,ae _⟩,⟨p',d',p,d,S,S,rfl,hT.rd,hPD,?_⟩⟩
   rw [Fo hT.2.rd (Like.refl S) TS.nd]
   refine⟨p,d,S,x,rfl,hPD,TS,hxS,fun HE SE=>fun u hu=>.inl ?_⟩
   have SF:=SE.trans (Same.upd (o:=.dK []) hu)
   have eu:upd HE u (.dK []) u=some (.dK []):=Ad
   generalize upd HE u (.dK [])=HF at SF eu ⊢
   have hRF:=(hRC.up SD).up SF
   obtain⟨kvs,ed,g⟩:=id hRF
   have tr:=g.trees
   refine .inr (.inr (.inr (.inr ⟨d0,u,kyK R,rsD R,[],[],rfl,rfl,⟨kvs,ed,g.keys,tr.1,by omega⟩,⟨[],.inl eu,rfl,Bp,by unfold Bv;omega⟩,Hm (c:=P5 (kyK R) (rsD R) [] []=true) (fun c=>?_) (fun c=>?_)⟩)))
   ·exact⟨p,d,d0,S,R,x,rfl,hPD.up SF,hRF,L,T,x0,hxR,fun HG _=>k HG⟩
   ·exact b20 Z ((SD.trans SF).seqL hAC) hRF (hPD.up SF) (hT.up SF) n1 n2 L T x0 hxR rk (fun e=>c (by rw [e];rfl)) k
end
end K23
set_option maxHeartbeats 4000000
namespace K23
open PySem L2
structure ar0 (K:aa) (mg:Str->Option Value) (t:Adr):Prop where
 g_zm:MOk K "names" "Plain.names" Rp t.f_zm t.d_zm X6
 F_zf:FunD K "__init__" "EditError.__init__" Ia t.f_zf t.d_zf t.dv_zf
 b_zf:∀ j,j<=1->Binds K t.d_zf Xz (t.du_zf.drop j)
 w_zf:Vals [.non] t.du_zf
 if_zf:c6 K (.ref t.f_zf)=true
 g_zn:MOk K "state" "Plain.state" Rq t.f_zn t.d_zn X7
 g_zd:MOk K "parent_of" "Plain.parent_of" Rh t.f_zd t.d_zd Xx
 g_zj:MOk K "rank_of" "Plain.rank_of" Rm t.f_zj t.d_zj X3
 g_ze:MOk K "place_key" "Plain.place_key" Ri t.f_ze t.d_ze Xy
 g_zc:MOk K "need_place" "Plain.need_place" Rg t.f_zc t.d_zc Xw
 g_zo:MOk K "under" "Plain.under" Rr t.f_zo t.d_zo X8
 g_za:MOk K "all_unders" "Plain.all_unders" Re t.f_za t.d_za Xu
 g_zx:MOk K "walk" "Plain.walk" R1 t.f_zx t.d_zx Yh
 g_zg:MOk K "beneath" "Plain.beneath" Rj t.f_zg t.d_zg X0
 g_zh:MOk K "kind_of" "Plain.kind_of" Rk t.f_zh t.d_zh X1
 g_zb:MOk K "content_of" "Plain.content_of" Rf t.f_zb t.d_zb Xv
 g_zi:MOk K "line_of" "Plain.line_of" Rl t.f_zi t.d_zi X2
 g_zl:MOk K "lines" "Plain.lines" Ro t.f_zl t.d_zl X5
 g_zaa:MOk K "lay" "Plain.lay" Kf t.f_zaa t.d_zaa Nz
 g_zu:MOk K "drop" "Plain.drop" Ry t.f_zu t.d_zu Ye
 g_zv:MOk K "__init__" "Plain.__init__" Rz t.f_zv t.d_zv Yf
 g_zk:MOk K "copied" "Plain.copied" Rn t.f_zk t.d_zk X4
 g_zw:MOk K "same" "Plain.same" R0 t.f_zw t.d_zw Yg
 g_zae:DOk K mg "_law_cell" Kj t.f_zae t.d_zae N2
 g_zah:DOk K mg "_law_name" Km t.f_zah t.d_zah N5
 g_zy:DOk K mg "_law_stream" R3 t.f_zy t.d_zy Yi
 g_zak:DOk K mg "_law_text" Kp t.f_zak t.d_zak N8
 g_zac:DOk K mg "_law_table" Kh t.f_zac t.d_zac N0
 g_zq:DOk K mg "_law_content" Ru t.f_zq t.d_zq Ya
 g_zai:DOk K mg "_law_rank" Kn t.f_zai t.d_zai N6
 g_zt:DOk K mg "_law_records" Rx t.f_zt t.d_zt Yd
 g_zag:DOk K mg "_law_laid" Kl t.f_zag t.d_zag N4
 g_zz:MOk K "has" "Plain.has" R5 t.f_zz t.d_zz Yj
 g_zaj:DOk K mg "_law_ring" Ko t.f_zaj t.d_zaj N7
 g_zad:DOk K mg "_law_under" Ki t.f_zad t.d_zad N1
 g_zab:DOk K mg "_law_lines" Kg t.f_zab t.d_zab Jb
 g_zp:DOk K mg "_law_beneath" Rt t.f_zp t.d_zp X9
 g_zr:DOk K mg "_law_dropped" Rv t.f_zr t.d_zr Yb
 g_zs:DOk K mg "_law_no_part" Rw t.f_zs t.d_zs Yc
 g_zal:DOk K mg "_law_one" Kq t.f_zal t.d_zal N9
 g_zaf:DOk K mg "_law_good" Kk t.f_zaf t.d_zaf N3
 F_zam:FunD K "law" "law" Ec t.f_zam t.d_zam .none
 b_zam:∀ j,j<=0->Binds K t.d_zam Oa (([]:List Value).drop j)
 w_zam:Vals [] ([]:List Value)
 m_zam:mg "law" = some (.ref t.f_zam)
 at_zao:mg "LeafError" = some (.ref t.c_zao)
 kp_zao:aV K (.ref t.c_zao)=true
 ec_zao:ECls K t.c_zao
 in_zao:ar K (.ref t.c_zao) "__init__" = some (some (.builtin "ValueError.__init__"))
 at_zan:mg "EditError" = some (.ref t.c_zan)
 kp_zan:aV K (.ref t.c_zan)=true
 ec_zan:ECls K t.c_zan
 in_zan:ar K (.ref t.c_zan) "__init__" = some (some (.ref t.f_zf))
 at_zap:mg "NoPart" = some (.ref t.c_zap)
 kp_zap:aV K (.ref t.c_zap)=true
 ec_zap:ECls K t.c_zap
 in_zap:ar K (.ref t.c_zap) "__init__" = some (some (.ref t.f_zf))
 at_zaq:mg "Plain" = some (.ref t.c_zaq)
 kp_zaq:aV K (.ref t.c_zaq)=true
 mk_zaq:cP K t.c_zaq=true
 in_zaq:ar K (.ref t.c_zaq) "__init__" = some (some (.ref t.f_zv))
 cl_zaq:Cls K t.c_zaq
 mt_za:Ct K t.c_zaq "all_unders" t.f_za
 mt_zg:Ct K t.c_zaq "beneath" t.f_zg
 mt_zb:Ct K t.c_zaq "content_of" t.f_zb
 mt_zk:Ct K t.c_zaq "copied" t.f_zk
 mt_zu:Ct K t.c_zaq "drop" t.f_zu
 mt_zz:Ct K t.c_zaq "has" t.f_zz
 mt_zh:Ct K t.c_zaq "kind_of" t.f_zh
 mt_zaa:Ct K t.c_zaq "lay" t.f_zaa
 mt_zi:Ct K t.c_zaq "line_of" t.f_zi
 mt_zl:Ct K t.c_zaq "lines" t.f_zl
 mt_zm:Ct K t.c_zaq "names" t.f_zm
 mt_zc:Ct K t.c_zaq "need_place" t.f_zc
 mt_zd:Ct K t.c_zaq "parent_of" t.f_zd
 mt_zj:Ct K t.c_zaq "rank_of" t.f_zj
 mt_zw:Ct K t.c_zaq "same" t.f_zw
 mt_zn:Ct K t.c_zaq "state" t.f_zn
 mt_zo:Ct K t.c_zaq "under" t.f_zo
 mt_zx:Ct K t.c_zaq "walk" t.f_zx
 mt_ze:Ct K t.c_zaq "place_key" t.f_ze
 ky_ze:dD K (.ref t.f_ze) "__get__" = some (some (.builtin "function.__get__"))/\fR K (.ref t.f_ze)=some false
 v_zar:mg "TOP" = some t.u_zar
 r_zar:RelV (.str "") t.u_zar
 z:∀ x∈bl,mg x=none
 Z:Aw K t
theorem a40 {P:aK} {w:bt} {K:aa} {mg:Str->Option Value} {base:Heap} {t:Adr} (A:ar0 K mg t):FnOk P w K mg base CX0 17 t.f_zam t.d_zam Oa (Nu K t):=by
 have T0:Tab P w K mg base 0 (Da K t) bl:=(((((Tab.nil A.z).consV A.v_zar A.r_zar).consV (v:=.ref t.c_zaq) A.at_zaq rfl).consV (v:=.ref t.c_zap) A.at_zap rfl).consV (v:=.ref t.c_zan) A.at_zan rfl).consX (oi:=none) ⟨A.at_zao,A.kp_zao,A.ec_zao,A.in_zao⟩
 have T1:Tab P w K mg base 1 (Vx K t) bl:=(((((((((T0.mono (show 0<=1 by decide)).con (as5 K t) A.g_zad (a49 (t:=t) A.Z A.g_zad.F T0)).con (at0 K t) A.g_zai (a54 (t:=t) A.Z A.g_zai.F T0)).con (bl2 K t) A.g_zy (bo2 (t:=t) A.Z A.g_zy.F T0)).con (as9 K t) A.g_zah (a53 (t:=t) A.Z A.g_zah.F T0)).con (as6 K t) A.g_zae (a50 (t:=t) A.Z A.g_zae.F T0)).consM (m := "same") (l:=Bt K t) (one ⟨A.cl_zaq,A.mt_zw,A.g_zw.fi (La K t) (bo0 (t:=t) A.Z A.g_zw.F T0)⟩)).consM (m := "names") (l:=B0 K t) (one ⟨A.cl_zaq,A.mt_zm,A.g_zm.fi (Om K t) (bn0 (t:=t) A.Z A.g_zm.F T0)⟩)).consM (m := "lay") (l:=C8 K t) (one ⟨A.cl_zaq,A.mt_zaa,A.g_zaa.fi (Ol K t) (a46 (t:=t) A.Z A.g_zaa.F T0)⟩)).consM (m := "has") (l:=Hs K t) (one ⟨A.cl_zaq,A.mt_zz,A.g_zz.fi (V8 K t) (bo3 (t:=t) A.Z A.g_zz.F T0)⟩)
 have T2:Tab P w K mg base 2 (K9 K t) bl:=((((T1.mono (show 1<=2 by decide)).consC (oi:=some (V7 K t)) ⟨A.at_zaq,A.kp_zaq,A.mk_zaq,A.in_zaq,A.g_zv.i,A.g_zv.fi (V7 K t) (bn9 (t:=t) A.Z A.g_zv.F T0),ae 2⟩).consX (oi:=some (Qj K t)) ⟨A.at_zap,A.kp_zap,A.ec_zap,A.in_zap,A.if_zf,A.F_zf.kp,⟨CX0,fun X' _ _=>G0 X',au2 (t:=t) A.Z A.F_zf T0⟩,ae 2,A.b_zf,A.w_zf⟩).consX (oi:=some (Qj K t)) ⟨A.at_zan,A.kp_zan,A.ec_zan,A.in_zan,A.if_zf,A.F_zf.kp,⟨CX0,fun X' _ _=>G0 X',au2 (t:=t) A.Z A.F_zf T0⟩,ae 2,A.b_zf,A.w_zf⟩).con (at2 K t) A.g_zak (a56 (t:=t) A.Z A.g_zak.F T1)
 have T3:Tab P w K mg base 3 (Gp K t) bl:=((((T2.mono (show 2<=3 by decide)).con (as4 K t) A.g_zac (a48 (t:=t) A.Z A.g_zac.F T2)).consM (m := "state") (l:=Bl K t) (one ⟨A.cl_zaq,A.mt_zn,A.g_zn.fiE (Il K t) (bn1 (t:=t) A.Z A.g_zn.F T2)⟩)).consM (m := "need_place") (l:=C2 K t) (one ⟨A.cl_zaq,A.mt_zc,A.g_zc.fiE (aj4 K t) (bm2 (t:=t) A.Z A.g_zc.F T2)⟩)).consM (m := "copied") (l:=Bu K t) (one ⟨A.cl_zaq,A.mt_zk,A.g_zk.fi (Qk K t) (bm8 (t:=t) A.Z A.g_zk.F T2)⟩)
 have T4:Tab P w K mg base 4 (Ik K t) bl:=((((((T3.mono (show 3<=4 by decide)).con (as8 K t) A.g_zag (a52 (t:=t) A.Z A.g_zag.F T3)).con (bk8 K t) A.g_zq (bn4 (t:=t) A.Z A.g_zq.F T3)).consM (m := "rank_of") (l:=Cw K t) (one ⟨A.cl_zaq,A.mt_zj,A.g_zj.fiE (V6 K t) (bm7 (t:=t) A.Z A.g_zj.F T3)⟩)).consM (m := "parent_of") (l:=Br K t) (one ⟨A.cl_zaq,A.mt_zd,A.g_zd.fiE (Qi K t) (bm3 (t:=t) A.Z A.g_zd.F T3)⟩)).consM (m := "kind_of") (l:=Dm K t) (one ⟨A.cl_zaq,A.mt_zh,A.g_zh.fiE (Zl K t) (bm5 (t:=t) A.Z A.g_zh.F T3)⟩)).consM (m := "content_of") (l:=Ce K t) (one ⟨A.cl_zaq,A.mt_zb,A.g_zb.fiE (Zj K t) (bm1 (t:=t) A.Z A.g_zb.F T3)⟩)
 have T5:Tab P w K mg base 5 (bk2 K t) bl:=(((((T4.mono (show 4<=5 by decide)).con (at3 K t) A.g_zal (a57 (t:=t) A.Z A.g_zal.F T4)).con (at1 K t) A.g_zaj (a55 (t:=t) A.Z A.g_zaj.F T4)).con (bl1 K t) A.g_zt (bn7 (t:=t) A.Z A.g_zt.F T4)).consM (m := "place_key") (l:=Bs K t) (one ⟨A.cl_zaq,A.mt_ze,A.g_ze.fi (Zk K t) (au1 (t:=t) A.Z A.g_ze.F T4)⟩)).consM (m := "line_of") (l:=F9 K t) (one ⟨A.cl_zaq,A.mt_zi,A.g_zi.fi (a32 K t) (bm6 (t:=t) A.Z A.g_zi.F T4)⟩)
 have T6:Tab P w K mg base 6 (bk3 K t) bl:=T5.mono (show 5<=6 by decide)
 have T7:Tab P w K mg base 7 (Vy K t) bl:=(T6.mono (show 6<=7 by decide)).consK (m := "place_key") (l:=Bs K t) (fun mi hm=>by
  simp only [Bs,aF,bN,or_false] at hm
  rcases hm with rfl
  ·exact⟨⟨A.cl_zaq,A.mt_ze,A.g_ze.fi (Zk K t) (au1 (t:=t) A.Z A.g_ze.F T4)⟩,A.ky_ze.1,A.ky_ze.2,by decide +kernel,(show 7<=7 by decide)⟩)
 have T8:Tab P w K mg base 8 (ai8 K t) bl:=((T7.mono (show 7<=8 by decide)).consM (m := "under") (l:=E7 K t) (one ⟨A.cl_zaq,A.mt_zo,A.g_zo.fiE (Zm K t) (bn2 (t:=t) A.Z A.g_zo.F T7)⟩)).consM (m := "all_unders") (l:=D1 K t) (one ⟨A.cl_zaq,A.mt_za,A.g_za.fi (a31 K t) (bm0 (t:=t) A.Z A.g_za.F T7)⟩)
 have T9:Tab P w K mg base 9 (Vz K t) bl:=(T8.mono (show 8<=9 by decide)).consM (m := "walk") (l:=Iv K t) (one ⟨A.cl_zaq,A.mt_zx,A.g_zx.fi (aj7 K t) (bo1 (t:=t) A.Z A.g_zx.F T8)⟩)
 have T10:Tab P w K mg base 10 (Lx K t) bl:=((T9.mono (show 9<=10 by decide)).consM (m := "lines") (l:=Gx K t) (one ⟨A.cl_zaq,A.mt_zl,A.g_zl.fi (aj5 K t) (bm9 (t:=t) A.Z A.g_zl.F T9)⟩)).consM (m := "beneath") (l:=Cv K t) (one ⟨A.cl_zaq,A.mt_zg,A.g_zg.fiE (V5 K t) (bm4 (t:=t) A.Z A.g_zg.F T9)⟩)
 have T11:Tab P w K mg base 11 (Ty K t) bl:=((T10.mono (show 10<=11 by decide)).con (bl0 K t) A.g_zs (bn6 (t:=t) A.Z A.g_zs.F T10)).consM (m := "drop") (l:=Gw K t) (one ⟨A.cl_zaq,A.mt_zu,A.g_zu.fiE (aj6 K t) (bn8 (t:=t) A.Z A.g_zu.F T10)⟩)
 have T12:Tab P w K mg base 12 (as0 K t) bl:=(T11.mono (show 11<=12 by decide)).con (bk9 K t) A.g_zr (bn5 (t:=t) A.Z A.g_zr.F T11)
 have T13:Tab P w K mg base 13 (as1 K t) bl:=T12.mono (show 12<=13 by decide)
 have T14:Tab P w K mg base 14 (Tz K t) bl:=(T13.mono (show 13<=14 by decide)).con (as3 K t) A.g_zab (a47 (t:=t) A.Z A.g_zab T1 12)
 have T15:Tab P w K mg base 15 (Ua K t) bl:=(T14.mono (show 14<=15 by decide)).con (bk7 K t) A.g_zp (bn3 (t:=t) A.Z A.g_zp.F T14)
 have T16:Tab P w K mg base 16 (Zc K t) bl:=(T15.mono (show 15<=16 by decide)).con (as7 K t) A.g_zaf (a51 (t:=t) A.Z A.g_zaf.F T15)
 exact a58 (t:=t) A.Z A.F_zam T16
@[elab_as_elim] theorem Lc {P:List Value->Prop} (h:∀ a,P [a]):∀ us:List Value,us.length=1->P us
 | [a],_=>h a
@[elab_as_elim] theorem Dl {P:List Value->Prop} (h:∀ a b,P [a,b]):∀ us:List Value,us.length=2->P us
 | [a,b],_=>h a b
@[elab_as_elim] theorem Wg {P:List Value->Prop} (h:∀ a b c,P [a,b,c]):∀ us:List Value,us.length=3->P us
 | [a,b,c],_=>h a b c
@[elab_as_elim] theorem b22 {P:List Value->Prop} (h:∀ a b c d e f,P [a,b,c,d,e,f]):∀ us:List Value,us.length=6->P us
 | [a,b,c,d,e,f],_=>h a b c d e f
theorem all_mk {l:kA} {w:bt} {K:aa} {h:Heap} {mg:Str->Option Value} {fa f_zm f_zf f_zn f_zd f_zj f_ze f_zc f_zo f_za f_zx f_zg f_zh f_zb f_zi f_zl f_zaa f_zu f_zv f_zk f_zw f_zae f_zah f_zy f_zak f_zac f_zq f_zai f_zt f_zag f_zz f_zaj f_zad f_zab f_zp f_zr f_zs f_zal f_zaf f_zam c_zao c_zan c_zap c_zaq Td_zf:Addr} (X:K.In h) (G:h.Ns br mg) (hfa:mg "law" = some (.ref fa))
  {od_zf an_zf od_zam an_zam td_zf:Option Addr} {sl_zf sl_zam ts_zf:Array (Option Value)}
  {oc_zf kV_zf dc_zf pm_zf cd_zf ct_zf oc_zam kV_zam dc_zam pm_zam cd_zam ct_zam tc_zf:Value}
  {tn_zf:Nat}
  {u_zar:Value}
  (a_zao:bT K br "LeafError" = some (some (.ref c_zao)))
  (a_zan:bT K br "EditError" = some (some (.ref c_zan)))
  (a_zap:bT K br "NoPart" = some (some (.ref c_zap)))
  (in_zao:ar K (.ref c_zao) "__init__" = some (some (.builtin "ValueError.__init__")))
  (kp_zao:aV K (.ref c_zao)=true)
  (in_zan:ar K (.ref c_zan) "__init__" = some (some (.ref f_zf)))
  (kp_zan:aV K (.ref c_zan)=true)
  (in_zap:ar K (.ref c_zap) "__init__" = some (some (.ref f_zf)))
  (kp_zap:aV K (.ref c_zap)=true)
  (a_zaq:bT K br "Plain" = some (some (.ref c_zaq)))
  (in_zaq:ar K (.ref c_zaq) "__init__" = some (some (.ref f_zv)))
  (kp_zaq:aV K (.ref c_zaq)=true)
  (mk_zaq:cP K c_zaq=true)
  (pg_zaq:gj K c_zaq cQ=true)
  (hd_zaq:gX K c_zaq=true)
  (po_zaq:jt K c_zaq=true)
  (sa_zaq:ar K (.ref c_zaq) "__setattr__" = some (some (.builtin "object.__setattr__")))
  (mt_za:ar K (.ref c_zaq) "all_unders" = some (some (.ref f_za)))
  (mt_zg:ar K (.ref c_zaq) "beneath" = some (some (.ref f_zg)))
  (mt_zb:ar K (.ref c_zaq) "content_of" = some (some (.ref f_zb)))
  (mt_zk:ar K (.ref c_zaq) "copied" = some (some (.ref f_zk)))
  (mt_zu:ar K (.ref c_zaq) "drop" = some (some (.ref f_zu)))
  (mt_zz:ar K (.ref c_zaq) "has" = some (some (.ref f_zz)))
  (mt_zh:ar K (.ref c_zaq) "kind_of" = some (some (.ref f_zh)))
  (mt_zaa:ar K (.ref c_zaq) "lay" = some (some (.ref f_zaa)))
  (mt_zi:ar K (.ref c_zaq) "line_of" = some (some (.ref f_zi)))
  (mt_zl:ar K (.ref c_zaq) "lines" = some (some (.ref f_zl)))
  (mt_zm:ar K (.ref c_zaq) "names" = some (some (.ref f_zm)))
  (mt_zc:ar K (.ref c_zaq) "need_place" = some (some (.ref f_zc)))
  (mt_zd:ar K (.ref c_zaq) "parent_of" = some (some (.ref f_zd)))
  (mt_zj:ar K (.ref c_zaq) "rank_of" = some (some (.ref f_zj)))
  (mt_zw:ar K (.ref c_zaq) "same" = some (some (.ref f_zw)))
  (mt_zn:ar K (.ref c_zaq) "state" = some (some (.ref f_zn)))
  (mt_zo:ar K (.ref c_zaq) "under" = some (some (.ref f_zo)))
  (mt_zx:ar K (.ref c_zaq) "walk" = some (some (.ref f_zx)))
  (mt_ze:ar K (.ref c_zaq) "place_key" = some (some (.ref f_ze)))
  (ks_ze:dD K (.ref f_ze) "__get__" = some (some (.builtin "function.__get__")))
  (kt_ze:fR K (.ref f_ze)=some false)
  (q_zm:MetD K "names" "Plain.names" Rp f_zm)
  (l_zf:K.lookup f_zf=some ⟨oc_zf,od_zf,.func (cb "__init__" "EditError.__init__" (Bq Ia) (Aj Ia) (Ac Ia) (.ref Td_zf) kV_zf dc_zf pm_zf an_zf cd_zf ct_zf),sl_zf⟩)
  (c_zf:dA K cd_zf "EditError.__init__" = true)
  (k_zf:aV K (.ref f_zf)=true)
  (if_zf:c6 K (.ref f_zf)=true)
  (ld_zf:K.lookup Td_zf=some ⟨tc_zf,td_zf,.seq #[.none] tn_zf,ts_zf⟩)
  (q_zn:MetD K "state" "Plain.state" Rq f_zn)
  (q_zd:MetD K "parent_of" "Plain.parent_of" Rh f_zd)
  (q_zj:MetD K "rank_of" "Plain.rank_of" Rm f_zj)
  (q_ze:MetD K "place_key" "Plain.place_key" Ri f_ze)
  (q_zc:MetD K "need_place" "Plain.need_place" Rg f_zc)
  (q_zo:MetD K "under" "Plain.under" Rr f_zo)
  (q_za:MetD K "all_unders" "Plain.all_unders" Re f_za)
  (q_zx:MetD K "walk" "Plain.walk" R1 f_zx)
  (q_zg:MetD K "beneath" "Plain.beneath" Rj f_zg)
  (q_zh:MetD K "kind_of" "Plain.kind_of" Rk f_zh)
  (q_zb:MetD K "content_of" "Plain.content_of" Rf f_zb)
  (q_zi:MetD K "line_of" "Plain.line_of" Rl f_zi)
  (q_zl:MetD K "lines" "Plain.lines" Ro f_zl)
  (q_zaa:MetD K "lay" "Plain.lay" Kf f_zaa)
  (q_zu:MetD K "drop" "Plain.drop" Ry f_zu)
  (q_zv:MetD K "__init__" "Plain.__init__" Rz f_zv)
  (q_zk:MetD K "copied" "Plain.copied" Rn f_zk)
  (q_zw:MetD K "same" "Plain.same" R0 f_zw)
  (q_zae:TopD K "_law_cell" Kj f_zae)
  (q_zah:TopD K "_law_name" Km f_zah)
  (q_zy:TopD K "_law_stream" R3 f_zy)
  (q_zak:TopD K "_law_text" Kp f_zak)
  (q_zac:TopD K "_law_table" Kh f_zac)
  (q_zq:TopD K "_law_content" Ru f_zq)
  (q_zai:TopD K "_law_rank" Kn f_zai)
  (q_zt:TopD K "_law_records" Rx f_zt)
  (q_zag:TopD K "_law_laid" Kl f_zag)
  (q_zz:MetD K "has" "Plain.has" R5 f_zz)
  (q_zaj:TopD K "_law_ring" Ko f_zaj)
  (q_zad:TopD K "_law_under" Ki f_zad)
  (q_zab:TopD K "_law_lines" Kg f_zab)
  (q_zp:TopD K "_law_beneath" Rt f_zp)
  (q_zr:TopD K "_law_dropped" Rv f_zr)
  (q_zs:TopD K "_law_no_part" Rw f_zs)
  (q_zal:TopD K "_law_one" Kq f_zal)
  (q_zaf:TopD K "_law_good" Kk f_zaf)
  (a_zam:bT K br "law" = some (some (.ref f_zam)))
  (l_zam:K.lookup f_zam=some ⟨oc_zam,od_zam,.func (cb "law" "law" (Bq Ec) (Aj Ec) (Ac Ec) .none kV_zam dc_zam pm_zam an_zam cd_zam ct_zam),sl_zam⟩)
  (c_zam:dA K cd_zam "law" = true)
  (k_zam:aV K (.ref f_zam)=true)
  (x_zao:XC K c_zao (valTail))
  (x_zan:XC K c_zan (.ref c_zao::valTail))
  (x_zap:XC K c_zap (.ref c_zan::.ref c_zao::valTail))
  (v_zar:bT K br "TOP" = some (some u_zar))
  (r_zar:RelV (.str "") u_zar)
  (z_dict:bT K br "dict" = some none)
  (z_enumerate:bT K br "enumerate" = some none)
  (z_int:bT K br "int" = some none)
  (z_isinstance:bT K br "isinstance" = some none)
  (z_len:bT K br "len" = some none)
  (z_list:bT K br "list" = some none)
  (z_max:bT K br "max" = some none)
  (z_range:bT K br "range" = some none)
  (z_reversed:bT K br "reversed" = some none)
  (z_set:bT K br "set" = some none)
  (z_sorted:bT K br "sorted" = some none)
  (z_tuple:bT K br "tuple" = some none)
  (na_zaq:ar K (.ref c_zaq) "records" = some none)
  (nb_NoPart_part:ar K (.ref c_zap) "part" = some none)
  (nb_NoPart_choice:ar K (.ref c_zap) "choice" = some none)
  (me_zap:gM K c_zap (.ref c_zap)=some true)
  : ∃ (t:Adr) (fd:aH),(∀ (s:ai) (v:Value),mK s fd ⟨[v],[]⟩ [("_law_script", v)]) /\ ∀ base:Heap,K.In base->base.Ns br mg->FnOk l.prog w K mg base CX0 17 fa fd ["_law_script"] (Nu K t):=by
 obtain⟨d_zm,g_zm⟩:=q_zm.ok (ps:=X6) fun _ _ _ _ _ _ us hl=>Lc (fun _=>rfl) us hl
 have F_zf:=ai7 (st:=Ia) l_zf c_zf k_zf
 have b_zf:∀ j,j<=1->Binds K (cb "__init__" "EditError.__init__" (Bq Ia) (Aj Ia) (Ac Ia) (.ref Td_zf) kV_zf dc_zf pm_zf an_zf cd_zf ct_zf) Xz ([bh].drop j):=fun j hj=>by
  match j,hj with
  | 0,_=>exact Id 2 rfl ld_zf rfl rfl (fun us hl=>Dl (fun _ _=>⟨_,rfl,rfl⟩) us hl)
  | 1,_=>exact Id 3 rfl ld_zf rfl rfl (fun us hl=>Wg (fun _ _ _=>⟨_,rfl,rfl⟩) us hl)
 obtain⟨d_zn,g_zn⟩:=q_zn.ok (ps:=X7) fun _ _ _ _ _ _ us hl=>Dl (fun _ _=>rfl) us hl
 obtain⟨d_zd,g_zd⟩:=q_zd.ok (ps:=Xx) fun _ _ _ _ _ _ us hl=>Dl (fun _ _=>rfl) us hl
 obtain⟨d_zj,g_zj⟩:=q_zj.ok (ps:=X3) fun _ _ _ _ _ _ us hl=>Dl (fun _ _=>rfl) us hl
 obtain⟨d_ze,g_ze⟩:=q_ze.ok (ps:=Xy) fun _ _ _ _ _ _ us hl=>Dl (fun _ _=>rfl) us hl
 obtain⟨d_zc,g_zc⟩:=q_zc.ok (ps:=Xw) fun _ _ _ _ _ _ us hl=>Dl (fun _ _=>rfl) us hl
 obtain⟨d_zo,g_zo⟩:=q_zo.ok (ps:=X8) fun _ _ _ _ _ _ us hl=>Dl (fun _ _=>rfl) us hl
 obtain⟨d_za,g_za⟩:=q_za.ok (ps:=Xu) fun _ _ _ _ _ _ us hl=>Lc (fun _=>rfl) us hl
 obtain⟨d_zx,g_zx⟩:=q_zx.ok (ps:=Yh) fun _ _ _ _ _ _ us hl=>Dl (fun _ _=>rfl) us hl
 obtain⟨d_zg,g_zg⟩:=q_zg.ok (ps:=X0) fun _ _ _ _ _ _ us hl=>Dl (fun _ _=>rfl) us hl
 obtain⟨d_zh,g_zh⟩:=q_zh.ok (ps:=X1) fun _ _ _ _ _ _ us hl=>Dl (fun _ _=>rfl) us hl
 obtain⟨d_zb,g_zb⟩:=q_zb.ok (ps:=Xv) fun _ _ _ _ _ _ us hl=>Dl (fun _ _=>rfl) us hl
 obtain⟨d_zi,g_zi⟩:=q_zi.ok (ps:=X2) fun _ _ _ _ _ _ us hl=>Wg (fun _ _ _=>rfl) us hl
 obtain⟨d_zl,g_zl⟩:=q_zl.ok (ps:=X5) fun _ _ _ _ _ _ us hl=>Lc (fun _=>rfl) us hl
 obtain⟨d_zaa,g_zaa⟩:=q_zaa.ok (ps:=Nz) fun _ _ _ _ _ _ us hl=>b22 (fun _ _ _ _ _ _=>rfl) us hl
 obtain⟨d_zu,g_zu⟩:=q_zu.ok (ps:=Ye) fun _ _ _ _ _ _ us hl=>Dl (fun _ _=>rfl) us hl
 obtain⟨d_zv,g_zv⟩:=q_zv.ok (ps:=Yf) fun _ _ _ _ _ _ us hl=>Lc (fun _=>rfl) us hl
 obtain⟨d_zk,g_zk⟩:=q_zk.ok (ps:=X4) fun _ _ _ _ _ _ us hl=>Lc (fun _=>rfl) us hl
 obtain⟨d_zw,g_zw⟩:=q_zw.ok (ps:=Yg) fun _ _ _ _ _ _ us hl=>Dl (fun _ _=>rfl) us hl
 obtain⟨d_zae,g_zae⟩:=q_zae.ok X G (ps:=N2) fun _ _ _ _ _ _ us hl=>Dl (fun _ _=>rfl) us hl
 obtain⟨d_zah,g_zah⟩:=q_zah.ok X G (ps:=N5) fun _ _ _ _ _ _ us hl=>Dl (fun _ _=>rfl) us hl
 obtain⟨d_zy,g_zy⟩:=q_zy.ok X G (ps:=Yi) fun _ _ _ _ _ _ us hl=>Dl (fun _ _=>rfl) us hl
 obtain⟨d_zak,g_zak⟩:=q_zak.ok X G (ps:=N8) fun _ _ _ _ _ _ us hl=>Lc (fun _=>rfl) us hl
 obtain⟨d_zac,g_zac⟩:=q_zac.ok X G (ps:=N0) fun _ _ _ _ _ _ us hl=>Lc (fun _=>rfl) us hl
 obtain⟨d_zq,g_zq⟩:=q_zq.ok X G (ps:=Ya) fun _ _ _ _ _ _ us hl=>Dl (fun _ _=>rfl) us hl
 obtain⟨d_zai,g_zai⟩:=q_zai.ok X G (ps:=N6) fun _ _ _ _ _ _ us hl=>Lc (fun _=>rfl) us hl
 obtain⟨d_zt,g_zt⟩:=q_zt.ok X G (ps:=Yd) fun _ _ _ _ _ _ us hl=>Lc (fun _=>rfl) us hl
 obtain⟨d_zag,g_zag⟩:=q_zag.ok X G (ps:=N4) fun _ _ _ _ _ _ us hl=>Dl (fun _ _=>rfl) us hl
 obtain⟨d_zz,g_zz⟩:=q_zz.ok (ps:=Yj) fun _ _ _ _ _ _ us hl=>Dl (fun _ _=>rfl) us hl
 obtain⟨d_zaj,g_zaj⟩:=q_zaj.ok X G (ps:=N7) fun _ _ _ _ _ _ us hl=>Dl (fun _ _=>rfl) us hl
 obtain⟨d_zad,g_zad⟩:=q_zad.ok X G (ps:=N1) fun _ _ _ _ _ _ us hl=>Dl (fun _ _=>rfl) us hl
 obtain⟨d_zab,g_zab⟩:=q_zab.ok X G (ps:=Jb) fun _ _ _ _ _ _ us hl=>Wg (fun _ _ _=>rfl) us hl
 obtain⟨d_zp,g_zp⟩:=q_zp.ok X G (ps:=X9) fun _ _ _ _ _ _ us hl=>Dl (fun _ _=>rfl) us hl
 obtain⟨d_zr,g_zr⟩:=q_zr.ok X G (ps:=Yb) fun _ _ _ _ _ _ us hl=>Dl (fun _ _=>rfl) us hl
 obtain⟨d_zs,g_zs⟩:=q_zs.ok X G (ps:=Yc) fun _ _ _ _ _ _ us hl=>Wg (fun _ _ _=>rfl) us hl
 obtain⟨d_zal,g_zal⟩:=q_zal.ok X G (ps:=N9) fun _ _ _ _ _ _ us hl=>Wg (fun _ _ _=>rfl) us hl
 obtain⟨d_zaf,g_zaf⟩:=q_zaf.ok X G (ps:=N3) fun _ _ _ _ _ _ us hl=>Wg (fun _ _ _=>rfl) us hl
 have F_zam:=Qb (st:=Ec) l_zam c_zam k_zam
 have b_zam:=F_zam.binds (ps:=Oa) fun _ _ _ _ _ _ us hl=>Lc (fun _=>rfl) us hl
 have m:=ff X G a_zam
 have e:fa=f_zam:=by
  rw [hfa] at m
  injection m with m
  injection m
 subst e
 have tl_1:∀ {a:Addr},A4 (.ref a::valTail)=true:=fun {a}=>by show A4 valTail=true;decide +kernel
 have tl_2:∀ {a b:Addr},A4 (.ref a::.ref b::valTail)=true:=fun {a b}=>by show A4 valTail=true;decide +kernel
 have AO:ar0 K mg ⟨f_zm,d_zm,f_zf,_,f_zn,d_zn,f_zd,d_zd,f_zj,d_zj,f_ze,d_ze,f_zc,d_zc,f_zo,d_zo,f_za,d_za,f_zx,d_zx,f_zg,d_zg,f_zh,d_zh,f_zb,d_zb,f_zi,d_zi,f_zl,d_zl,f_zaa,d_zaa,f_zu,d_zu,f_zv,d_zv,f_zk,d_zk,f_zw,d_zw,f_zae,d_zae,f_zah,d_zah,f_zy,d_zy,f_zak,d_zak,f_zac,d_zac,f_zq,d_zq,f_zai,d_zai,f_zt,d_zt,f_zag,d_zag,f_zz,d_zz,f_zaj,d_zaj,f_zad,d_zad,f_zab,d_zab,f_zp,d_zp,f_zr,d_zr,f_zs,d_zs,f_zal,d_zal,f_zaf,d_zaf,fa,_,.ref Td_zf,[bh],c_zao,c_zan,c_zap,c_zaq,u_zar⟩:=⟨g_zm,F_zf,b_zf,(.cons rfl .nil),if_zf,g_zn,g_zd,g_zj,g_ze,g_zc,g_zo,g_za,g_zx,g_zg,g_zh,g_zb,g_zi,g_zl,g_zaa,g_zu,g_zv,g_zk,g_zw,g_zae,g_zah,g_zy,g_zak,g_zac,g_zq,g_zai,g_zt,g_zag,g_zz,g_zaj,g_zad,g_zab,g_zp,g_zr,g_zs,g_zal,g_zaf,F_zam.toD,(fun j _=>by rw [List.drop_nil];exact b_zam),.nil,ff X G a_zam,ff X G a_zao,kp_zao,x_zao.ecls (by decide +kernel),in_zao,ff X G a_zan,kp_zan,x_zan.ecls tl_1,in_zan,ff X G a_zap,kp_zap,x_zap.ecls tl_2,in_zap,ff X G a_zaq,kp_zaq,mk_zaq,in_zaq,⟨pg_zaq,hd_zaq,po_zaq,sa_zaq⟩,⟨mt_za,g_za.i,g_za.F.kp⟩,⟨mt_zg,g_zg.i,g_zg.F.kp⟩,⟨mt_zb,g_zb.i,g_zb.F.kp⟩,⟨mt_zk,g_zk.i,g_zk.F.kp⟩,⟨mt_zu,g_zu.i,g_zu.F.kp⟩,⟨mt_zz,g_zz.i,g_zz.F.kp⟩,⟨mt_zh,g_zh.i,g_zh.F.kp⟩,⟨mt_zaa,g_zaa.i,g_zaa.F.kp⟩,⟨mt_zi,g_zi.i,g_zi.F.kp⟩,⟨mt_zl,g_zl.i,g_zl.F.kp⟩,⟨mt_zm,g_zm.i,g_zm.F.kp⟩,⟨mt_zc,g_zc.i,g_zc.F.kp⟩,⟨mt_zd,g_zd.i,g_zd.F.kp⟩,⟨mt_zj,g_zj.i,g_zj.F.kp⟩,⟨mt_zw,g_zw.i,g_zw.F.kp⟩,⟨mt_zn,g_zn.i,g_zn.F.kp⟩,⟨mt_zo,g_zo.i,g_zo.F.kp⟩,⟨mt_zx,g_zx.i,g_zx.F.kp⟩,⟨mt_ze,g_ze.i,g_ze.F.kp⟩,⟨ks_ze,kt_ze⟩,ff X G v_zar,r_zar,(fun x hx=>by
   simp only [bl,aF,bN,or_false] at hx
   rcases hx with rfl|rfl|rfl|rfl|rfl|rfl|rfl|rfl|rfl|rfl|rfl|rfl
   all_goals exact PySem.W.mg_none_of X G (by assumption)),⟨⟨pg_zaq,hd_zaq,po_zaq,sa_zaq⟩,na_zaq,x_zap.ecls tl_2,nb_NoPart_part,nb_NoPart_choice,x_zap.kit x_zan (by rw [bM,bM,beq_self_eq_true,Bool.true_or,fK]),me_zap⟩⟩
 exact⟨_,cb "law" "law" (Bq Ec) (Aj Ec) (Ac Ec) .none kV_zam dc_zam pm_zam an_zam cd_zam ct_zam,fun s v=>.of_eq rfl,fun base _ _=>a40 AO⟩
noncomputable def sp0 (K:aa):Sp:=fun vs H Q _=>∃ (a:Addr) (ns:List Int),vs=[.ref a]/\SqL K H a (ns.map V.int)/\ns.length<=63 /\ ∀ H',Q (.bl true) H'
theorem walk {l:kA} {q:aK} {loose:List Str} {XP:(Str->Option Value)->Heap->Prop} {YP:bt->Heap->Prop} {d:DefRec} {K:Params->aa} (hn:l.most=some 63) (hdf:d.params.defaults=[])
  (hY:∀ (w:bt) (h:Heap),YP w h->(K w.params).In h)
  (F:∀ (w:bt) (mg:Str->Option Value) (fa:Addr) (h:Heap),(K w.params).In h->h.Ns br mg->mg d.name=some (.ref fa) ->
   ∃ (t:Adr) (fd:aH),(∀ (s:ai) (u:Value),mK s fd ⟨[u],[]⟩ [("_law_script", u)]) /\ ∀ base:Heap,(K w.params).In base->base.Ns br mg->FnOk l.prog w (K w.params) mg base CX0 17 fa fd ["_law_script"] (Nu (K w.params) t)) :
  PySem.W.WalkO q loose XP YP l.row.toRowW d [] (fun f vs=>PySem.call f vs):=
 L2.walk_of (n:=63) (k:=17) (x := "_law_script") (CX:=fun _=>CX0) (sp:=fun w=>sp0 (K w.params)) (fun _ _=>bH) hn (by decide) hdf ⟨rfl,by decide,by decide⟩ hY (fun w mg fa h a b c=>let ⟨t,fd,h1,h2⟩:=F w mg fa h a b c;⟨fd,h1,fun base x y=>(h2 base x y).imp fun vs H Q E z=>z⟩) (fun _ _ a ns hl _ hS=>⟨a,ns,rfl,hS,hl,fun _=>rfl⟩) fun _ _ _ _ _ z=>z
end K23
open PySem PySem.W PyProof.Rows
end
set_option maxRecDepth 100000 in
set_option maxHeartbeats 0 in
theorem PySem.Challenge.cw_manyleaf_k23_plain_books_holds : PySem.Challenge.rw_manyleaf_k23_plain_books.Holds := by
 refine head_k23 ?_
 k_fill
 refine K23.walk (l:=PySem.Challenge.rw_manyleaf_k23_plain_books) rfl rfl (fun w h Y=>PySem.W.kIn_of Y) ?F
 case F=>
  intro w mg fa h KX G hmg
  refine' K23.all_mk KX G hmg ?a_zao ?a_zan ?a_zap ?in_zao ?kp_zao ?in_zan ?kp_zan ?in_zap ?kp_zap ?a_zaq ?in_zaq ?kp_zaq ?mk_zaq ?pg_zaq ?hd_zaq ?po_zaq ?sa_zaq ?mt_za ?mt_zg ?mt_zb ?mt_zk ?mt_zu ?mt_zz ?mt_zh ?mt_zaa ?mt_zi ?mt_zl ?mt_zm ?mt_zc ?mt_zd ?mt_zj ?mt_zw ?mt_zn ?mt_zo ?mt_zx ?mt_ze ?ks_ze ?kt_ze ?q_zm ?l_zf ?c_zf ?k_zf ?if_zf ?ld_zf ?q_zn ?q_zd ?q_zj ?q_ze ?q_zc ?q_zo ?q_za ?q_zx ?q_zg ?q_zh ?q_zb ?q_zi ?q_zl ?q_zaa ?q_zu ?q_zv ?q_zk ?q_zw ?q_zae ?q_zah ?q_zy ?q_zak ?q_zac ?q_zq ?q_zai ?q_zt ?q_zag ?q_zz ?q_zaj ?q_zad ?q_zab ?q_zp ?q_zr ?q_zs ?q_zal ?q_zaf ?a_zam ?l_zam ?c_zam ?k_zam ?x_zao ?x_zan ?x_zap ?v_zar ?r_zar ?z_dict ?z_enumerate ?z_int ?z_isinstance ?z_len ?z_list ?z_max ?z_range ?z_reversed ?z_set ?z_sorted ?z_tuple ?na_zaq ?nb_NoPart_part ?nb_NoPart_choice ?me_zap
  (case a_zao=>k_is)
  (case a_zan=>k_is)
  (case a_zap=>k_is)
  (case in_zao=>k_is)
  (case kp_zao=>k_is)
  (case in_zan=>k_is)
  (case kp_zan=>k_is)
  (case in_zap=>k_is)
  (case kp_zap=>k_is)
  (case a_zaq=>k_is)
  (case in_zaq=>k_is)
  (case kp_zaq=>k_is)
  (case mk_zaq=>k_is)
  (case pg_zaq=>k_is)
  (case hd_zaq=>k_is)
  (case po_zaq=>k_is)
  (case sa_zaq=>k_is)
  (case mt_za=>k_is)
  (case mt_zg=>k_is)
  (case mt_zb=>k_is)
  (case mt_zk=>k_is)
  (case mt_zu=>k_is)
  (case mt_zz=>k_is)
  (case mt_zh=>k_is)
  (case mt_zaa=>k_is)
  (case mt_zi=>k_is)
  (case mt_zl=>k_is)
  (case mt_zm=>k_is)
  (case mt_zc=>k_is)
  (case mt_zd=>k_is)
  (case mt_zj=>k_is)
  (case mt_zw=>k_is)
  (case mt_zn=>k_is)
  (case mt_zo=>k_is)
  (case mt_zx=>k_is)
  (case mt_ze=>k_is)
  (case ks_ze=>k_is)
  (case kt_ze=>k_is)
  (case q_zm=>refine' L2.met_mk ?l ?c ?k ?i;(case l=>k_is);(case c=>k_is);(case k=>k_is);(case i=>k_is))
  (case l_zf=>k_is)
  (case c_zf=>k_is)
  (case k_zf=>k_is)
  (case if_zf=>k_is)
  (case ld_zf=>k_is)
  (case q_zn=>refine' L2.met_mk ?l ?c ?k ?i;(case l=>k_is);(case c=>k_is);(case k=>k_is);(case i=>k_is))
  (case q_zd=>refine' L2.met_mk ?l ?c ?k ?i;(case l=>k_is);(case c=>k_is);(case k=>k_is);(case i=>k_is))
  (case q_zj=>refine' L2.met_mk ?l ?c ?k ?i;(case l=>k_is);(case c=>k_is);(case k=>k_is);(case i=>k_is))
  (case q_ze=>refine' L2.met_mk ?l ?c ?k ?i;(case l=>k_is);(case c=>k_is);(case k=>k_is);(case i=>k_is))
  (case q_zc=>refine' L2.met_mk ?l ?c ?k ?i;(case l=>k_is);(case c=>k_is);(case k=>k_is);(case i=>k_is))
  (case q_zo=>refine' L2.met_mk ?l ?c ?k ?i;(case l=>k_is);(case c=>k_is);(case k=>k_is);(case i=>k_is))
  (case q_za=>refine' L2.met_mk ?l ?c ?k ?i;(case l=>k_is);(case c=>k_is);(case k=>k_is);(case i=>k_is))
  (case q_zx=>refine' L2.met_mk ?l ?c ?k ?i;(case l=>k_is);(case c=>k_is);(case k=>k_is);(case i=>k_is))
  (case q_zg=>refine' L2.met_mk ?l ?c ?k ?i;(case l=>k_is);(case c=>k_is);(case k=>k_is);(case i=>k_is))
  (case q_zh=>refine' L2.met_mk ?l ?c ?k ?i;(case l=>k_is);(case c=>k_is);(case k=>k_is);(case i=>k_is))
  (case q_zb=>refine' L2.met_mk ?l ?c ?k ?i;(case l=>k_is);(case c=>k_is);(case k=>k_is);(case i=>k_is))
  (case q_zi=>refine' L2.met_mk ?l ?c ?k ?i;(case l=>k_is);(case c=>k_is);(case k=>k_is);(case i=>k_is))
  (case q_zl=>refine' L2.met_mk ?l ?c ?k ?i;(case l=>k_is);(case c=>k_is);(case k=>k_is);(case i=>k_is))
  (case q_zaa=>refine' L2.met_mk ?l ?c ?k ?i;(case l=>k_is);(case c=>k_is);(case k=>k_is);(case i=>k_is))
  (case q_zu=>refine' L2.met_mk ?l ?c ?k ?i;(case l=>k_is);(case c=>k_is);(case k=>k_is);(case i=>k_is))
  (case q_zv=>refine' L2.met_mk ?l ?c ?k ?i;(case l=>k_is);(case c=>k_is);(case k=>k_is);(case i=>k_is))
  (case q_zk=>refine' L2.met_mk ?l ?c ?k ?i;(case l=>k_is);(case c=>k_is);(case k=>k_is);(case i=>k_is))
  (case q_zw=>refine' L2.met_mk ?l ?c ?k ?i;(case l=>k_is);(case c=>k_is);(case k=>k_is);(case i=>k_is))
  (case q_zae=>refine' L2.top_mk ?a ?l ?c ?k;(case a=>k_is);(case l=>k_is);(case c=>k_is);(case k=>k_is))
  (case q_zah=>refine' L2.top_mk ?a ?l ?c ?k;(case a=>k_is);(case l=>k_is);(case c=>k_is);(case k=>k_is))
  (case q_zy=>refine' L2.top_mk ?a ?l ?c ?k;(case a=>k_is);(case l=>k_is);(case c=>k_is);(case k=>k_is))
  (case q_zak=>refine' L2.top_mk ?a ?l ?c ?k;(case a=>k_is);(case l=>k_is);(case c=>k_is);(case k=>k_is))
  (case q_zac=>refine' L2.top_mk ?a ?l ?c ?k;(case a=>k_is);(case l=>k_is);(case c=>k_is);(case k=>k_is))
  (case q_zq=>refine' L2.top_mk ?a ?l ?c ?k;(case a=>k_is);(case l=>k_is);(case c=>k_is);(case k=>k_is))
  (case q_zai=>refine' L2.top_mk ?a ?l ?c ?k;(case a=>k_is);(case l=>k_is);(case c=>k_is);(case k=>k_is))
  (case q_zt=>refine' L2.top_mk ?a ?l ?c ?k;(case a=>k_is);(case l=>k_is);(case c=>k_is);(case k=>k_is))
  (case q_zag=>refine' L2.top_mk ?a ?l ?c ?k;(case a=>k_is);(case l=>k_is);(case c=>k_is);(case k=>k_is))
  (case q_zz=>refine' L2.met_mk ?l ?c ?k ?i;(case l=>k_is);(case c=>k_is);(case k=>k_is);(case i=>k_is))
  (case q_zaj=>refine' L2.top_mk ?a ?l ?c ?k;(case a=>k_is);(case l=>k_is);(case c=>k_is);(case k=>k_is))
  (case q_zad=>refine' L2.top_mk ?a ?l ?c ?k;(case a=>k_is);(case l=>k_is);(case c=>k_is);(case k=>k_is))
  (case q_zab=>refine' L2.top_mk ?a ?l ?c ?k;(case a=>k_is);(case l=>k_is);(case c=>k_is);(case k=>k_is))
  (case q_zp=>refine' L2.top_mk ?a ?l ?c ?k;(case a=>k_is);(case l=>k_is);(case c=>k_is);(case k=>k_is))
  (case q_zr=>refine' L2.top_mk ?a ?l ?c ?k;(case a=>k_is);(case l=>k_is);(case c=>k_is);(case k=>k_is))
  (case q_zs=>refine' L2.top_mk ?a ?l ?c ?k;(case a=>k_is);(case l=>k_is);(case c=>k_is);(case k=>k_is))
  (case q_zal=>refine' L2.top_mk ?a ?l ?c ?k;(case a=>k_is);(case l=>k_is);(case c=>k_is);(case k=>k_is))
  (case q_zaf=>refine' L2.top_mk ?a ?l ?c ?k;(case a=>k_is);(case l=>k_is);(case c=>k_is);(case k=>k_is))
  (case a_zam=>k_is)
  (case l_zam=>k_is)
  (case c_zam=>k_is)
  (case k_zam=>k_is)
  (case x_zao=>(refine' L2.xc_mk ?l ?y ?s ?g ?t ?c ?n ?k;(case l=>k_is);(case y=>k_is);(case s=>k_is);(case g=>k_is);(case t=>k_is);(case c=>k_is);(case n=>k_is);(case k=>k_is)))
  (case x_zan=>(refine' L2.xc_mk ?l ?y ?s ?g ?t ?c ?n ?k;(case l=>k_is);(case y=>k_is);(case s=>k_is);(case g=>k_is);(case t=>k_is);(case c=>k_is);(case n=>k_is);(case k=>k_is)))
  (case x_zap=>(refine' L2.xc_mk ?l ?y ?s ?g ?t ?c ?n ?k;(case l=>k_is);(case y=>k_is);(case s=>k_is);(case g=>k_is);(case t=>k_is);(case c=>k_is);(case n=>k_is);(case k=>k_is)))
  (case v_zar=>k_is)
  (case r_zar=>exact⟨_,rfl⟩)
  (case z_dict=>k_is)
  (case z_enumerate=>k_is)
  (case z_int=>k_is)
  (case z_isinstance=>k_is)
  (case z_len=>k_is)
  (case z_list=>k_is)
  (case z_max=>k_is)
  (case z_range=>k_is)
  (case z_reversed=>k_is)
  (case z_set=>k_is)
  (case z_sorted=>k_is)
  (case z_tuple=>k_is)
  (case na_zaq=>k_is)
  (case nb_NoPart_part=>k_is)
  (case nb_NoPart_choice=>k_is)
  (case me_zap=>k_is)
#print axioms PySem.Challenge.cw_manyleaf_k23_plain_books_holds
