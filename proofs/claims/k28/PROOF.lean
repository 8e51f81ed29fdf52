import PyProof.Rows.All
import Wide.All
import OpenK.AllK
import Wide.FinOn
import PyProof.ToksMono
import Lean
import PyProof.EqAt
import PyProof.EqKinds
import PyProof.TupleCall
import PyProof.NeKinds
import PyProof.ZipIter
import PyProof.StrWalks
import PyProof.ConsumeWalk
import PyProof.ExcArgs
import PyProof.ExcBaseAll.ValueError
import KE.KIsAll
import PyProof.EnumFor
import PyProof.EnumMake
import PyProof.EnumStmt
import PyProof.Rows.EnumRows
import PyProof.DictWalks
import PyProof.Rows.SetFrom
import PyProof.DictItems
import KE.KDictList
import PyProof.TupleIter
import PyProof.RulesRaise
import PyProof.RulesTry
import PyProof.MeetsIn
import KE.KEqDict
import PyProof.StrOps2
import PyProof.StrCalls6
import PyProof.ListMulRoad
import PyProof.FactsAll.tuple
import KE.KSortTup
import PyProof.Rows.Range3
import PyProof.Rows.ChunkLeaf
import PyProof.StationsW
import PyProof.PassesOwn
import PyProof.NsDelKeeps
import PySem.Challenge.RW_manyleaf_k28_no_edit
set_option Elab.async false
set_option linter.all false
section
open PySem PySem.W PyProof.Rows
set_option maxRecDepth 100000
set_option maxHeartbeats 0
noncomputable def PySem.W.Fast.tw10160884696877007401:Unit:=()
noncomputable def PySem.W.Fast.tw10566148561272062668:Unit:=()
noncomputable def PySem.W.Fast.tw10674826396667338390:Unit:=()
noncomputable def PySem.W.Fast.tw1071481559636615796:Unit:=()
noncomputable def PySem.W.Fast.tw10943179104490861664:Unit:=()
noncomputable def PySem.W.Fast.tw11140729045438353484:Unit:=()
noncomputable def PySem.W.Fast.tw11202178209539212957:Unit:=()
noncomputable def PySem.W.Fast.tw11258631477910186277:Unit:=()
noncomputable def PySem.W.Fast.tw11281739026699645921:Unit:=()
noncomputable def PySem.W.Fast.tw11374396256402265219:Unit:=()
noncomputable def PySem.W.Fast.tw1139349790405455897:Unit:=()
noncomputable def PySem.W.Fast.tw11667371051794263681:Unit:=()
noncomputable def PySem.W.Fast.tw11834083253339889653:Unit:=()
noncomputable def PySem.W.Fast.tw11897519101722849505:Unit:=()
noncomputable def PySem.W.Fast.tw1211163199882215572:Unit:=()
noncomputable def PySem.W.Fast.tw1224905975447089559:Unit:=()
noncomputable def PySem.W.Fast.tw12323615115491546075:Unit:=()
noncomputable def PySem.W.Fast.tw1236801011197977457:Unit:=()
noncomputable def PySem.W.Fast.tw12553377492820861417:Unit:=()
noncomputable def PySem.W.Fast.tw12864612238955137539:Unit:=()
noncomputable def PySem.W.Fast.tw12877564965308069806:Unit:=()
noncomputable def PySem.W.Fast.tw12881666871995238259:Unit:=()
noncomputable def PySem.W.Fast.tw12907361423778923689:Unit:=()
noncomputable def PySem.W.Fast.tw12927667014170332505:Unit:=()
noncomputable def PySem.W.Fast.tw13030136950536189526:Unit:=()
noncomputable def PySem.W.Fast.tw13167181148763873402:Unit:=()
noncomputable def PySem.W.Fast.tw1327744814286011669:Unit:=()
noncomputable def PySem.W.Fast.tw13487444968414589289:Unit:=()
noncomputable def PySem.W.Fast.tw13658339518175406269:Unit:=()
noncomputable def PySem.W.Fast.tw13767176887138074870:Unit:=()
noncomputable def PySem.W.Fast.tw13796342521786887340:Unit:=()
noncomputable def PySem.W.Fast.tw13818678618870084576:Unit:=()
noncomputable def PySem.W.Fast.tw13821330749086921505:Unit:=()
noncomputable def PySem.W.Fast.tw13939586758878263058:Unit:=()
noncomputable def PySem.W.Fast.tw1406033866748469762:Unit:=()
noncomputable def PySem.W.Fast.tw14353371631449744942:Unit:=()
noncomputable def PySem.W.Fast.tw14380822430276448742:Unit:=()
noncomputable def PySem.W.Fast.tw14453798645216372633:Unit:=()
noncomputable def PySem.W.Fast.tw14462784358222910633:Unit:=()
noncomputable def PySem.W.Fast.tw14526989310063714771:Unit:=()
noncomputable def PySem.W.Fast.tw14721070051616201417:Unit:=()
noncomputable def PySem.W.Fast.tw14731036356871390475:Unit:=()
noncomputable def PySem.W.Fast.tw14869245696480205645:Unit:=()
noncomputable def PySem.W.Fast.tw14888692820578855676:Unit:=()
noncomputable def PySem.W.Fast.tw15044541074496764271:Unit:=()
noncomputable def PySem.W.Fast.tw15341557709939232071:Unit:=()
noncomputable def PySem.W.Fast.tw15623678767817869493:Unit:=()
noncomputable def PySem.W.Fast.tw15920706368727311244:Unit:=()
noncomputable def PySem.W.Fast.tw16120163661024774821:Unit:=()
noncomputable def PySem.W.Fast.tw16167908172334577594:Unit:=()
noncomputable def PySem.W.Fast.tw16191786029765548284:Unit:=()
noncomputable def PySem.W.Fast.tw1624316166957141361:Unit:=()
noncomputable def PySem.W.Fast.tw16371174068688588414:Unit:=()
noncomputable def PySem.W.Fast.tw16537653585568004611:Unit:=()
noncomputable def PySem.W.Fast.tw16805800182848060333:Unit:=()
noncomputable def PySem.W.Fast.tw16833002986813532870:Unit:=()
noncomputable def PySem.W.Fast.tw168839680866971175:Unit:=()
noncomputable def PySem.W.Fast.tw16967852320315109117:Unit:=()
noncomputable def PySem.W.Fast.tw17211426962398621412:Unit:=()
noncomputable def PySem.W.Fast.tw17312622422488753842:Unit:=()
noncomputable def PySem.W.Fast.tw17339617414620601822:Unit:=()
noncomputable def PySem.W.Fast.tw17469153862033310891:Unit:=()
noncomputable def PySem.W.Fast.tw17579390644988623897:Unit:=()
noncomputable def PySem.W.Fast.tw17586048843623721043:Unit:=()
noncomputable def PySem.W.Fast.tw178438507017755254:Unit:=()
noncomputable def PySem.W.Fast.tw18312871726784546709:Unit:=()
noncomputable def PySem.W.Fast.tw18369777794746575509:Unit:=()
noncomputable def PySem.W.Fast.tw18406765933432965837:Unit:=()
noncomputable def PySem.W.Fast.tw18558717399424266:Unit:=()
noncomputable def PySem.W.Fast.tw2499571213856291163:Unit:=()
noncomputable def PySem.W.Fast.tw2985102659386672681:Unit:=()
noncomputable def PySem.W.Fast.tw3273063190797749449:Unit:=()
noncomputable def PySem.W.Fast.tw3303143202642342970:Unit:=()
noncomputable def PySem.W.Fast.tw357252244607121003:Unit:=()
noncomputable def PySem.W.Fast.tw3588264209305169157:Unit:=()
noncomputable def PySem.W.Fast.tw3596594585305712638:Unit:=()
noncomputable def PySem.W.Fast.tw3699159128691214156:Unit:=()
noncomputable def PySem.W.Fast.tw4231627575713342806:Unit:=()
noncomputable def PySem.W.Fast.tw4683295857360164309:Unit:=()
noncomputable def PySem.W.Fast.tw4932797175120133994:Unit:=()
noncomputable def PySem.W.Fast.tw5051337648004375442:Unit:=()
noncomputable def PySem.W.Fast.tw522071073590337446:Unit:=()
noncomputable def PySem.W.Fast.tw5433215750737098276:Unit:=()
noncomputable def PySem.W.Fast.tw5470897551635744277:Unit:=()
noncomputable def PySem.W.Fast.tw5535361613693242235:Unit:=()
noncomputable def PySem.W.Fast.tw5662811262278512711:Unit:=()
noncomputable def PySem.W.Fast.tw5665200610933580260:Unit:=()
noncomputable def PySem.W.Fast.tw5874628006994832864:Unit:=()
noncomputable def PySem.W.Fast.tw590547512380237128:Unit:=()
noncomputable def PySem.W.Fast.tw5933584213556448620:Unit:=()
noncomputable def PySem.W.Fast.tw5949634787914248726:Unit:=()
noncomputable def PySem.W.Fast.tw5995486906468998391:Unit:=()
noncomputable def PySem.W.Fast.tw6107358202536307704:Unit:=()
noncomputable def PySem.W.Fast.tw6328732230971298154:Unit:=()
noncomputable def PySem.W.Fast.tw6336074159393882926:Unit:=()
noncomputable def PySem.W.Fast.tw6383392987861619628:Unit:=()
noncomputable def PySem.W.Fast.tw6480900223205021430:Unit:=()
noncomputable def PySem.W.Fast.tw6491480595121759642:Unit:=()
noncomputable def PySem.W.Fast.tw6624880225742941695:Unit:=()
noncomputable def PySem.W.Fast.tw6742382827514514542:Unit:=()
noncomputable def PySem.W.Fast.tw7338253430618390309:Unit:=()
noncomputable def PySem.W.Fast.tw7357014043237139987:Unit:=()
noncomputable def PySem.W.Fast.tw7427043001966912952:Unit:=()
noncomputable def PySem.W.Fast.tw764481707266409050:Unit:=()
noncomputable def PySem.W.Fast.tw801517401132355501:Unit:=()
noncomputable def PySem.W.Fast.tw8131784603575910528:Unit:=()
noncomputable def PySem.W.Fast.tw8225933627788751619:Unit:=()
noncomputable def PySem.W.Fast.tw8494398976018582669:Unit:=()
noncomputable def PySem.W.Fast.tw8591073216925473776:Unit:=()
noncomputable def PySem.W.Fast.tw8737079099759675375:Unit:=()
noncomputable def PySem.W.Fast.tw9227674350100596635:Unit:=()
noncomputable def PySem.W.Fast.tw934630870586798863:Unit:=()
noncomputable def PySem.W.Fast.tw9416243564616807046:Unit:=()
noncomputable def PySem.W.Fast.tw9675217988533389164:Unit:=()
noncomputable def PySem.W.Fast.tw9725589704696719888:Unit:=()
noncomputable def PySem.W.Fast.tw9821238381564423429:Unit:=()
open_top head_k28 for PySem.Challenge.rw_manyleaf_k28_no_edit
end
section
open Array renaming getElem?_setIfInBounds_ne→bZ,size_setIfInBounds→cJ,getElem?_setIfInBounds_self_of_lt→dm,getElem?_eq_some_iff→dF,length_toList→dP,mem_toList_iff→gT
open Bool renaming false_ne_true→ak,and_eq_true→am,true_and→av,false_and→aR,and_false→b9,beq_eq_decide_eq→cx,eq_iff_iff→cK,or_eq_true→cL,or_true→cR,false_or→eR,not_eq_true'→fH,or_false→fQ,true_or→gy,or_eq_false_iff→gU,false_eq_true→ii
open False renaming elim→b3
open ForInStep renaming yield→dn
open Int renaming emod_lt_of_pos→bS,emod_nonneg→b_,toNat_of_nonneg→cU,toNat_natCast→dw,mul_le_mul_of_nonneg_left→eL
open LawfulBEq renaming eq_of_beq→bP
open List renaming length_append→aq,size_toArray→au,length_cons→ax,mem_cons→ay,getElem?_eq_some_iff→aG,length_map→aH,mem_cons_of_mem→aQ,not_mem_nil→aU,all_eq_true→aW,replicate→aX,contains_cons→a0,getElem?_eq_getElem→a9,map_cons→ba,length_take→bc,mem_append_right→bg,all_cons→bw,length_drop→bz,mem_of_getElem?→bB,getElem?_map→bD,mem_append→bE,mem_singleton→bI,getD_eq_getElem?_getD→bK,length_set→bO,getElem_mem→bW,mem_map→bX,replicate_succ→b7,getElem?_append_right→cv,flatten_cons→cN,getElem?_cons_succ→cV,lookup→cW,range→c9,getElem?_set_self→dg,find?_cons→dq,map_append→dt,getElem?_set_ne→dG,mem_append_left→dH,mem_of_mem_take→dI,getElem?_append_left→dM,any_cons→d7,mem_cons_self→d8,mem_filterMap→d9,nodup_cons→d_,take_of_length_le→eC,getElem?_eq_none→eG,map_nil→eI,mem_iff_getElem?→eJ,append_nil→eW,filterMap_cons→eX,mem_or_eq_of_mem_set→fv,foldl→fJ,getElem?_cons_zero→fR,cons_append→gc,filter_eq_nil_iff→gn,mem_filter→gz,nil_append→gE,of_mem_zip→gF,idxOf_le_length→gW,mem_of_mem_drop→gX,mem_range→g8,map→iQ
open Nat renaming le_refl→ae,lt_of_lt_of_le→aD,le_trans→aM,le_add_right→bh,ne_of_lt→bi,le_of_ble_eq_true→cy,lt_of_le_of_lt→cz,zero_le→cY,le_succ→du,lt_irrefl→eh,lt_succ_self→eM,succ_le_succ→eN,ne_of_gt→gG,mul_le_mul→g_,le_of_lt→iI
open Ne renaming symm→dj
open Option renaming some→bj,map_eq_some_iff→cu,isSome_iff_exists→cO,bind_some→c7,isSome_map→fK
open Option.some renaming inj→aN
open Or renaming inl→cS
open PyProof renaming noPylong_small→gq
open PyProof.Rows renaming slot_tuple_getitem→bF,callWith_type1→e9,tail_of_ItemOn→fC,AllBare→fP,boot_tuple→fT,boot_list→gp,subscriptTail_builtinR→gv,boot_int→gH,subscriptTail→iw,envOfC→iM,IntsAre→i7,IsTup→i8,tail_any→jd
open PyProof.Rows.IsTup renaming new→iT
open PySem renaming wpAny_bind→af,Shared→ah,FuncData→ai,wpAny_pure→al,mainGlobals→aw,Program→aI,wpAny→aS,Builtin→aY,wpAny_loadPart_at→a_,World→bq,Around→bt,wpAny_with_toks→bu,Spec→bG,compareOp→bJ,mem_of_lookup→bM,wpAny_isSubtype_exc→bQ,wpAny_holding→bR,NameKind→bT,wpAny_Call_Name_kw→bU,wpAny_field→b8,wpAny_loadPart'→ce,sysModules→cf,wpAny_mono→cg,starEach→cm,assignEach→cn,wpAny_truthy_bool→cq,sizeLine_eq→cr,behindInMarks→cD,bootBuiltins→cE,codeAny_call_builtin→cI,wpAny_newObj_type→cQ,Within→cT,binaryOp→c4,excClassObj→c5,wpAny_standAt→c6,foldedSetIterable→dz,wpAny_call→dE,codeAny→dJ,call_meets→dY,typeLookup→dZ,tupleKind_room_in1→ej,wpAny_ite_false→eu,wpAny_passesOwn→eA,sliceBounds→eF,codeAny_mono→eK,isInstance→eO,checkBuiltinCall→eP,Paired→eY,PassesOwn→eZ,letOwnedTupleGo→fh,wpAny_typeOf→fu,codeAny_call_builtin_code→fA,relabel→fB,wpAny_binaryOp_repeat_ref→fD,wpAny_check_type_call_sub→fE,wpAny_loadPart→fF,wpAny_setField→fG,DictEntry→fI,swapsWith→fO,attributeBase→fW,bindSpecial→fX,codeAny_call_builtin_at→fY,wpAny_Call_method0_late→fZ,wpAny_callSpecial?_slot→f9,noFill_tuple_add→gh,pastItsLine_dict→gi,wpAny_call_entry→gj,wpAny_lookBehind→gk,wpAny_madeBy_exc→gm,codeAny_handlers_suite→gu,wpAny_pyIter_rangeiter→gw,wpAny_pyNext_range_end→gx,backTo→gL,codeAny_handlers_test→gM,setFlight→gN,wpAny_execs_nil→gO,wpAny_isTrue_Compare1→gP,typeIs_int→gR,wpAny_rule→gS,IsRangeIter→hJ,Meets→hV,evalArgs_none→hZ,getItem→ib,keywordEach→ic,valueAt→ie,wpAny_handleBy_cons→ig,IsPart→ij,noteFrame→ir,seq_tuple_add→iu,swapsWithSole→ix,tupleKind→iy,wpAny_attempt→iz,wpAny_pyIter_range→iA,callerA→iC,getAttr→iD,notedBy→iE,standAt→iF,Result→iJ,assign→iK,concat_meets→iL,seqIndex_neg→iN,wpAny_nsSet1→iO,GenState→iP,BindsTo→iR,CmpOp→iS,Keyword→iU,onTheHeap→iY,raiseStmt→iZ,rawInt→i3,seqIndex_of→i4,setAttr→i5,Operator→i9,backToKw→i_,bindArgs→ja,compEnvC→jb,frameOf→jc,unaryOp→je,Walks→jf,atKey→jg
open PySem.Around renaming under→iG
open PySem.Builtin.Dict renaming dictSlotArgs→cF
open PySem.Builtin.List renaming listTooLong→dU
open PySem.Builtin.Range renaming rangeSize→bL,small→hG
open PySem.Builtin.Slice renaming slicePlaces→cG,sliceAdjust→dL,sliceApplied→fj
open PySem.Builtin.Str renaming occurrences→cj,strSlot→dQ
open PySem.Builtin.Tuple renaming tupleExact→cM,tupleItemsOf→fk
open PySem.Calls renaming callWith_builtin→eB,Name_function_global→fm
open PySem.Code renaming quiet_builtin→d6,isFrame→iH
open PySem.EntryCells renaming newEntry→eU
open PySem.F renaming excBase_ValueError→cw,slot_dict_itemiterator_iter→dR,args_tuple_add_2→dW,entry_tuple_add→ei,slot_tuple_add→eD,slot_int_rmul→eV,slot_dict_getitem→fw,slot_dict_items→fU,slot_tuple_mul→f_,slot_dict_eq→gY,slot_dict_ne→gZ,slot_str_eq→hR,slot_str_ne→hU
open PySem.Heap renaming get?_push_of_some→ag,lt_size→aJ,get?_push_size→aL,get?_update_other→bb,get?_update_self→bN,size_push→cH,get?_none_of_le→eQ,SameBut→fq
open PySem.NameKind renaming free→cX
open PySem.Obj renaming mapFields→bC,isFreed_of_fields→cA,mapSeq→gQ
open PySem.Paired renaming length→fS
open PySem.SeqAt renaming EqAt→bv,RcNeAt→dX,RcAt→fM
open PySem.SeqAt.EqAt renaming int_str→il,str_int→im
open PySem.Str renaming ofString→cb,empty→c8,length→iB
open PySem.Txt renaming slice→iV
open PySem.Value renaming ref→aC,builtin→ck,none→cP,bool→eT,str→fg,type→fN,isStrOf_shape→ia,int→ip,isStrOf→iq,isInt→iW
open PySem.W renaming Frag→aa,findIn→ac,keepIn→aj,makesIn→aE,nsIn→aF,mg_of→aV,emptyDict→bo,hasDictIn→bp,plainGet→br,plainOver→bx,instObj→bA,kia_one→bH,kitOne→bV,fnOf→bY,looks_findIn→ci,callWith_K→cB,isFn→cC,mroIn→cZ,codeIn→c_,kitAny→df,specialIn→dy,InstAt→dN,handedIn→dO,callWith_K0→dS,kitx_list→eE,Looks→eS,findCls→e_,plainGet_of→fb,readsIn→ff,kitx_tuple→ft,lookIn→fz,methodObj→fL,makes_of→ge,cellsFrom_some→gr,OpenLaw→gI,kia_tup→gJ,takerIn→gK,handedOut_of→g7,findObj_own→hW,looks_mroIn→hX,looks_find→ik,clsIn→iX
open Sum renaming inr→fV,inl→h_
open True renaming intro→bn
namespace L2
open PySem PySem.Spec PyProof.Rows
noncomputable abbrev Key:=Sum Int Str
noncomputable def Lp:Key->Value->Bool
 | .inl k,v=>iW k v
 | .inr x,v=>iq x v
noncomputable def cj3 (w:bq):Key->Int
 | .inl k=>hashInt k
 | .inr x=>hashStr w x
theorem Bj:∀ {k:Key} {v:Value},Lp k v=true->(∃ i t,k=h_ i/\v=ip i t)\/(∃ x t,k=fV x/\v=fg x t)
 | .inl i,v,h=>by
  obtain⟨t,e⟩:=Value.isInt_shape (k:=i) (v:=v) h
  exact .inl ⟨i,t,rfl,e⟩
 | .inr x,v,h=>by
  obtain⟨t,e⟩:=ia (x:=x) (v:=v) h
  exact .inr ⟨x,t,rfl,e⟩
theorem Wc (i:Int) (t:Tok):Lp (.inl i) (.int i t)=true:=by simp [Lp,iW]
theorem Wd (x:Str) (t:Tok):Lp (.inr x) (.str x t)=true:=by simp [Lp,iq]
theorem a53 (a b:Int):decide ((h_ a:Key)=h_ b)=(a==b):=by
 by_cases e:a=b
 ·subst e;simp
 ·have h:¬ (h_ a:Key)=h_ b:=fun q=>e (Sum.inl.inj q)
  rw [decide_eq_false h]
  exact (beq_eq_false_iff_ne.mpr e).symm
theorem a56 (a b:Str):decide ((fV a:Key)=fV b)=decide (a=b):=by
 by_cases e:a=b
 ·subst e;simp
 ·have h:¬ (fV a:Key)=fV b:=fun q=>e (Sum.inr.inj q)
  rw [decide_eq_false h,decide_eq_false e]
theorem a54 (a:Int) (b:Str):decide ((h_ a:Key)=fV b)=false:=decide_eq_false (fun q=>nomatch q)
theorem a55 (a:Str) (b:Int):decide ((fV a:Key)=h_ b)=false:=decide_eq_false (fun q=>nomatch q)
noncomputable def A9 (prog:aI) (w:bq):PySem.KeyKind prog w Key where
 is:=Lp
 hash:=cj3 w
 inj:=fun v a b ha hb=>by
  rcases Bj ha with ⟨i,t,rfl,rfl⟩|⟨x,t,rfl,rfl⟩
  ·rcases Bj hb with ⟨j,u,rfl,e⟩|⟨y,u,rfl,e⟩
   ·injection e with e1 _;rw [e1]
   ·exact nomatch e
  ·rcases Bj hb with ⟨j,u,rfl,e⟩|⟨y,u,rfl,e⟩
   ·exact nomatch e
   ·injection e with e1 _;rw [e1]
 byValue:=fun k v h=>by
  rcases Bj h with ⟨i,t,rfl,rfl⟩|⟨x,t,rfl,rfl⟩ <;> rfl
 pyHash:=fun hv h=>by
  rcases Bj hv with ⟨i,t,rfl,rfl⟩|⟨x,t,rfl,rfl⟩
  ·exact wpAny_pyHash_int h
  ·exact wpAny_pyHash_str h
 eqBool:=fun hu hv h=>by
  rcases Bj hu with ⟨i,t,rfl,rfl⟩|⟨x,t,rfl,rfl⟩
  ·rcases Bj hv with ⟨j,u,rfl,rfl⟩|⟨y,u,rfl,rfl⟩
   ·rw [a53] at h;exact wpAny_eqBool_int h
   ·rw [a54] at h;exact il i t y u _ _ _ _ h
  ·rcases Bj hv with ⟨j,u,rfl,rfl⟩|⟨y,u,rfl,rfl⟩
   ·rw [a55] at h;exact im x t j u _ _ _ _ h
   ·rw [a56] at h;exact wpAny_eqBool_str h
 «strs»:=fun k x t v h=>by
  rcases Bj h with ⟨i,u,rfl,e⟩|⟨y,u,rfl,e⟩
  ·exact nomatch e
  ·injection e with e1 _
   subst e1
   cases v <;> rfl
theorem P0 (prog:aI) (w:bq) (i:Int) (t:Tok):(A9 prog w).is (.inl i) (.int i t)=true:=Wc i t
theorem En (prog:aI) (w:bq) (x:Str) (t:Tok):(A9 prog w).is (.inr x) (.str x t)=true:=Wd x t
inductive V where
 | non|bl (b:Bool)|int (i:Int)|str (x:Str)|byt (b:Array UInt8)|stk (x:Str) (n:Nat) (ex:Bool)|ref (a:Addr)|ty (n:String)
 deriving DecidableEq
noncomputable def RelV:V->Value->Prop
 | .non,u=>u=cP
 | .bl b,u=>u=eT b
 | .int i,u=>∃ t,u=ip i t
 | .str x,u=>∃ t,u=fg x t
 | .byt b,u=>∃ t,u=Value.bytes b t
 | .stk x n ex,u=>∃ t,u=fg x t/\(if ex=true then t=n else n<=t)
 | .ref a,u=>u=aC a
 | .ty n,u=>u=fN n
noncomputable def V.pl:V->Bool
 | .stk _ _ _=>false
 | _=>true
noncomputable abbrev Vals:List V->List Value->Prop:=eY RelV
theorem Vals.length {xs:List V} {us:List Value} (r:Vals xs us):xs.length=us.length:=fS r
theorem Vals.get:∀ {xs:List V} {us:List Value} {i:Nat} {x:V},Vals xs us->xs[i]? = some x -> ∃ u,us[i]? = some u/\RelV x u
 | _,_,_,_,.nil,e=>by simp at e
 | _,_,0,_,.cons r _,e=>by simp at e;subst e;exact⟨_,rfl,r⟩
 | _,_,i+1,x,.cons _ t,e=>by
  obtain⟨u,h1,h2⟩:=Vals.get (i:=i) (x:=x) t (by simpa using e)
  exact⟨u,by simpa using h1,h2⟩
theorem Vals.set {x:V} {u:Value} (r:RelV x u):∀ {xs:List V} {us:List Value} (i:Nat),Vals xs us->Vals (xs.set i x) (us.set i u)
 | _,_,_,.nil=>.nil
 | _,_,0,.cons _ t=>.cons r t
 | _,_,i+1,.cons q t=>.cons q (Vals.set r i t)
theorem Vals.append:∀ {xs ys:List V} {us ws:List Value},Vals xs us->Vals ys ws->Vals (xs++ys) (us++ws)
 | _,_,_,_,.nil,s=>s
 | _,_,_,_,.cons r t,s=>.cons r (Vals.append t s)
theorem Vals.take:∀ {xs:List V} {us:List Value} (n:Nat),Vals xs us->Vals (xs.take n) (us.take n)
 | _,_,0,_=>.nil
 | _,_,_+1,.nil=>.nil
 | _,_,n+1,.cons r t=>.cons r (Vals.take n t)
theorem Vals.drop:∀ {xs:List V} {us:List Value} (n:Nat),Vals xs us->Vals (xs.drop n) (us.drop n)
 | _,_,0,r=>r
 | _,_,_+1,.nil=>.nil
 | _,_,n+1,.cons _ t=>Vals.drop n t
noncomputable def RelO:Option V->Option Value->Prop
 | some v,some u=>RelV v u
 | none,none=>True
 | _,_=>False
noncomputable def KV {κ:Type}:List (κ×V)->List (κ×Value)->Prop:=eY fun (p:κ×V) (q:κ×Value)=>p.1=q.1/\RelV p.2 q.2
noncomputable def kV:Key->V
 | .inl i=>.int i
 | .inr x=>.str x
inductive HO where
 | lst (xs:List V)
 | tup (xs:List V)
 | dK (kvs:List (Key×V))|dT (kvs:List (List Key×V))
 | set (S:Int->Bool) (n:Nat)
 | ins (C dx:Addr) (fs:List (Str×V))
 | own (x:Addr)
 | xd (fs:List (Str×V))
 | met (f x:Addr)
 | rng (lo hi:Int)
 | frz (o:Obj) (u:HO)
 | tbl (ps:Array Value)
 | ext (φ:Heap->Prop)
noncomputable abbrev Hp:=Addr->Option HO
noncomputable def upd (H:Hp) (a:Addr) (o:HO):Hp:=fun b=>if b=a then some o else H b
theorem Af {H:Hp} {a:Addr} {o:HO}:upd H a o a=some o:=by unfold upd;rw [if_pos rfl]
theorem Ap {H:Hp} {a b:Addr} {o:HO} (h:b≠a):upd H a o b=H b:=by unfold upd;rw [if_neg h]
theorem Ho {H:Hp} {a:Addr} {o u:HO}:upd (upd H a o) a u=upd H a u:=by
 funext b;unfold upd;split <;> rfl
theorem bz1 {H:Hp} {a b:Addr} {o u:HO} (h:H a=some o) (h':H b=some u) (d:o≠u):a≠b:=by
 intro e;subst e;rw [h] at h';exact d (aN h')
theorem Ba {H:Hp} {a b:Addr} {o:HO} (h:H a=some o) (h':H b=none):a≠b:=by
 intro e;subst e;rw [h] at h';cases h'
section
variable (P:aI) (w:bq)
noncomputable def ObjOk (H:Hp) (h:Heap) (a:Addr):HO->Prop
 | .lst xs=>xs.length<=sizeLine /\ ∃ (its:List Value) (n:Nat),Vals xs its/\h.get? a=some { cls:=.type "list", data:=.seq its.toArray n }
 | .tup xs=>xs.length<=sizeLine /\ ∃ its:List Value,Vals xs its/\i8 h a its.toArray
 | .dK kvs=>kvs.length<=sizeLine/\(a==cf)=false /\ ∃ vs,KV kvs vs/\h.DictOf (A9 P w) a vs
 | .dT kvs=>kvs.length<=sizeLine/\(a==cf)=false /\ ∃ xs:List (List Key×Addr×Value),
   eY (fun (p:List Key×V) (q:List Key×Addr×Value)=>p.1=q.1/\H q.2.1=some (.tup (p.1.map kV))/\RelV p.2 q.2.2) kvs xs /\
   ∃ o es ep,h.get? a=some o/\o.ExactDict/\o.data=.dict es ep/\es.toList=xs.map (entryOfKey (iy (A9 P w)))/\(xs.map (·.1)).Nodup
 | .set S n=>h.SetOf (intKind P w) a S n
 | .ins C dx fs=>H dx=some (.own a)/\fs.length<=1000/\dx≠a/\h.get? a=some (bA C dx) /\
   ∃ mA,h.Ns1 dx mA/\(∀ f,RelO (fs.lookup f) (mA f))/\cT mA (fs.map (·.1))
 | .own _=>∃ o,h.get? a=some o
 | .xd fs=>∃ mA,h.Ns1 a mA /\ ∀ f,RelO (fs.lookup f) (mA f)
 | .rng lo hi=>∃ t u v,h.get? a=some { cls:=.type "range", data:=.fields #[.int lo t,.int hi u,.int 1 v] }
 | .frz o u=>h.get? a=some o/\ObjOk H h a u
 | .tbl ps=>h.get? a=some { cls:=.none,data:=.fields ps }
 | .met f x=>h.get? a=some (fL (.ref f) (.ref x))
 | .ext φ=>φ h/\(∃ o,h.get? a=some o) /\ ∀ h1 h2:Heap,φ h1->(∀ o,h1.get? a=some o->h2.get? a=some o)->φ h2
noncomputable def HOk (H:Hp) (h:Heap):Prop:=∀ a o,H a=some o->ObjOk P w H h a o
end
section
variable {P:aI} {w:bq} {H H':Hp} {h h':Heap} {a:Addr} {o:HO}
theorem ObjOk.lt (x:ObjOk P w H h a o):a<h.objs.size:=by
 cases o with
 | lst xs=>obtain⟨_,_,_,_,e⟩:=x;exact aJ e
 | tup xs=>obtain⟨_,_,_,p⟩:=x;exact p.lt
 | dK kvs=>obtain⟨_,_,_,_,o,_,_,e,_⟩:=x;exact aJ e
 | dT kvs=>obtain⟨_,_,_,_,o,_,_,e,_⟩:=x;exact aJ e
 | set S n=>obtain⟨o,_,_,_,e,_⟩:=x;exact aJ e
 | ins C dx fs=>obtain⟨_,_,_,e,_⟩:=x;exact aJ e
 | own y=>obtain⟨_,e⟩:=x;exact aJ e
 | xd fs=>obtain⟨_,⟨_,_,_,e,_⟩,_⟩:=x;exact aJ e
 | rng lo hi=>obtain⟨_,_,_,e⟩:=x;exact aJ e
 | frz ob u=>obtain⟨e,_⟩:=x;exact aJ e
 | tbl ps=>exact aJ (show h.get? a=some _ from x)
 | met f y=>exact aJ (show h.get? a=some _ from x)
 | ext φ=>obtain⟨_,⟨_,e⟩,_⟩:=x;exact aJ e
theorem Paired.mapP {α β:Type} {F G:α->β->Prop}:∀ {l₁:List α} {l₂:List β},eY F l₁ l₂->(∀ a b,F a b->G a b)->eY G l₁ l₂
 | _,_,.nil,_=>.nil
 | _,_,.cons r t,f=>.cons (f _ _ r) (Paired.mapP t f)
theorem ObjOk.stay (x:ObjOk P w H h a o) (k:∀ b u,(b=a\/H b=some (.own a))->h.get? b=some u->h'.get? b=some u)
  (ho:∀ b,H b=some (.own a)->H' b=some (.own a)) (ht:∀ b xs,H b=some (.tup xs)->H' b=some (.tup xs)):ObjOk P w H' h' a o:=by
 induction o with
 | lst xs=>obtain⟨z,its,n,r,e⟩:=x;exact⟨z,its,n,r,k _ _ (.inl rfl) e⟩
 | tup xs=>obtain⟨z,its,r,ob,e,c⟩:=x;exact⟨z,its,r,ob,k _ _ (.inl rfl) e,c⟩
 | dK kvs=>obtain⟨z,y,vs,r,ob,es,ep,e,c⟩:=x;exact⟨z,y,vs,r,ob,es,ep,k _ _ (.inl rfl) e,c⟩
 | dT kvs=>
  obtain⟨z,y,xs,r,ob,es,ep,e,c⟩:=x
  exact⟨z,y,xs,Paired.mapP r fun p q z=>⟨z.1,ht _ _ z.2.1,z.2.2⟩,ob,es,ep,k _ _ (.inl rfl) e,c⟩
 | set S n=>obtain⟨ob,es,ep,t,e,c⟩:=x;exact⟨ob,es,ep,t,k _ _ (.inl rfl) e,c⟩
 | ins C dx fs=>
  obtain⟨d,z,ne,e,mA,⟨od,es,ep,e2,c⟩,r⟩:=x
  exact⟨ho _ d,z,ne,k _ _ (.inl rfl) e,mA,⟨od,es,ep,k _ _ (.inr d) e2,c⟩,r⟩
 | own y=>obtain⟨ob,e⟩:=x;exact⟨ob,k _ _ (.inl rfl) e⟩
 | xd fs=>obtain⟨mA,⟨od,es,ep,e,c⟩,r⟩:=x;exact⟨mA,⟨od,es,ep,k _ _ (.inl rfl) e,c⟩,r⟩
 | rng lo hi=>obtain⟨t,u,v,e⟩:=x;exact⟨t,u,v,k _ _ (.inl rfl) e⟩
 | frz ob u ih=>obtain⟨e,q⟩:=x;exact⟨k _ _ (.inl rfl) e,ih q⟩
 | tbl ps=>
  have e:h.get? a=some { cls:=.none,data:=.fields ps }:=x
  show h'.get? a=some { cls:=.none,data:=.fields ps }
  exact k a _ (.inl rfl) e
 | met f y=>
  have e:h.get? a=some (fL (.ref f) (.ref y)):=x
  show h'.get? a=some (fL (.ref f) (.ref y))
  exact k a _ (.inl rfl) e
 | ext φ=>obtain⟨p,⟨o,e⟩,st⟩:=x;exact⟨st _ _ p fun o q=>k _ _ (.inl rfl) q,⟨o,k _ _ (.inl rfl) e⟩,st⟩
theorem HOk.lt (x:HOk P w H h) (e:H a=some o):a<h.objs.size:=(x a o e).lt
theorem HOk.fresh (x:HOk P w H h) (e:h.objs.size<=a):H a=none:=by
 cases q:H a with
 | none=>rfl
 | some u=>exact absurd (aD (x.lt q) e) (eh _)
theorem HOk.kept (x:HOk P w H h) (k:∀ b u,h.get? b=some u->h'.get? b=some u):HOk P w H h':=fun a o e=>
 (x a o e).stay (fun b u _ q=>k b u q) (fun _ q=>q) fun _ _ q=>q
theorem HOk.laid (x:HOk P w H h) (k:∀ b u,h.get? b=some u->h'.get? b=some u) (hp:h.objs.size<=a) (new:ObjOk P w (upd H a o) h' a o):HOk P w (upd H a o) h':=fun b u e=>by
 have hn:=x.fresh hp
 by_cases hb:b=a
 ·subst hb;rw [Af] at e;cases e;exact new
 ·rw [Ap hb] at e
  exact (x b u e).stay (fun c v _ q=>k c v q) (fun c q=>by rw [Ap (Ba q hn)];exact q) fun c xs q=>by rw [Ap (Ba q hn)];exact q
end
noncomputable def Rd (H:Hp) (a:Addr) (u:HO):Prop:=H a=some u \/ ∃ o,H a=some (.frz o u)
theorem Rd.ok {P:aI} {w:bq} {H:Hp} {h:Heap} {a:Addr} {u:HO} (r:Rd H a u) (x:HOk P w H h):ObjOk P w H h a u:=by
 rcases r with r|⟨o,r⟩
 ·exact x a u r
 ·obtain⟨_,q⟩:=x a _ r
  exact q
noncomputable def Mut:Option HO->Prop
 | some (.lst _)=>True
 | some (.dK _)=>True
 | some (.dT _)=>True
 | some (.set _ _)=>True
 | some (.ins _ _ _)=>True
 | some (.ext _)=>True
 | _=>False
section
variable {P:aI} {w:bq} {H:Hp} {h h':Heap} {x e:Addr} {o':HO}
theorem HOk.write (ok:HOk P w H h) (mu:Mut (H x)) (he:e=x\/H e=some (.own x)) (k:∀ b u,b≠e->h.get? b=some u->h'.get? b=some u) (heo:∃ u,h'.get? e=some u)
  (new:ObjOk P w (upd H x o') h' x o'):HOk P w (upd H x o') h':=fun b u q=>by
 have nown:∀ c y,H c=some (.own y)->c≠x:=fun c y r z=>by subst z;rw [r] at mu;exact mu
 have ntup:∀ c xs,H c=some (.tup xs)->c≠x:=fun c xs r z=>by subst z;rw [r] at mu;exact mu
 by_cases hb:b=x
 ·subst hb;rw [Af] at q;cases q;exact new
 ·rw [Ap hb] at q
  by_cases hbe:b=e
  ·have q':H b=some (.own x):=by
    rcases he with z|z
    ·exact absurd (hbe.trans z) hb
    ·rw [hbe];exact z
   rw [q] at q';cases q'
   obtain⟨v,hv⟩:=heo
   exact⟨v,by rw [hbe];exact hv⟩
  ·refine (ok b u q).stay (fun c v hc r=>k c v ?_ r) (fun c r=>by rw [Ap (nown c b r)];exact r) fun c xs r=>by rw [Ap (ntup c xs r)];exact r
   rcases hc with rfl|hc
   ·exact hbe
   ·rintro rfl
    rcases he with z|z
    ·exact nown c b hc z
    ·rw [hc] at z;cases z;exact hb rfl
end
structure Un (fs ex:List Addr) (H H':Hp) (h h':Heap):Prop where
 keep:∀ b o,h.get? b=some o->H b=none->b∉fs->b∉ex->h'.get? b=some o
 slot:∀ b o,h.get? b=some o->H b=none->b∈fs->b∉ex -> ∃ sl,h'.get? b=some { o with slots:=sl }
 free:∀ b o,h.get? b=some o->H b=none->b∉ex->H' b=none
 there:∀ b o,h.get? b=some o->b∉ex -> ∃ o',h'.get? b=some o'
 tups:∀ b xs,H b=some (.tup xs)->H' b=some (.tup xs)
 frzs:∀ b o u,H b=some (.frz o u)->H' b=some (.frz o u)
 tbls:∀ b ps,H b=some (.tbl ps) -> ∃ more,H' b=some (.tbl (ps++more))
section
variable {fs fs' ex ex':List Addr} {H H1 H2:Hp} {h h1 h2 h':Heap} {a x e:Addr} {o:HO}
theorem Un.any (u:Un fs ex H H1 h h1) {b:Addr} {ob:Obj} (q:h.get? b=some ob) (n:H b=none) (hx:b∉ex):∃ sl,h1.get? b=some { ob with slots:=sl }:=by
 by_cases hb:b∈fs
 ·exact u.slot b ob q n hb hx
 ·exact⟨ob.slots,u.keep b ob q n hb hx⟩
theorem Un.kept (k:∀ b u,h.get? b=some u->h'.get? b=some u):Un fs ex H H h h':=
 ⟨fun b ob q _ _ _=>k b ob q,fun b ob q _ _ _=>⟨ob.slots,k b ob q⟩,fun _ _ _ n _=>n,fun b ob q _=>⟨ob,k b ob q⟩,fun _ _ q=>q,fun _ _ _ q=>q,fun _ ps q=>⟨#[],by rw [q];simp⟩⟩
theorem Un.refl:Un fs ex H H h h:=Un.kept fun _ _ q=>q
theorem Un.laid (k:∀ b u,h.get? b=some u->h'.get? b=some u) (hp:h.objs.size<=a) (hn:H a=none):Un fs ex H (upd H a o) h h' where
 keep:=fun b u q _ _ _=>k b u q
 slot:=fun b u q _ _ _=>⟨u.slots,k b u q⟩
 free:=fun b u q n _=>by rw [Ap (bi (aD (aJ q) hp))];exact n
 there:=fun b u q _=>⟨u,k b u q⟩
 tups:=fun b xs q=>by rw [Ap (Ba q hn)];exact q
 frzs:=fun b u xs q=>by rw [Ap (Ba q hn)];exact q
 tbls:=fun b ps q=>⟨#[],by rw [Ap (Ba q hn),q];simp⟩
theorem Un.write (mu:Mut (H x)) (he:e=x\/H e=some (.own x)) (k:∀ b u,b≠e->h.get? b=some u->h'.get? b=some u) (heo:∃ u,h'.get? e=some u):Un fs ex H (upd H x o) h h':=by
 have hx:∀ b,H b=none->b≠x:=fun b n z=>by subst z;rw [n] at mu;exact mu
 have hb:∀ b,H b=none->b≠e:=fun b n z=>by
  subst z
  rcases he with r|r
  ·exact hx b n r
  ·rw [n] at r;cases r
 have hm:∀ b u,H b=some u -> ¬ Mut (some u)->b≠x:=fun b u q nm z=>by subst z;rw [q] at mu;exact nm mu
 refine⟨fun b u q n _ _=>k b u (hb b n) q,fun b u q n _ _=>⟨u.slots,k b u (hb b n) q⟩,fun b u q n _=>by rw [Ap (hx b n)];exact n,fun b u q _=>?_,
  fun b xs q=>by rw [Ap (hm b _ q fun z=>z)];exact q,fun b u xs q=>by rw [Ap (hm b _ q fun z=>z)];exact q,fun b ps q=>⟨#[],by rw [Ap (hm b _ q fun z=>z),q];simp⟩⟩
 by_cases hbe:b=e
 ·subst hbe;exact heo
 ·exact⟨u,k b u hbe q⟩
end
noncomputable def trk (h:Heap) (H:Hp):List Addr:=(c9 h.objs.size).filter fun a=>(H a).isSome
noncomputable def Mw (h:Heap) (H:Hp):Heap:=PySem.W.hideAll h (trk h H)
theorem Wa (h:Heap) (H:Hp):(Mw h H).objs.size=h.objs.size:=PySem.W.hideAll_size _ _
theorem Zv {h:Heap} {H:Hp} {b:Addr} {o:Obj} (e:h.get? b=some o) (n:H b=none):(Mw h H).get? b=some o:=
 PySem.W.hideAll_get _ e fun hm=>by
  have q:(H b).isSome=true:=(List.mem_filter.mp hm).2
  rw [n] at q;simp at q
theorem am6 {h:Heap} {H:Hp} {b:Addr} {o:Obj} (e:(Mw h H).get? b=some o):h.get? b=some o/\H b=none:=by
 have e':h.get? b=some o:=PySem.W.of_hideAll (trk h H) e
 refine⟨e',?_⟩
 cases q:H b with
 | none=>rfl
 | some x=>
  have hm:b∈trk h H:=List.mem_filter.mpr ⟨List.mem_range.mpr (aJ e'),by simp [q]⟩
  have z:(Mw h H).get? b=none:=PySem.W.hideAll_none (trk h H) hm
  rw [z] at e;cases e
structure Mod (K:aa) (mg:Str->Option Value) (base:Heap):Prop where
 kin:K.In base
 glob:base.Ns aw mg
 blt:∃ mb,base.Ns builtinsNs mb /\ ∀ x:Str,x ≠ "__name__" -> mb x=cE x
 nolimit:base.NoLimit
structure Cx where
 prog:aI
 w:bq
 K:aa
 mg:Str->Option Value
 base:Heap
 A:bt
 N:List Str
 s₀:ah
 H₀:Hp
 env:Env
 outer:List Env
 stack:List Env
 ex:List Addr
 fn:Str->Bool
 calm:Bool
 pn:List (Addr×Obj)
 xe:Value->ah->Prop
noncomputable def frs (l:List Env):List Addr:=l.filterMap (·.frame)
noncomputable abbrev Cx.fs (X:Cx):List Addr:=frs X.outer
noncomputable def Vis (sc:Scope) (x:Str):Prop:=sc.names.lookup x=some .local\/sc.names.lookup x=some .cell\/sc.names.lookup x=some .free
noncomputable def Loc (sc:Scope) (x:Str):Prop:=sc.names.lookup x=some .local\/sc.names.lookup x=some .cell
noncomputable def ci3 (env:Env) (h:Heap) (m:Str->Option Value) (x:Str) (u:Value):Prop:=
 (env.kindOf x=some .local/\m x=some u)\/((env.kindOf x=some .cell\/env.kindOf x=some .free) /\ ∃ c,env.cells.lookup x=some c/\h.IsCell c (some u))
noncomputable def Tq (_:aa) (_:Nat):Prop:=True
structure Cx.Ok (X:Cx):Prop where
 mod:Mod X.K X.mg X.base
 kind:X.env.scope.kind=.function
 glob:X.env.globals=aw
 blt:X.env.builtins=builtinsNs
 above:X.s₀.heap.objs.size<=X.env.locals
 inj:∀ x y c,X.env.cells.lookup x=some c->X.env.cells.lookup y=some c->x=y
 has:∀ x,(X.env.kindOf x=some .cell\/X.env.kindOf x=some .free) -> ∃ c,X.env.cells.lookup x=some c
 cab:∀ x c,X.fn x=true->X.env.cells.lookup x=some c->X.s₀.heap.objs.size<=c
 hd:X.calm=true->X.A.handled=none
 frames:X.A.frames=some X.stack
 stk:X.stack=X.outer\/(X.stack=X.env::X.outer/\X.env.frame=some X.env.locals)
 exf:∀ b∈X.ex,b≠X.env.locals /\ ∀ x c,X.env.cells.lookup x=some c->c≠b
 bs:∀ b o,X.base.get? b=some o->X.s₀.heap.get? b=some o/\X.H₀ b=none
 bsz:X.base.objs.size<=X.s₀.heap.objs.size
 noex:∀ b o,X.base.get? b=some o->b∉X.ex
 exfs:∀ b∈X.ex,b∉X.fs
 funs:X.s₀.heap.FunFrames X.base X.outer
 frf:∀ b∈X.fs,X.H₀ b=none
 tk:Tq X.K X.s₀.toks
structure Inv (X:Cx) (pins:List (Addr×Obj)) (σ:List (Option V)) (H:Hp) (s:ah):Prop where
 ok:X.Ok
 os:s.os=X.s₀.os/\X.s₀.toks<=s.toks
 bare:fP s.gens
 base:Un X.fs X.ex X.H₀ H X.s₀.heap s.heap
 loc:∃ m,s.heap.Ns X.env.locals m /\ ∀ (i:Nat) (x:Str) (v:V),X.N[i]? = some x->σ[i]? = some (some v)->Vis X.env.scope x -> ∃ u,RelV v u/\ci3 X.env s.heap m x u
 cell:∀ x c,X.env.cells.lookup x=some c -> ∃ v,s.heap.IsCell c v
 free:H X.env.locals=none
 freeC:∀ x c,X.env.cells.lookup x=some c->H c=none
 pin:∀ p∈X.pn++pins,s.heap.get? p.1=some p.2/\H p.1=none/\p.1≠X.env.locals/\p.1∉X.fs /\ ∀ v,p.2.data≠.cell v
 hok:HOk X.prog X.w H s.heap
 len:σ.length=X.N.length
section
variable {X:Cx} {pins:List (Addr×Obj)} {σ:List (Option V)} {H H':Hp} {s:ah} {h':Heap}
theorem Cx.Ok.nofr (ok:X.Ok) {b:Addr} {o:Obj} (e:X.base.get? b=some o):b∉X.fs:=fun hb=>by
 have:=(ok.funs.mem hb).1
 rw [e] at this;cases this
theorem Inv.bs (I:Inv X pins σ H s):∀ b o,X.base.get? b=some o->s.heap.get? b=some o/\H b=none:=fun b o e=>
 ⟨I.base.keep b o (I.ok.bs b o e).1 (I.ok.bs b o e).2 (I.ok.nofr e) (I.ok.noex b o e),I.base.free b o (I.ok.bs b o e).1 (I.ok.bs b o e).2 (I.ok.noex b o e)⟩
theorem Inv.bk (I:Inv X pins σ H s):∀ b o,X.base.get? b=some o->s.heap.get? b=some o:=fun b o e=>(I.bs b o e).1
theorem Inv.mod (I:Inv X pins σ H s):Mod X.K X.mg X.base:=I.ok.mod
theorem Inv.kIn (I:Inv X pins σ H s):X.K.In s.heap:=I.ok.mod.kin.keeps I.bk
theorem Inv.lt (I:Inv X pins σ H s):X.env.locals<s.heap.objs.size:=let ⟨_,hn,_⟩:=I.loc;hn.lt
theorem Inv.sz (I:Inv X pins σ H s):X.s₀.heap.objs.size<=s.heap.objs.size:=aM I.ok.above (iI I.lt)
theorem Inv.nofs (I:Inv X pins σ H s) {a:Addr} (h:s.heap.objs.size<=a):a∉X.fs:=fun hb=>by
 obtain⟨_,o,ho,_⟩:=I.ok.funs.mem hb
 exact absurd (aD (aJ ho) (aM I.sz h)) (eh _)
theorem Inv.cne (I:Inv X pins σ H s):∀ x c,X.env.cells.lookup x=some c->c≠X.env.locals:=fun x c e z=>by
 obtain⟨v,o,ho,hd⟩:=I.cell x c e
 obtain⟨m,⟨o',es,ep,ho',hd',_⟩,_⟩:=I.loc
 rw [z,ho'] at ho;cases ho;rw [hd'] at hd;cases hd
theorem Inv.funs (I:Inv X pins σ H s):s.heap.FunFrames X.base X.outer:=by
 have all:∀ (l:List Env),(∀ b∈frs l,b∈X.fs)->X.s₀.heap.FunFrames X.base l->s.heap.FunFrames X.base l:=by
  intro l
  induction l with
  | nil=>intro _ _;trivial
  | cons env r ih=>
   intro hs hl
   obtain⟨hk,⟨L,o,hf,hn,ho,hd⟩,hr⟩:=hl
   have hL:L∈X.fs:=hs L (by unfold frs;rw [eX,hf];exact d8)
   obtain⟨sl,e⟩:=I.base.slot L o ho (I.ok.frf L hL) hL fun z=>I.ok.exfs L z hL
   exact⟨hk,⟨L,_,hf,hn,e,hd⟩,ih (fun b hb=>hs b (by unfold frs;rw [eX,hf];exact aQ _ hb)) hr⟩
 exact all X.outer (fun _ hb=>hb) I.ok.funs
theorem Inv.stack (I:Inv X pins σ H s):s.heap.FunFrames X.base X.stack:=by
 rcases I.ok.stk with e|⟨e,hf⟩
 ·rw [e];exact I.funs
 ·rw [e]
  obtain⟨m,hn,_⟩:=I.loc
  refine .cons (by rw [I.ok.kind];decide) hf hn ?_ I.funs
  exact eQ (aM I.ok.bsz I.ok.above)
theorem Inv.stkSub (I:Inv X pins σ H s):∀ b∈frs X.stack,b∈X.env.locals::X.fs:=fun b hb=>by
 rcases I.ok.stk with e|⟨e,hf⟩
 ·rw [e] at hb;exact aQ _ hb
 ·rw [e] at hb
  unfold frs at hb
  rw [eX,hf] at hb
  exact hb
theorem Inv.stkFree (I:Inv X pins σ H s):∀ b∈frs X.stack,H b=none:=fun b hb=>by
 rcases List.mem_cons.mp (I.stkSub b hb) with e|hb
 ·rw [e];exact I.free
 ·obtain⟨_,o,ho,_⟩:=I.ok.funs.mem hb
  exact I.base.free b o ho (I.ok.frf b hb) fun z=>I.ok.exfs b z hb
theorem Inv.step {g':Array iP} {t':Nat} {d':Drawn} {ch:List Addr} (I:Inv X pins σ H s)
  (hch:∀ b∈ch,(b∈X.ex\/X.s₀.heap.objs.size<=b)/\b≠X.env.locals/\(∀ x c,X.env.cells.lookup x=some c->c≠b) /\ ∀ p∈X.pn++pins,p.1≠b)
  (keep:∀ b o,b≠X.env.locals->b∉X.fs->b∉ch->s.heap.get? b=some o->H b=none->h'.get? b=some o)
  (slot:∀ b o,b≠X.env.locals->b∈X.fs->b∉ch->s.heap.get? b=some o->H b=none -> ∃ sl,h'.get? b=some { o with slots:=sl }) (free:∀ b o,b∉ch->s.heap.get? b=some o->H b=none->H' b=none)
  (there:∀ b o,b∉ch->s.heap.get? b=some o -> ∃ o',h'.get? b=some o')
  (tups:∀ b xs,H b=some (.tup xs)->H' b=some (.tup xs)) (frzs:∀ b o u,H b=some (.frz o u)->H' b=some (.frz o u)) (tbls:∀ b ps,H b=some (.tbl ps) -> ∃ more,H' b=some (.tbl (ps++more)))
  (ns:∀ m,s.heap.Ns X.env.locals m->h'.Ns X.env.locals m) (hok:HOk X.prog X.w H' h') (hg:fP g') (ht:s.toks<=t':=by first|exact ae _|exact bh _ _|assumption|omega|(dsimp only;omega)) :
  Inv X pins σ H' { s with heap:=h',gens:=g',drawn:=d',toks:=t' }:=by
 have neL:∀ b o,X.s₀.heap.get? b=some o->b≠X.env.locals:=fun b o e=>bi (aD (aJ e) I.ok.above)
 have neC:∀ b o,X.s₀.heap.get? b=some o->b∉X.ex->b∉ch:=fun b o e hx hb=>by
  rcases (hch b hb).1 with z|z
  ·exact hx z
  ·exact absurd (aD (aJ e) z) (eh _)
 have cellK:∀ x c,X.env.cells.lookup x=some c -> ∀ v,s.heap.IsCell c v->h'.IsCell c v:=fun x c e v ⟨o,ho,hd⟩=>by
  have nch:c∉ch:=fun z=>(hch c z).2.2.1 x c e rfl
  by_cases hc:c∈X.fs
  ·obtain⟨sl,q⟩:=slot c o (I.cne x c e) hc nch ho (I.freeC x c e)
   exact⟨_,q,hd⟩
  ·exact⟨o,keep c o (I.cne x c e) hc nch ho (I.freeC x c e),hd⟩
 refine⟨I.ok,⟨I.os.1,aM I.os.2 ht⟩,hg,⟨fun b o e n hb hx=>?_,fun b o e n hb hx=>?_,fun b o e n hx=>?_,fun b o e hx=>?_,fun b xs e=>tups b xs (I.base.tups b xs e),fun b o xs e=>frzs b o xs (I.base.frzs b o xs e),fun b ps e=>?_⟩,?_,fun x c e=>?_,?_,fun x c e=>?_,fun p hp=>?_,hok,I.len⟩
 ·exact keep b o (neL b o e) hb (neC b o e hx) (I.base.keep b o e n hb hx) (I.base.free b o e n hx)
 ·obtain⟨sl,e1⟩:=I.base.slot b o e n hb hx
  obtain⟨sl',e2⟩:=slot b _ (neL b o e) hb (neC b o e hx) e1 (I.base.free b o e n hx)
  exact⟨sl',e2⟩
 ·obtain⟨o',e1⟩:=I.base.there b o e hx
  exact free b o' (neC b o e hx) e1 (I.base.free b o e n hx)
 ·obtain⟨o',e1⟩:=I.base.there b o e hx
  exact there b o' (neC b o e hx) e1
 ·obtain⟨m1,e1⟩:=I.base.tbls b ps e
  obtain⟨m2,e2⟩:=tbls b _ e1
  exact⟨m1++m2,by rw [e2,Array.append_assoc]⟩
 ·obtain⟨m,hn,hl⟩:=I.loc
  refine⟨m,ns m hn,fun i x v e1 e2 e3=>?_⟩
  obtain⟨u,r,l⟩:=hl i x v e1 e2 e3
  refine⟨u,r,?_⟩
  rcases l with l|⟨k,c,e,z⟩
  ·exact .inl l
  ·exact .inr ⟨k,c,e,cellK x c e _ z⟩
 ·obtain⟨v,z⟩:=I.cell x c e
  exact⟨v,cellK x c e v z⟩
 ·obtain⟨m,⟨o,_,_,ho,_⟩,_⟩:=I.loc
  exact free _ o (fun z=>(hch _ z).2.1 rfl) ho I.free
 ·obtain⟨v,o,ho,hd⟩:=I.cell x c e
  exact free c o (fun z=>(hch c z).2.2.1 x c e rfl) ho (I.freeC x c e)
 ·obtain⟨e,n,ne,nf,d⟩:=I.pin p hp
  have nch:p.1∉ch:=fun z=>(hch p.1 z).2.2.2 p hp rfl
  exact⟨keep p.1 p.2 ne nf nch e n,free p.1 p.2 nch e n,ne,nf,d⟩
theorem Inv.un {t':Nat} (I:Inv X pins σ H s) (u:Un X.fs [] H H' s.heap h') (hok:HOk X.prog X.w H' h') (ht:s.toks<=t':=by first|exact ae _|exact bh _ _|assumption|omega|(dsimp only;omega)):Inv X pins σ H' { s with heap:=h',toks:=t' }:=by
 obtain⟨m,⟨o,es,ep,ho,r⟩,_⟩:=id I.loc
 obtain⟨sl,hL⟩:=u.any ho I.free (by simp)
 exact I.step (g':=s.gens) (d':=s.drawn) (ch:=[]) (fun _ z=>nomatch z) (fun b o _ hb _ e n=>u.keep b o e n hb (by simp)) (fun b o _ hb _ e n=>u.slot b o e n hb (by simp)) (fun b o _ e n=>u.free b o e n (by simp)) (fun b o _ e=>u.there b o e (by simp)) u.tups u.frzs u.tbls (fun m' hm=>by
  obtain⟨o',es',ep',ho',r'⟩:=hm
  rw [ho] at ho';cases ho'
  exact⟨_,es',ep',hL,r'⟩) hok I.bare
theorem Inv.call {g':Array iP} {t':Nat} {d':Drawn} {ch:List Addr} (I:Inv X pins σ H s) (u:Un (frs X.stack) ch H H' s.heap h') (hok:HOk X.prog X.w H' h') (hg:fP g')
  (hch:∀ b∈ch,(b∈X.ex\/X.s₀.heap.objs.size<=b)/\b≠X.env.locals/\(∀ x c,X.env.cells.lookup x=some c->c≠b) /\ ∀ p∈X.pn++pins,p.1≠b) (ht:s.toks<=t':=by first|exact ae _|exact bh _ _|assumption|omega|(dsimp only;omega)) :
  Inv X pins σ H' { s with heap:=h',gens:=g',drawn:=d',toks:=t' }:=by
 obtain⟨m,⟨o,es,ep,ho,r⟩,_⟩:=id I.loc
 obtain⟨sl,hL⟩:=u.any ho I.free fun z=>(hch _ z).2.1 rfl
 exact I.step (ch:=ch) hch (fun b o hL hb hc e n=>u.keep b o e n (fun z=>(List.mem_cons.mp (I.stkSub b z)).elim hL hb) hc) (fun b o _ _ hc e n=>u.any e n hc) (fun b o hc e n=>u.free b o e n hc) (fun b o hc e=>u.there b o e hc) u.tups u.frzs u.tbls (fun m' hm=>by
  obtain⟨o',es',ep',ho',r'⟩:=hm
  rw [ho] at ho';cases ho'
  exact⟨_,es',ep',hL,r'⟩) hok hg
theorem Inv.turned {t':Nat} {it:Addr} (I:Inv X pins σ H s) (k:∀ b o,b≠it->s.heap.get? b=some o->h'.get? b=some o) (hn:H it=none) (hL:it≠X.env.locals)
  (h1:it∈X.ex\/X.s₀.heap.objs.size<=it) (h2:∀ x c,X.env.cells.lookup x=some c->c≠it) (h3:∀ p∈X.pn++pins,p.1≠it) (ht:s.toks<=t':=by first|exact ae _|exact bh _ _|assumption|omega|(dsimp only;omega)):Inv X pins σ H { s with heap:=h',toks:=t' }:=by
 have nit:∀ b u,H b=some u->b≠it:=fun b u e z=>by rw [z,hn] at e;cases e
 refine I.step (g':=s.gens) (d':=s.drawn) (ch:=[it]) (fun b hb=>?_) (fun b o _ _ hc e _=>k b o (fun z=>hc (by simp [z])) e) (fun b o _ _ hc e _=>⟨o.slots,k b o (fun z=>hc (by simp [z])) e⟩) (fun _ _ _ _ n=>n)
  (fun b o hc e=>⟨o,k b o (fun z=>hc (by simp [z])) e⟩) (fun _ _ e=>e) (fun _ _ _ e=>e) (fun b ps e=>⟨#[],by rw [e];simp⟩) (fun m hm=>?_) (fun b u e=>?_) I.bare
 ·have e:b=it:=by simpa using hb
  subst e
  exact⟨h1,hL,h2,h3⟩
 ·obtain⟨o,es,ep,ho,r⟩:=hm
  exact⟨o,es,ep,k _ o (dj hL) ho,r⟩
 ·refine (I.hok b u e).stay (fun c v hc q=>k c v ?_ q) (fun _ q=>q) fun _ _ q=>q
  rcases hc with z|z
  ·rw [z];exact nit b u e
  ·exact nit c _ z
theorem Inv.tok (I:Inv X pins σ H s) (t:Nat) (ht:s.toks<=t:=by first|exact ae _|exact bh _ _|assumption|omega|(dsimp only;omega)):Inv X pins σ H { s with toks:=t }:=I.un (h':=s.heap) (t':=t) Un.refl I.hok ht
theorem Inv.kept {t':Nat} (I:Inv X pins σ H s) (k:∀ b u,s.heap.get? b=some u->h'.get? b=some u) (ht:s.toks<=t':=by first|exact ae _|exact bh _ _|assumption|omega|(dsimp only;omega)):Inv X pins σ H { s with heap:=h',toks:=t' }:=I.un (Un.kept k) (I.hok.kept k) ht
theorem Inv.laid {a:Addr} {o:HO} {t':Nat} (I:Inv X pins σ H s) (k:∀ b u,s.heap.get? b=some u->h'.get? b=some u) (hp:s.heap.objs.size<=a) (new:ObjOk X.prog X.w (upd H a o) h' a o) (ht:s.toks<=t':=by first|exact ae _|exact bh _ _|assumption|omega|(dsimp only;omega)) :
  Inv X pins σ (upd H a o) { s with heap:=h',toks:=t' }:=I.un (Un.laid k hp (I.hok.fresh hp)) (I.hok.laid k hp new) ht
theorem Inv.write {x e:Addr} {o:HO} {t':Nat} (I:Inv X pins σ H s) (mu:Mut (H x)) (he:e=x\/H e=some (.own x)) (k:∀ b u,b≠e->s.heap.get? b=some u->h'.get? b=some u) (heo:∃ u,h'.get? e=some u)
  (new:ObjOk X.prog X.w (upd H x o) h' x o) (ht:s.toks<=t':=by first|exact ae _|exact bh _ _|assumption|omega|(dsimp only;omega)):Inv X pins σ (upd H x o) { s with heap:=h',toks:=t' }:=I.un (Un.write mu he k heo) (I.hok.write mu he k heo new) ht
theorem Inv.pins_of {pins':List (Addr×Obj)} (I:Inv X pins σ H s) (h:∀ p∈pins',s.heap.get? p.1=some p.2/\H p.1=none/\p.1≠X.env.locals/\p.1∉X.fs /\ ∀ v,p.2.data≠.cell v):Inv X pins' σ H s:=
 ⟨I.ok,I.os,I.bare,I.base,I.loc,I.cell,I.free,I.freeC,fun p hp=>(List.mem_append.mp hp).elim (fun z=>I.pin p (dH _ z)) (h p),I.hok,I.len⟩
theorem Iv {N:List Str} (hN:N.Nodup) {i j:Nat} {x:Str} (a:N[i]? = some x) (b:N[j]? = some x):i=j:=by
 obtain⟨h1,e1⟩:=List.getElem?_eq_some_iff.mp a
 obtain⟨h2,e2⟩:=List.getElem?_eq_some_iff.mp b
 exact (List.getElem_inj hN).mp (e1.trans e2.symm)
theorem Ww {M:Model} {A:bt} {E:Value->ah->Prop} {i:Nat} {x:Str} {v:V} {u:Value} {Q:Unit->ah->Prop} (I:Inv X pins σ H s) (hN:X.N.Nodup) (hi:X.N[i]? = some x) (hx:Loc X.env.scope x) (r:RelV v u)
  (h:∀ s',Inv X pins (σ.set i (some v)) H s'->(∃ a,fq a s.heap s'.heap/\(a=X.env.locals\/X.env.cells.lookup x=some a))->Q () s') (hf:X.fn x=true\/X.env.scope.names.lookup x=some .local:=by first|exact .inl rfl|exact .inr rfl|assumption):aS M A (storeName X.env x u) Q E s:=by
 obtain⟨m,hn,hl⟩:=id I.loc
 have hcls:(X.env.scope.kind==.class||(X.env.scope.kind==.module&&X.env.locals != X.env.globals))=false:=by rw [I.ok.kind];rfl
 have hiσ:i<σ.length:=by rw [I.len];exact (List.getElem?_eq_some_iff.mp hi).1
 have cne:=I.cne
 have tracked:∀ {a:Addr} {h':Heap},(∃ o,s.heap.get? a=some o/\H a=none)->fq a s.heap h'->HOk X.prog X.w H h':=fun {a h'} ha hs b ob e=>by
  obtain⟨_,_,hfree⟩:=ha
  refine (I.hok b ob e).stay (fun c w' hc q=>(hs.2 c ?_).trans q) (fun _ q=>q) fun _ _ q=>q
  rintro rfl
  rcases hc with rfl|hc
  ·rw [hfree] at e;cases e
  ·rw [hfree] at hc;cases hc
 rcases hx with hk|hk
 ·refine wpAny_storeName_local hk hn (fun h' hn' hs=>?_) hcls
  obtain⟨oL,_,_,hoL,_⟩:=id hn
  refine h _ ⟨I.ok,⟨I.os.1,aM I.os.2 (by first|exact ae _|exact bh _ _)⟩,I.bare,⟨fun b o e n hb hx=>?_,fun b o e n hb hx=>?_,I.base.free,fun b o e hx=>?_,I.base.tups,I.base.frzs,I.base.tbls⟩,⟨_,hn',fun j y v' e1 e2 e3=>?_⟩,fun y c e=>?_,I.free,I.freeC,fun p hp=>?_,tracked ⟨oL,hoL,I.free⟩ hs,by simpa using I.len⟩ ⟨_,hs,.inl rfl⟩
  ·exact (hs.2 b (bi (aD (aJ e) I.ok.above))).trans (I.base.keep b o e n hb hx)
  ·obtain⟨sl,e1⟩:=I.base.slot b o e n hb hx
   exact⟨sl,(hs.2 b (bi (aD (aJ e) I.ok.above))).trans e1⟩
  ·obtain⟨o',e1⟩:=I.base.there b o e hx
   exact⟨o',(hs.2 b (bi (aD (aJ e) I.ok.above))).trans e1⟩
  ·by_cases hj:j=i
   ·subst hj
    rw [hi] at e1;cases e1
    rw [dg hiσ] at e2
    cases e2
    exact⟨u,r,.inl ⟨hk,by simp⟩⟩
   ·rw [dG (dj hj)] at e2
    obtain⟨u',r',q⟩:=hl j y v' e1 e2 e3
    refine⟨u',r',?_⟩
    rcases q with ⟨k,e⟩|⟨k,c,e,z⟩
    ·refine .inl ⟨k,?_⟩
     have:y≠x:=fun e=>hj (Iv hN e1 (e▸hi))
     simp [this,e]
    ·exact .inr ⟨k,c,e,z.sameBut hs (cne y c e)⟩
  ·obtain⟨w',z⟩:=I.cell y c e
   exact⟨w',z.sameBut hs (cne y c e)⟩
  ·obtain⟨e,n,ne,nf,d⟩:=I.pin p hp
   exact⟨(hs.2 p.1 ne).trans e,n,ne,nf,d⟩
 ·have hfn:X.fn x=true:=by
   rcases hf with z|z
   ·exact z
   ·rw [z] at hk;cases hk
  obtain⟨c,hc⟩:=I.ok.has x (.inl hk)
  obtain⟨w',z⟩:=I.cell x c hc
  refine wpAny_storeName_cell I.ok.kind hk hc z (fun h' hc' hs=>?_)
  obtain⟨oc,hoc,hocd⟩:=id z
  refine h { s with heap:=h' } ⟨I.ok,I.os,I.bare,⟨fun b o e n hb hx=>?_,fun b o e n hb hx=>?_,I.base.free,fun b o e hx=>?_,I.base.tups,I.base.frzs,I.base.tbls⟩,⟨m,hn.sameBut hs (dj (cne x c hc)),fun j y v' e1 e2 e3=>?_⟩,fun y c' e=>?_,I.free,I.freeC,fun p hp=>?_,tracked ⟨oc,hoc,I.freeC x c hc⟩ hs,by simpa using I.len⟩ ⟨c,hs,.inr hc⟩
  ·exact (hs.2 b (bi (aD (aJ e) (I.ok.cab x c hfn hc)))).trans (I.base.keep b o e n hb hx)
  ·obtain⟨sl,e1⟩:=I.base.slot b o e n hb hx
   exact⟨sl,(hs.2 b (bi (aD (aJ e) (I.ok.cab x c hfn hc)))).trans e1⟩
  ·obtain⟨o',e1⟩:=I.base.there b o e hx
   exact⟨o',(hs.2 b (bi (aD (aJ e) (I.ok.cab x c hfn hc)))).trans e1⟩
  ·by_cases hj:j=i
   ·subst hj
    rw [hi] at e1;cases e1
    rw [dg hiσ] at e2
    cases e2
    exact⟨u,r,.inr ⟨.inl hk,c,hc,hc'⟩⟩
   ·rw [dG (dj hj)] at e2
    obtain⟨u',r',q⟩:=hl j y v' e1 e2 e3
    refine⟨u',r',?_⟩
    rcases q with q|⟨k,c',e,z'⟩
    ·exact .inl q
    ·refine .inr ⟨k,c',e,z'.sameBut hs ?_⟩
     rintro rfl
     exact hj (Iv hN e1 (I.ok.inj _ _ _ e hc▸hi))
  ·by_cases hcc:c'=c
   ·subst hcc;exact⟨_,hc'⟩
   ·obtain⟨w2,z2⟩:=I.cell y c' e
    exact⟨w2,z2.sameBut hs hcc⟩
  ·obtain⟨e,n,ne,nf,d⟩:=I.pin p hp
   refine⟨(hs.2 p.1 ?_).trans e,n,ne,nf,d⟩
   intro q
   rw [q,hoc] at e
   have q':oc=p.2:=aN e
   exact d w' (by rw [<- q'];exact hocd)
theorem Fy {M:Model} {A:bt} {E:Value->ah->Prop} {i:Nat} {x:Str} {v:V} {u:Value} {Q:Unit->ah->Prop} (I:Inv X pins σ H s) (hN:X.N.Nodup) (hi:X.N[i]? = some x) (hx:Loc X.env.scope x) (r:RelV v u)
  (h:∀ s',Inv X pins (σ.set i (some v)) H s'->Q () s') (hf:X.fn x=true\/X.env.scope.names.lookup x=some .local:=by first|exact .inl rfl|exact .inr rfl|assumption):aS M A (storeName X.env x u) Q E s:=
 Ww I hN hi hx r (fun s' I' _=>h s' I') hf
theorem Inv.call' {s':ah} {ch:List Addr} (I:Inv X pins σ H s) (ho:s'.os=s.os/\s.toks<=s'.toks) (u:Un (frs X.stack) ch H H' s.heap s'.heap) (hok:HOk X.prog X.w H' s'.heap) (hg:fP s'.gens)
  (hch:∀ b∈ch,(b∈X.ex\/X.s₀.heap.objs.size<=b)/\b≠X.env.locals/\(∀ x c,X.env.cells.lookup x=some c->c≠b) /\ ∀ p∈X.pn++pins,p.1≠b):Inv X pins σ H' s':=by
 obtain⟨h',g',d',t',o'⟩:=s'
 have e:o'=s.os:=ho.1
 subst e
 exact I.call (g':=g') (t':=t') (d':=d') u hok hg hch ho.2
end
noncomputable abbrev XK:=Value->Option Addr->Hp->Prop
noncomputable abbrev St:=List (Option V)
noncomputable abbrev VK:=V->Hp->Prop
noncomputable abbrev TE:=St->Hp->VK->Prop
noncomputable abbrev TT:=St->Hp->(Bool->Hp->Prop)->Prop
noncomputable abbrev TA:=St->Hp->(List V->Hp->Prop)->Prop
structure Kr where
 nx:St->Hp->Prop
 rt:VK
 bk:St->Hp->Prop:=fun _ _=>False
 ct:St->Hp->Prop:=fun _ _=>False
noncomputable abbrev TS:=Kr->St->Hp->Prop
noncomputable def EP (X:Cx) (pins:List (Addr×Obj)) (σ:St) (Q:VK) (u:Value) (s':ah):Prop:=∃ v H',Inv X pins σ H' s'/\RelV v u/\Q v H'
noncomputable def TP (X:Cx) (pins:List (Addr×Obj)) (σ:St) (Q:Bool->Hp->Prop) (b:Bool) (s':ah):Prop:=∃ H',Inv X pins σ H' s'/\Q b H'
noncomputable def AP (X:Cx) (pins:List (Addr×Obj)) (σ:St) (Q:List V->Hp->Prop) (us:List Value) (s':ah):Prop:=∃ vs H',Inv X pins σ H' s'/\Vals vs us/\Q vs H'
noncomputable def SP (X:Cx) (pins:List (Addr×Obj)) (D:Kr) (f:Flow) (s':ah):Prop:=
 match f with
 | .next=>∃ σ' H',Inv X pins σ' H' s'/\D.nx σ' H'
 | .brk=>∃ σ' H',Inv X pins σ' H' s'/\D.bk σ' H'
 | .cont=>∃ σ' H',Inv X pins σ' H' s'/\D.ct σ' H'
 | .ret u=>∃ v σ' H',Inv X pins σ' H' s'/\RelV v u/\D.rt v H'
noncomputable def PE (X:Cx) (e:Expr) (t:TE):Prop:=
 ∀ (pins:List (Addr×Obj)) (s:ah) (σ:St) (H:Hp) (Q:VK),Inv X pins σ H s->t σ H Q->aS (model X.prog X.w) X.A (eval e X.env) (EP X pins σ Q) X.xe s
noncomputable def PT (X:Cx) (e:Expr) (t:TT):Prop:=
 ∀ (pins:List (Addr×Obj)) (s:ah) (σ:St) (H:Hp) (Q:Bool->Hp->Prop),Inv X pins σ H s->t σ H Q->aS (model X.prog X.w) X.A (isTrue e X.env (eval e X.env)) (TP X pins σ Q) X.xe s
noncomputable def PW (X:Cx) (e:Expr) (t:TT):Prop:=
 ∀ (whole:Sem Value) (pins:List (Addr×Obj)) (s:ah) (σ:St) (H:Hp) (Q:Bool->Hp->Prop),Inv X pins σ H s->t σ H Q->aS (model X.prog X.w) X.A (isTrue e X.env whole) (TP X pins σ Q) X.xe s
theorem PW.pt {X:Cx} {e:Expr} {t:TT} (h:PW X e t):PT X e t:=h _
noncomputable def PA (X:Cx) (es:List Expr) (t:TA):Prop:=
 ∀ (pos:Pos) (pins:List (Addr×Obj)) (s:ah) (σ:St) (H:Hp) (Q:List V->Hp->Prop),Inv X pins σ H s->t σ H Q->aS (model X.prog X.w) X.A (spliced (gL pos (cm es X.env))) (AP X pins σ Q) X.xe s
noncomputable def PS (X:Cx) (st:Stmt) (t:TS):Prop:=
 ∀ (pins:List (Addr×Obj)) (s:ah) (σ:St) (H:Hp) (D:Kr),Inv X pins σ H s->t D σ H->aS (model X.prog X.w) X.A (exec st X.env) (SP X pins D) X.xe s
noncomputable def PSs (X:Cx) (st:List Stmt) (t:TS):Prop:=
 ∀ (pins:List (Addr×Obj)) (s:ah) (σ:St) (H:Hp) (D:Kr),Inv X pins σ H s->t D σ H->aS (model X.prog X.w) X.A (execs st X.env) (SP X pins D) X.xe s
theorem thn {α:Type} {t:Sem α} {Q Q':α->ah->Prop} {M:Model} {A:bt} {E:Value->ah->Prop} {s:ah} (h:aS M A t Q E s) (hQ:∀ a s,Q a s->Q' a s):aS M A t Q' E s:=cg h hQ fun _ _ x=>x
section
variable {X:Cx}
noncomputable def cl5 (i:Nat):TE:=fun σ H Q=>∃ v,σ[i]? = some (some v)/\Q v H
noncomputable def tC (v:V):TE:=fun _ H Q=>Q v H
theorem bc1 {i:Nat} {x:Str} {pos:Pos} (hN:X.N[i]? = some x) (hv:Vis X.env.scope x) (hd:(x==("__debug__" : Str))=false:=by decide) (hcd:(x==("__classdict__" : Str))=false:=by decide):PE X (.Name x pos) (cl5 i):=by
 intro pins s σ H Q I h
 obtain⟨v,e,h⟩:=h
 obtain⟨m,hn,hl⟩:=I.loc
 obtain⟨u,r,l⟩:=hl i x v hN e hv
 have fin:EP X pins σ Q u s:=⟨v,H,I,r,h⟩
 rcases l with ⟨hk,hm⟩|⟨hk,c,hc,hcell⟩
 ·exact wpAny_Name (wpAny_loadName_local I.ok.kind hk hn hm fin) hd
 ·rcases hk with hk|hk
  ·exact wpAny_Name (wpAny_loadName_cell I.ok.kind hk hc hcell fin) hd
  ·exact wpAny_Name (wpAny_loadName_free I.ok.kind hk hc hcell fin hcd) hd
theorem bb5 {i j pos}:PE X (.Constant (.int i) j pos) (tC (.int i)):=fun _ _ _ H _ I h=>wpAny_Constant_int ⟨.int i,H,I.tok _,⟨_,rfl⟩,h⟩
theorem b24 {b j pos}:PE X (.Constant (.bool b) j pos) (tC (.bl b)):=fun _ _ _ H _ I h=>Constant_bool ⟨.bl b,H,I,rfl,h⟩
theorem bb7 {j pos}:PE X (.Constant .none j pos) (tC .non):=fun _ _ _ H _ I h=>Constant_none ⟨.non,H,I,rfl,h⟩
theorem bb9 {x j pos}:PE X (.Constant (.str x) j pos) (tC (.str x)):=fun _ _ _ H _ I h=>Calls.Constant_str ⟨.str x,H,I.tok _,⟨_,rfl⟩,h⟩
noncomputable def Gl (X:Cx) (x:Str):Prop:=X.env.kindOf x=some .globalImplicit
theorem C2 {E:Value->ah->Prop} {pins:List (Addr×Obj)} {s:ah} {σ:St} {H:Hp} {x:Str} {u:Value} {pos:Pos} {Q:Value->ah->Prop} (I:Inv X pins σ H s) (hg:Gl X x) (hm:X.mg x=some u) (h:Q u s)
  (hd:(x==("__debug__" : Str))=false:=by decide):aS (model X.prog X.w) X.A (eval (.Name x pos) X.env) Q E s:=
 fm I.ok.kind hg (Calls.loadGlobal_global (by rw [I.ok.glob];exact I.mod.glob.keeps I.bk) hm h) hd
theorem M1 {E:Value->ah->Prop} {pins:List (Addr×Obj)} {s:ah} {σ:St} {H:Hp} {x:Str} {u:Value} {pos:Pos} {Q:Value->ah->Prop} (I:Inv X pins σ H s) (hg:Gl X x) (hm:X.mg x=none) (hv:cE x=some u) (h:Q u s)
  (hn:x ≠ "__name__" := by decide) (hd:(x==("__debug__" : Str))=false:=by decide):aS (model X.prog X.w) X.A (eval (.Name x pos) X.env) Q E s:=by
 obtain⟨mb,h1,h2⟩:=I.mod.blt
 exact fm I.ok.kind hg (Calls.loadGlobal_builtin (by rw [I.ok.glob];exact I.mod.glob.keeps I.bk) hm (by rw [I.ok.blt];exact h1.keeps I.bk) ((h2 x hn).trans hv) h) hd
theorem Fv {x:Str} {v:V} {u:Value} {pos:Pos} (hg:Gl X x) (hm:X.mg x=some u) (r:RelV v u) (hd:(x==("__debug__" : Str))=false:=by decide):PE X (.Name x pos) (tC v):=
 fun _ _ _ H _ I h=>C2 I hg hm ⟨v,H,I,r,h⟩ hd
theorem an8 {x:Str} {v:V} {u:Value} {pos:Pos} (hg:Gl X x) (hm:X.mg x=none) (hv:cE x=some u) (r:RelV v u) (hn:x ≠ "__name__" := by decide) (hd:(x==("__debug__" : Str))=false:=by decide):PE X (.Name x pos) (tC v):=
 fun _ _ _ H _ I h=>M1 I hg hm hv ⟨v,H,I,r,h⟩ hn hd
variable {a b:Expr} {ta tb:TE} {pos:Pos}
variable {tA tB':TT} {rest:List Expr}
noncomputable def ck6 (t u:TT):TT:=fun σ H Q=>t σ H fun c H1=>if c=true then u σ H1 Q else Q false H1
noncomputable def tOr (t u:TT):TT:=fun σ H Q=>t σ H fun c H1=>if c=true then Q true H1 else u σ H1 Q
noncomputable def cl1 (t:TT):TT:=fun σ H Q=>t σ H fun c H1=>Q (!c) H1
theorem ao7 (ha:PT X a tA):PW X (.BoolOp .And [a] pos) tA:=by
 intro wh pins s σ H Q I h
 refine isTrue_and (thn (ha pins s σ H Q I h) fun c s1 e=>?_)
 cases c with
 | true=>exact isTrue_and_nil e
 | false=>exact e
theorem bc9 (ha:PT X a tA):PW X (.BoolOp .Or [a] pos) tA:=by
 intro wh pins s σ H Q I h
 refine isTrue_or (thn (ha pins s σ H Q I h) fun c s1 e=>?_)
 cases c with
 | false=>exact isTrue_or_nil e
 | true=>exact e
theorem bc8 (ha:PT X a tA) (hb:PW X (.BoolOp .And (b::rest) pos) tB'):PW X (.BoolOp .And (a::b::rest) pos) (ck6 tA tB'):=by
 intro wh pins s σ H Q I h
 refine isTrue_and (thn (ha pins s σ H _ I h) fun c s1 ⟨H1,I1,q1⟩=>?_)
 cases c with
 | true=>exact hb wh pins s1 σ H1 Q I1 q1
 | false=>exact⟨H1,I1,q1⟩
theorem b31 (ha:PT X a tA) (hb:PW X (.BoolOp .Or (b::rest) pos) tB'):PW X (.BoolOp .Or (a::b::rest) pos) (tOr tA tB'):=by
 intro wh pins s σ H Q I h
 refine isTrue_or (thn (ha pins s σ H _ I h) fun c s1 ⟨H1,I1,q1⟩=>?_)
 cases c with
 | true=>exact⟨H1,I1,q1⟩
 | false=>exact hb wh pins s1 σ H1 Q I1 q1
theorem bc7 (ha:PT X a tA):PT X (.UnaryOp .Not a pos) (cl1 tA):=by
 intro pins s σ H Q I h
 exact isTrue_not (ha pins s σ H (fun c H1=>Q (!c) H1) I h)
theorem bb8 {op} {t:TE} (h:PE X a t):PE X (.BoolOp op [a] pos) t:=fun pins s σ H Q I hw=>BoolOp_one (h pins s σ H Q I hw)
noncomputable def tIf (t:TT) (ta tb:TE):TE:=fun σ H Q=>t σ H fun c H1=>if c=true then ta σ H1 Q else tb σ H1 Q
theorem ac6 {c:Expr} (hc:PT X c tA) (ha:PE X a ta) (hb:PE X b tb):PE X (.IfExp c a b pos) (tIf tA ta tb):=by
 intro pins s σ H Q I h
 refine wpAny_IfExp (thn (hc pins s σ H _ I h) fun d s1 ⟨H1,I1,q1⟩=>?_)
 cases d with
 | true=>exact ha pins s1 σ H1 Q I1 q1
 | false=>exact hb pins s1 σ H1 Q I1 q1
end
noncomputable def SqL (K:aa) (H:Hp) (a:Addr) (xs:List V):Prop:=
 Rd H a (.lst xs) \/
  ∃ (o:Obj) (its:Array Value) (n:Nat),K.lookup a=some o/\o.cls=.type "list" /\ o.dict=none/\o.data=.seq its n/\its.size<=sizeLine/\xs.all V.pl=true/\Vals xs its.toList
noncomputable def SqT (K:aa) (H:Hp) (a:Addr) (xs:List V):Prop:=
 Rd H a (.tup xs) \/
  ∃ (o:Obj) (its:Array Value) (n:Nat),K.lookup a=some o/\o.cls=.type "tuple" /\ o.data=.seq its n/\its.size<=sizeLine/\xs.all V.pl=true/\Vals xs its.toList
noncomputable def ci5:Value->Option V
 | .none=>some .non
 | .bool b=>some (.bl b)
 | .int i _=>some (.int i)
 | .str x _=>some (.str x)
 | .bytes b _=>some (.byt b)
 | .ref a=>some (.ref a)
 | .type n=>some (.ty n)
 | _=>none
theorem RelV.abs {x:V} {u:Value} (r:RelV x u) (p:x.pl=true):ci5 u=some x:=by
 cases x with
 | non=>cases r;rfl
 | bl _=>cases r;rfl
 | int _=>obtain⟨t,rfl⟩:=r;rfl
 | str _=>obtain⟨t,rfl⟩:=r;rfl
 | byt _=>obtain⟨t,rfl⟩:=r;rfl
 | stk _ _ _=>cases p
 | ref _=>cases r;rfl
 | ty _=>cases r;rfl
theorem RelV.inj {x y:V} {u:Value} (r:RelV x u) (q:RelV y u) (p:x.pl=true) (p':y.pl=true):x=y:=aN ((r.abs p).symm.trans (q.abs p'))
theorem Vals.inj:∀ {xs ys:List V} {us:List Value},Vals xs us->Vals ys us->xs.all V.pl=true->ys.all V.pl=true->xs=ys
 | _,_,_,.nil,.nil,_,_=>rfl
 | _,_,_,.cons r t,.cons r' t',p,q=>by
  simp only [bw,am] at p q
  rw [r.inj r' p.1 q.1,Vals.inj t t' p.2 q.2]
section
variable {X:Cx} {pins:List (Addr×Obj)} {σ:St} {H:Hp} {s:ah} {a:Addr} {xs ys:List V}
theorem SqL.of {K:aa} (h:H a=some (.lst xs)):SqL K H a xs:=.inl (.inl h)
theorem SqT.of {K:aa} (h:H a=some (.tup xs)):SqT K H a xs:=.inl (.inl h)
theorem Inv.list (I:Inv X pins σ H s) (h:SqL X.K H a xs):∃ its:List Value,Vals xs its/\PlainL s.heap a its.toArray/\xs.length<=sizeLine:=by
 rcases h with h|⟨o,its,n,hk,hc,hd,hs,hz,_,r⟩
 ·obtain⟨z,its,n,r,e⟩:=h.ok I.hok
  exact⟨its,r,⟨_,n,e,rfl,rfl,rfl⟩,z⟩
 ·refine⟨its.toList,r,⟨o,n,I.kIn a o hk,hc,hd,by simpa using hs⟩,?_⟩
  have e:=r.length
  simp only [dP] at e
  omega
theorem Inv.tuple (I:Inv X pins σ H s) (h:SqT X.K H a xs):∃ its:List Value,Vals xs its/\i8 s.heap a its.toArray/\xs.length<=sizeLine:=by
 rcases h with h|⟨o,its,n,hk,hc,hs,hz,_,r⟩
 ·obtain⟨z,its,r,p⟩:=h.ok I.hok
  exact⟨its,r,p,z⟩
 ·refine⟨its.toList,r,⟨o,I.kIn a o hk,hc,n,by simpa using hs⟩,?_⟩
  have e:=r.length
  simp only [dP] at e
  omega
theorem Inv.notK (I:Inv X pins σ H s) {o:HO} {ob:Obj} (h:Rd H a o) (e:X.K.lookup a=some ob):False:=by
 have n:=(I.bs a ob (I.mod.kin a ob e)).2
 rcases h with h|⟨u,h⟩
 ·rw [n] at h;cases h
 ·rw [n] at h;cases h
theorem Inv.list_inj (I:Inv X pins σ H s) (h:SqL X.K H a xs) (h':SqL X.K H a ys):xs=ys:=by
 rcases h with h|⟨o,its,n,hk,hc,hd,hs,hz,p,r⟩
 ·rcases h' with h'|⟨o',its',n',hk',hc',hd',hs',hz',p',r'⟩
  ·rcases h with h|⟨u,h⟩ <;> rcases h' with h'|⟨u',h'⟩ <;> (rw [h] at h';first|(cases h';rfl)|cases h')
  ·exact (I.notK h hk').elim
 ·rcases h' with h'|⟨o',its',n',hk',hc',hd',hs',hz',p',r'⟩
  ·exact (I.notK h' hk).elim
  ·rw [hk] at hk';cases hk'
   rw [hs] at hs';cases hs'
   exact r.inj r' p p'
theorem Inv.tuple_inj (I:Inv X pins σ H s) (h:SqT X.K H a xs) (h':SqT X.K H a ys):xs=ys:=by
 rcases h with h|⟨o,its,n,hk,hc,hs,hz,p,r⟩
 ·rcases h' with h'|⟨o',its',n',hk',hc',hs',hz',p',r'⟩
  ·rcases h with h|⟨u,h⟩ <;> rcases h' with h'|⟨u',h'⟩ <;> (rw [h] at h';first|(cases h';rfl)|cases h')
  ·exact (I.notK h hk').elim
 ·rcases h' with h'|⟨o',its',n',hk',hc',hs',hz',p',r'⟩
  ·exact (I.notK h' hk).elim
  ·rw [hk] at hk';cases hk'
   rw [hs] at hs';cases hs'
   exact r.inj r' p p'
end
noncomputable abbrev Cx.wish (X:Cx) (E:Value->ah->Prop):Cx:={ X with xe:=E }
noncomputable abbrev Cx.nox (X:Cx):Cx:=X.wish fun _ _=>False
theorem Cx.Ok.wish {X:Cx} (ok:X.Ok) (E:Value->ah->Prop):(X.wish E).Ok:=
 ⟨ok.mod,ok.kind,ok.glob,ok.blt,ok.above,ok.inj,ok.has,ok.cab,ok.hd,ok.frames,ok.stk,ok.exf,ok.bs,ok.bsz,ok.noex,ok.exfs,ok.funs,ok.frf,ok.tk⟩
theorem Cx.Ok.unwish {X:Cx} {E:Value->ah->Prop} (ok:(X.wish E).Ok):X.Ok:=
 ⟨ok.mod,ok.kind,ok.glob,ok.blt,ok.above,ok.inj,ok.has,ok.cab,ok.hd,ok.frames,ok.stk,ok.exf,ok.bs,ok.bsz,ok.noex,ok.exfs,ok.funs,ok.frf,ok.tk⟩
section
variable {X:Cx} {pins:List (Addr×Obj)} {σ:St} {H:Hp} {s:ah} {E:Value->ah->Prop}
theorem Inv.wish (I:Inv X pins σ H s) (E:Value->ah->Prop):Inv (X.wish E) pins σ H s:=⟨I.ok.wish E,I.os,I.bare,I.base,I.loc,I.cell,I.free,I.freeC,I.pin,I.hok,I.len⟩
theorem Inv.unwish (I:Inv (X.wish E) pins σ H s):Inv X pins σ H s:=⟨I.ok.unwish,I.os,I.bare,I.base,I.loc,I.cell,I.free,I.freeC,I.pin,I.hok,I.len⟩
theorem SP.unwish {D:Kr} {f:Flow} {s':ah} (h:SP (X.wish E) pins D f s'):SP X pins D f s':=by
 cases f with
 | next=>obtain⟨σ',H',I,q⟩:=h;exact⟨σ',H',I.unwish,q⟩
 | brk=>obtain⟨σ',H',I,q⟩:=h;exact⟨σ',H',I.unwish,q⟩
 | cont=>obtain⟨σ',H',I,q⟩:=h;exact⟨σ',H',I.unwish,q⟩
 | ret u=>obtain⟨v,σ',H',I,r,q⟩:=h;exact⟨v,σ',H',I.unwish,r,q⟩
theorem PSs.nox {st:List Stmt} {t:TS} (h:PSs X.nox st t):PSs X st t:=fun pins s σ H D I hw=>
 cg (h pins s σ H D (I.wish _) hw) (fun _ _ q=>q.unwish) fun _ _ z=>b3 z
end
section
variable {X:Cx} {st:Stmt} {rest:List Stmt} {t u:TS} {e:Expr} {te:TE} {pos:Pos}
noncomputable def ax6:TS:=fun D σ H=>D.nx σ H
noncomputable def cl3 (t u:TS):TS:=fun D σ H=>t { D with nx:=u D } σ H
theorem ao6:PSs X [] ax6:=fun _ _ σ H _ I h=>gO ⟨σ,H,I,h⟩
theorem ad6 (h1:PS X st t) (h2:PSs X rest u):PSs X (st::rest) (cl3 t u):=by
 intro pins s σ H D I h
 refine wpAny_execs_cons (thn (h1 pins s σ H { D with nx:=u D } I h) fun f s1 q=>?_)
 cases f with
 | next=>
  obtain⟨σ',H',I',q⟩:=q
  exact h2 pins s1 σ' H' D I' q
 | ret v=>exact q
 | brk=>exact q
 | cont=>exact q
noncomputable def bq0:TS:=fun D σ H=>D.bk σ H
noncomputable def ca6:TS:=fun D σ H=>D.ct σ H
theorem ao4:PS X (.Pass pos) ax6:=fun _ _ σ H _ I h=>wpAny_Pass ⟨σ,H,I,h⟩
theorem ad4:PS X (.Break pos) bq0:=fun _ _ σ H _ I h=>wpAny_Break ⟨σ,H,I,h⟩
theorem P6:PS X (.Continue pos) ca6:=fun _ _ σ H _ I h=>wpAny_Continue ⟨σ,H,I,h⟩
theorem Inv.quiet {pins:List (Addr×Obj)} {σ:St} {H:Hp} {s:ah} (I:Inv X pins σ H s):interactive X.env=false:=by simp [interactive,I.ok.kind]
noncomputable def ca7 (te:TE):TS:=fun D σ H=>te σ H fun _ H1=>D.nx σ H1
theorem ao3 (he:PE X e te) (hs:fO e none pos.line X.env=pure false:=by rfl):PS X (.Expr e pos) (ca7 te):=by
 intro pins s σ H D I h
 exact wpAny_Expr_any (thn (he pins s σ H _ I h) fun v s1 ⟨x,H1,I1,r1,q1⟩=>⟨σ,H1,I1,q1⟩) I.quiet hs
noncomputable def cl2 (te:TE):TS:=fun D σ H=>te σ H D.rt
theorem bc5 (he:PE X e te):PS X (.Return (some e) pos) (cl2 te):=by
 intro pins s σ H D I h
 exact wpAny_Return_some (thn (he pins s σ H _ I h) fun v s1 ⟨x,H1,I1,r1,q1⟩=>⟨x,σ,H1,I1,r1,q1⟩)
noncomputable def ca8:TS:=fun D _ H=>D.rt .non H
theorem ao5:PS X (.Return none pos) ca8:=fun _ _ σ H _ I h=>wpAny_Return_none ⟨.non,σ,H,I,rfl,h⟩
noncomputable def ck8 (c:TT) (t u:TS):TS:=fun D σ H=>c σ H fun b H1=>if b=true then t D σ H1 else u D σ H1
theorem b30 {c:Expr} {a b:List Stmt} {tc:TT} (hc:PT X c tc) (ha:PSs X a t) (hb:PSs X b u):PS X (.If c a b pos) (ck8 tc t u):=by
 intro pins s σ H D I h
 refine wpAny_If (thn (hc pins s σ H _ I h) fun d s1 ⟨H1,I1,q1⟩=>?_)
 cases d with
 | true=>exact ha pins s1 σ H1 D I1 q1
 | false=>exact hb pins s1 σ H1 D I1 q1
end
noncomputable abbrev TG:=V->St->Hp->(St->Hp->Prop)->Prop
noncomputable abbrev TGs:=List V->St->Hp->(St->Hp->Prop)->Prop
noncomputable def PG (X:Cx) (target:Expr) (t:TG):Prop:=
 ∀ (pins:List (Addr×Obj)) (s:ah) (σ:St) (H:Hp) (v:V) (u:Value) (Q:St->Hp->Prop),Inv X pins σ H s->RelV v u->t v σ H Q ->
  aS (model X.prog X.w) X.A (iK target X.env u) (fun _ s'=>∃ σ' H',Inv X pins σ' H' s'/\Q σ' H') X.xe s
noncomputable def PGs (X:Cx) (ts:List Expr) (t:TGs):Prop:=
 ∀ (pins:List (Addr×Obj)) (s:ah) (σ:St) (H:Hp) (vs:List V) (us:List Value) (Q:St->Hp->Prop),Inv X pins σ H s->Vals vs us->t vs σ H Q ->
  aS (model X.prog X.w) X.A (assignInOrder ((cn ts X.env).map (·.2)) us) (fun _ s'=>∃ σ' H',Inv X pins σ' H' s'/\Q σ' H') X.xe s
noncomputable abbrev a18:=V->V->V->Hp->(Hp->Prop)->Prop
noncomputable def a17 (X:Cx) (t:a18):Prop:=
 ∀ (pins:List (Addr×Obj)) (s:ah) (σ:St) (H:Hp) (o i v:V) (ov iv u:Value) (Q:Hp->Prop),Inv X pins σ H s->RelV o ov->RelV i iv->RelV v u->t o i v H Q ->
  aS (model X.prog X.w) X.A (setItem ov iv u) (fun _ s'=>∃ H',Inv X pins σ H' s'/\Q H') X.xe s
section
variable {X:Cx} {pos:Pos}
noncomputable def Zp (i:Nat):TG:=fun v σ H Q=>Q (σ.set i (some v)) H
theorem ao0 {i:Nat} {x:Str} (hN:X.N.Nodup) (hi:X.N[i]? = some x) (hx:Loc X.env.scope x) (hf:X.fn x=true\/X.env.scope.names.lookup x=some .local:=by first|exact .inl rfl|exact .inr rfl|assumption):PG X (.Name x pos) (Zp i):=by
 intro pins s σ H v u Q I r h
 exact wpAny_assign_Name (Fy I hN hi hx r (fun s' I'=>⟨_,H,I',h⟩) hf)
noncomputable def ci8:TGs:=fun vs σ H Q=>vs=[]/\Q σ H
noncomputable def bw8 (t:TG) (u:TGs):TGs:=fun vs σ H Q=>∃ v r,vs=v::r/\t v σ H fun σ' H'=>u r σ' H' Q
theorem ao1:PGs X [] ci8:=by
 intro pins s σ H vs us Q I r h
 obtain⟨e,h⟩:=h
 subst e
 cases r
 exact assignInOrder_nil ⟨σ,H,I,h⟩
theorem ac7 {e:Expr} {es:List Expr} {t:TG} {u:TGs} (h1:PG X e t) (h2:PGs X es u)
  (hs:(cn (e::es) X.env).map (·.2)=iK e X.env::(cn es X.env).map (·.2):=by rfl):PGs X (e::es) (bw8 t u):=by
 intro pins s σ H vs us Q I r h
 obtain⟨v,vr,e1,h⟩:=h
 subst e1
 cases r with
 | cons r rr=>
  rw [hs]
  refine assignInOrder_cons (thn (h1 pins s σ H _ _ _ I r h) fun _ s1 ⟨σ1,H1,I1,q1⟩=>?_)
  exact h2 pins s1 σ1 H1 _ _ Q I1 rr q1
noncomputable def cj0 (K:aa) (n:Nat) (t:TGs):TG:=fun v σ H Q=>∃ a xs,v=.ref a/\SqT K H a xs/\xs.length=n/\t xs σ H Q
theorem bc3 {es:List Expr} {k:Nat} {t:TGs} {n:Nat} (hc:X.calm=true) (h:PGs X es t)
  (hn:(cn es X.env).length=n:=by rfl) (hst:(cn es X.env).findIdx? (·.1)=none:=by rfl):PG X (.Tuple es k pos) (cj0 X.K n t):=by
 intro pins s σ H v u Q I r hw
 obtain⟨a,xs,e1,hq,hl,hw⟩:=hw
 subst e1
 cases r
 obtain⟨its,rv,ht,hz⟩:=I.tuple hq
 refine assign_Tuple_tuple (I.ok.hd hc) ht (by simp [hn,<- hl,rv.length]) hst fun h' hx=>?_
 have I1:Inv X pins σ H { s with heap:=h' }:=I.kept (t':=s.toks) fun b o e=>hx b o (bi (aJ e)) e
 exact h pins _ σ H xs _ Q I1 (by simpa using rv) hw
noncomputable def ci9 (to ti:TE) (t:a18):TG:=fun v σ H Q=>to σ H fun o H1=>ti σ H1 fun i H2=>t o i v H2 fun H3=>Q σ H3
theorem bc2 {o i:Expr} {to ti:TE} {t:a18} (ho:PE X o to) (hi:PE X i ti) (hs:a17 X t)
  (ha:∀ v,iK (.Subscript o i pos) X.env v=(do
   let ov <- holding [v] (eval o X.env)
   let iv <- holding [v,ov] (eval i X.env)
   iF pos
   holding [v,ov,iv] (setItem ov iv v)
   release [v,ov,iv] []):=by intro _;rfl):PG X (.Subscript o i pos) (ci9 to ti t):=by
 intro pins s σ H v u Q I r h
 rw [ha]
 refine af (bR (thn (ho pins s σ H _ I h) fun ov s1 ⟨x,H1,I1,r1,q1⟩=>?_))
 refine af (bR (thn (hi pins s1 σ H1 _ I1 q1) fun iv s2 ⟨y,H2,I2,r2,q2⟩=>?_))
 refine af (c6 (af (bR (thn (hs pins s2 σ H2 x y v ov iv u _ I2 r1 r2 r q2) fun _ s3 ⟨H3,I3,q3⟩=>?_))))
 exact wpAny_release ⟨σ,H3,I3,q3⟩
noncomputable def bp9 (te:TE) (g:TG):TS:=fun D σ H=>te σ H fun x H1=>g x σ H1 D.nx
theorem ad3 {tg e:Expr} {te:TE} {g:TG} (he:PE X e te) (hg:PG X tg g) (hs:ix [tg] e pos.line X.env=pure false:=by rfl) (hw:swappedStores [tg] e X.env=pure none:=by rfl)
  (h1:(cn [tg] X.env).map (·.2)=[iK tg X.env]:=by rfl):PS X (.Assign [tg] e pos) (bp9 te g):=by
 intro pins s σ H D I h
 refine wpAny_Assign_stores (thn (he pins s σ H _ I h) fun v s1 ⟨x,H1,I1,r1,q1⟩=>?_) hs hw
 rw [h1]
 exact thn (hg pins s1 σ H1 x v _ I1 r1 q1) fun _ s2 q=>q
theorem bc6 {i:Nat} {x:Str} {e:Expr} {te:TE} {pos':Pos} (hN:X.N.Nodup) (hi:X.N[i]? = some x) (hx:Loc X.env.scope x) (he:PE X e te) (hs:fO e (some (.Name x pos')) pos.line X.env=pure false:=by rfl) (hf:X.fn x=true\/X.env.scope.names.lookup x=some .local:=by first|exact .inl rfl|exact .inr rfl|assumption) :
  PS X (.Assign [.Name x pos'] e pos) (bp9 te (Zp i)):=by
 intro pins s σ H D I h
 refine wpAny_Assign_Name (thn (he pins s σ H _ I h) fun v s1 ⟨y,H1,I1,r1,q1⟩=>?_) hs
 exact Fy I1 hN hi hx r1 (fun s2 I2=>⟨_,H1,I2,q1⟩) hf
end
structure It where
 go:Nat->Hp->Prop
 yld:Nat->Hp->V->Hp->Prop
 stop:Nat->Hp->Prop
noncomputable def Do (X:Cx) (pins:List (Addr×Obj)) (H:Hp) (b:Addr):Prop:=
 H b=none/\b≠X.env.locals/\b∉X.fs/\(b∈X.ex\/X.s₀.heap.objs.size<=b)/\(∀ x c,X.env.cells.lookup x=some c->c≠b) /\ ∀ p∈X.pn++pins,p.1≠b
theorem Inv.fpOk {X:Cx} {pins:List (Addr×Obj)} {σ:St} {H H':Hp} {s:ah} {b:Addr} (I:Inv X pins σ H s) (hb:s.heap.objs.size<=b) (hn:H' b=none):Do X pins H' b:=by
 refine⟨hn,gG (aD I.lt hb),I.nofs hb,.inr (aM I.sz hb),fun x c e z=>?_,fun p hp z=>?_⟩
 ·obtain⟨v,q⟩:=I.cell x c e
  exact absurd (aD q.lt (by rw [z];exact hb)) (eh _)
 ·exact absurd (aD (aJ (I.pin p hp).1) (by rw [z];exact hb)) (eh _)
structure O6 (P:aI) (w:bq) (K:aa) (tg:Expr) (J:It) (fp:List Addr) (it:Addr) (tn:Nat->Heap->Prop):Prop where
 mem:it∈fp
 obj:∀ i h,tn i h -> ∀ b∈fp,∃ o,h.get? b=some o /\ ∀ v,o.data≠.cell v
 keep:∀ i h h',tn i h->(∀ b∈fp,∀ o,h.get? b=some o->h'.get? b=some o)->tn i h'
 item:∀ (X:Cx),X.prog=P->X.w=w->X.K=K->X.calm=true -> ∀ (i:Nat) (pins:List (Addr×Obj)) (s:ah) (σ:St) (H:Hp) (E:Value->ah->Prop),Inv X pins σ H s->(∀ b∈fp,Do X pins H b)->tn i s.heap->J.go i H ->
  aS (model P w) X.A (pyNext (.ref it)) (fun r s1=>∃ u,r=some u /\
   aS (model P w) X.A (fh tg (.ref it) u) (fun _ s2=>∃ x H',Inv X pins σ H' s2/\RelV x u/\J.yld i H x H'/\tn (i+1) s2.heap /\ ∀ b∈fp,H' b=none) E s1) E s
 done:∀ (X:Cx),X.prog=P->X.w=w->X.K=K->X.calm=true -> ∀ (i:Nat) (pins:List (Addr×Obj)) (s:ah) (σ:St) (H:Hp) (E:Value->ah->Prop),Inv X pins σ H s->(∀ b∈fp,Do X pins H b)->tn i s.heap->J.stop i H ->
  aS (model P w) X.A (pyNext (.ref it)) (fun r s1=>r=none/\Inv X pins σ H s1) E s
 self:∀ (A:bt) (i:Nat) (s:ah) (Q:Value->ah->Prop) (E:Value->ah->Prop),tn i s.heap->Q (.ref it) s->aS (model P w) A (pyIter (.ref it)) Q E s
noncomputable abbrev TI:=St->Hp->(It->Hp->Prop)->Prop
noncomputable def PIE (X:Cx) (pins:List (Addr×Obj)) (σ:St) (tg:Expr) (R:It->Hp->Prop) (itv:Value) (s2:ah):Prop:=
 ∃ (it:Addr) (fp:List Addr) (tn:Nat->Heap->Prop) (J:It) (H':Hp),itv=.ref it/\Inv X pins σ H' s2/\O6 X.prog X.w X.K tg J fp it tn/\tn 0 s2.heap/\(∀ b∈fp,Do X pins H' b)/\R J H'
noncomputable def PI (X:Cx) (tg iter:Expr) (wi:TI):Prop:=
 ∀ (pins:List (Addr×Obj)) (s:ah) (σ:St) (H:Hp) (R:It->Hp->Prop),Inv X pins σ H s->wi σ H R ->
  aS (model X.prog X.w) X.A (eval iter X.env) (fun v s1=>aS (model X.prog X.w) X.A (pyIter v) (PIE X pins σ tg R) X.xe s1) X.xe s
theorem Lh {M:Model} {A:bt} {E:Value->ah->Prop} {s:ah} {tg:Expr} {it:Addr} {u:Value} {o:Obj} {n:String} {vs:Array Value} {Q:Unit->ah->Prop} (ho:s.heap.get? it=some o) (hc:o.cls=.type n) (hd:o.data=.fields vs)
    (hn:["enumerate", "zip", "dict_itemiterator", "dict_reverseitemiterator", "odict_iterator", "itertools.zip_longest", "itertools.pairwise"].contains n=false) (hQ:Q () s):aS M A (fh tg (.ref it) u) Q E s:=by
  unfold fh
  cases tg <;> first
    | exact al hQ
    | (cases u <;> first
        | exact al hQ
        | (refine af (wpAny_load ho ?_)
           rw [hc,hd]
           show aS M A (if (["enumerate", "zip", "dict_itemiterator", "dict_reverseitemiterator", "odict_iterator", "itertools.zip_longest", "itertools.pairwise"].contains n&&vs[0]? == some (i3 _))=true then _ else _) Q E s
           rw [if_neg (by intro h;rw [hn,aR] at h;cases h)]
           exact al hQ))
noncomputable def Itl (K:aa) (a:Addr):It:=
 ⟨fun i H=>∃ xs x,SqL K H a xs/\xs[i]? = some x,fun i H x H'=>H'=H /\ ∀ xs,SqL K H a xs->xs[i]? = some x,fun i H=>∃ xs,SqL K H a xs/\xs.length<=i⟩
noncomputable def Itt (K:aa) (a:Addr):It:=
 ⟨fun i H=>∃ xs x,SqT K H a xs/\xs[i]? = some x,fun i H x H'=>H'=H /\ ∀ xs,SqT K H a xs->xs[i]? = some x,fun i H=>∃ xs,SqT K H a xs/\xs.length<=i⟩
noncomputable def Itr (lo:Int) (n:Nat):It:=⟨fun i _=>i<n,fun i H x H'=>H'=H/\x=.int (lo+i),fun i _=>n<=i⟩
theorem W0 {P:aI} {w:bq} {K:aa} {tg:Expr} (a it:Addr):O6 P w K tg (Itl K a) [it] it (fun i h=>h.IsListIter it a i) where
 mem:=by simp
 obj:=fun i h st b hb=>by
  have e:b=it:=by simpa using hb
  subst e
  obtain⟨o,e,c,d⟩:=st
  exact⟨o,e,fun v z=>by rw [d] at z;cases z⟩
 keep:=fun i h h' st k=>st.at fun o e=>k it (by simp) o e
 item:=by
  intro X hP hw hK hc i pins s σ H E I hf st hg
  subst hP hw hK
  obtain⟨xs,x,hq,hx⟩:=hg
  obtain⟨its,rv,p,hz⟩:=I.list hq
  obtain⟨u,hu,ru⟩:=rv.get hx
  obtain⟨f0,f1,f2,f3,f4,f5⟩:=hf it (by simp)
  refine wpAny_pyNext_list_item st p.isList (x:=u) (by simpa using hu) fun h' st' sb=>?_
  have I1:Inv X pins σ H { s with heap:=h' }:=I.turned (t':=s.toks) (fun b o hb e=>(sb.2 b hb).trans e) f0 f1 f3 f4 f5
  obtain⟨o,e,c,d⟩:=id st'
  exact⟨u,rfl,Lh (s:={ s with heap:=h' }) e c d (by decide) ⟨x,H,I1,ru,⟨rfl,fun ys hy=>by rw [I.list_inj hy hq];exact hx⟩,st',fun b hb=>(hf b hb).1⟩⟩
 done:=by
  intro X hP hw hK hc i pins s σ H E I hf st hg
  subst hP hw hK
  obtain⟨xs,hq,hx⟩:=hg
  obtain⟨its,rv,p,hz⟩:=I.list hq
  obtain⟨f0,f1,f2,f3,f4,f5⟩:=hf it (by simp)
  have hl:=rv.length
  exact wpAny_pyNext_list_end (I.ok.hd hc) st p.isList (by simp;omega) fun h' eb=>⟨rfl,I.turned (t':=s.toks) (fun b o hb e=>eb b o hb e) f0 f1 f3 f4 f5⟩
 self:=fun _ _ _ _ _ st h=>wpAny_pyIter_listiter st h
theorem Tj {P:aI} {w:bq} {K:aa} {tg:Expr} (a it:Addr):O6 P w K tg (Itt K a) [it] it (fun i h=>h.IsTupleIter it a i) where
 mem:=by simp
 obj:=fun i h st b hb=>by
  have e:b=it:=by simpa using hb
  subst e
  obtain⟨o,e,c,d⟩:=st
  exact⟨o,e,fun v z=>by rw [d] at z;cases z⟩
 keep:=fun i h h' st k=>st.at fun o e=>k it (by simp) o e
 item:=by
  intro X hP hw hK hc i pins s σ H E I hf st hg
  subst hP hw hK
  obtain⟨xs,x,hq,hx⟩:=hg
  obtain⟨its,rv,p,hz⟩:=I.tuple hq
  obtain⟨u,hu,ru⟩:=rv.get hx
  obtain⟨f0,f1,f2,f3,f4,f5⟩:=hf it (by simp)
  refine wpAny_pyNext_tuple_item st (show s.heap.IsTuple a its.toArray from p) (x:=u) (by simpa using hu) fun h' st' sb=>?_
  have I1:Inv X pins σ H { s with heap:=h' }:=I.turned (t':=s.toks) (fun b o hb e=>(sb.2 b hb).trans e) f0 f1 f3 f4 f5
  obtain⟨o,e,c,d⟩:=id st'
  exact⟨u,rfl,Lh (s:={ s with heap:=h' }) e c d (by decide) ⟨x,H,I1,ru,⟨rfl,fun ys hy=>by rw [I.tuple_inj hy hq];exact hx⟩,st',fun b hb=>(hf b hb).1⟩⟩
 done:=by
  intro X hP hw hK hc i pins s σ H E I hf st hg
  subst hP hw hK
  obtain⟨xs,hq,hx⟩:=hg
  obtain⟨its,rv,p,hz⟩:=I.tuple hq
  obtain⟨f0,f1,f2,f3,f4,f5⟩:=hf it (by simp)
  have hl:=rv.length
  exact wpAny_pyNext_tuple_end (I.ok.hd hc) st (show s.heap.IsTuple a its.toArray from p) (by simp;omega) fun h' eb=>⟨rfl,I.turned (t':=s.toks) (fun b o hb e=>eb b o hb e) f0 f1 f3 f4 f5⟩
 self:=fun _ _ _ _ _ st h=>wpAny_pyIter_tupleiter st h
theorem Ti {P:aI} {w:bq} {K:aa} {tg:Expr} (it:Addr) (lo:Int) (n:Nat):O6 P w K tg (Itr lo n) [it] it (fun i h=>hJ h it (lo+(i:Nat) * 1) ((n:Int) - (i:Nat)) 1) where
 mem:=by simp
 obj:=fun i h st b hb=>by
  have e:b=it:=by simpa using hb
  subst e
  exact⟨_,st,fun v z=>by
   have z':Data.fields _=Data.cell v:=z
   cases z'⟩
 keep:=fun i h h' st k=>k it (by simp) _ st
 item:=by
  intro X hP hw hK hc i pins s σ H E I hf st hg
  subst hP hw hK
  obtain⟨f0,f1,f2,f3,f4,f5⟩:=hf it (by simp)
  have W:=Walks.range (prog:=X.prog) (w:=X.w) (I.ok.hd hc) it lo 1 n
  refine bu (ae _) (W.item i s _ _ hg st fun v h' tk hv st' kk htk=>?_)
  obtain⟨t,rfl⟩:=hv
  have I1:Inv X pins σ H { s with heap:=h',toks:=tk }:=I.turned (fun b o hb e=>kk b o (by simpa using hb) e) f0 f1 f3 f4 f5
  refine⟨_,rfl,Lh (s:={ s with heap:=h',toks:=tk }) (n := "range_iterator") st' rfl rfl (by decide) ⟨.int (lo+i),H,I1,⟨t,?_⟩,⟨rfl,rfl⟩,st',fun b hb=>(hf b hb).1⟩⟩
  rw [Int.mul_one]
 done:=by
  intro X hP hw hK hc i pins s σ H E I hf st hg
  subst hP hw hK
  obtain⟨f0,f1,f2,f3,f4,f5⟩:=hf it (by simp)
  exact gx (I.ok.hd hc) st (by have:n<=i:=hg;omega) fun h' eb=>⟨rfl,I.turned (t':=s.toks) (fun b o hb e=>eb b o hb e) f0 f1 f3 f4 f5⟩
 self:=fun _ _ _ _ _ st h=>gw st h
section
variable {X:Cx} {tg:Expr}
theorem Qd {pins:List (Addr×Obj)} {σ:St} {H:Hp} {s:ah} {R:It->Hp->Prop} {E:Value->ah->Prop} {lo hi:Int} {t u v:Tok} {tk:Nat} (I:Inv X pins σ H s) (htk:s.toks<=tk) (h1:-(2 ^ 62)<=lo) (h2:lo<2 ^ 62) (h3:-(2 ^ 62)<=hi) (h4:hi<2 ^ 62)
  (q:R (Itr lo (hi - lo).toNat) H):aS (model X.prog X.w) X.A (pyIter (.ref s.heap.objs.size)) (PIE X pins σ tg R) E { s with heap:=s.heap.push { cls:=.type "range", data:=.fields #[.int lo t,.int hi u,.int 1 v] },toks:=tk }:=by
 refine iA (IsRange.new ..) (small_one h1 h2 h3 h4) ?_
 have I1:Inv X pins σ H { s with heap:=s.heap.push { cls:=.type "range", data:=.fields #[.int lo t,.int hi u,.int 1 v] },toks:=tk }:=I.kept fun b o e=>ag _ e
 refine⟨(s.heap.push { cls:=.type "range", data:=.fields #[.int lo t,.int hi u,.int 1 v] }).objs.size,[(s.heap.push { cls:=.type "range", data:=.fields #[.int lo t,.int hi u,.int 1 v] }).objs.size],_,_,H,rfl,
  I1.kept (t':=tk) fun b o e=>ag _ e,Ti _ lo (hi - lo).toNat,?_,fun b hb=>?_,q⟩
 ·have e1:lo+((0:Nat):Int) * 1=lo:=by simp
  have e2:(((hi - lo).toNat:Nat):Int) - ((0:Nat):Int)=bL lo hi 1:=by rw [rangeSize_one];split <;> omega
  show hJ _ _ (lo+((0:Nat):Int) * 1) ((((hi - lo).toNat:Nat):Int) - ((0:Nat):Int)) 1
  rw [e1,e2]
  exact aL _ rfl
 ·have e:b=(s.heap.push { cls:=.type "range", data:=.fields #[.int lo t,.int hi u,.int 1 v] }).objs.size:=by simpa using hb
  subst e
  exact I1.fpOk (ae _) (I1.hok.fresh (ae _))
noncomputable def ck7 (wi:TI) (g:TG) (tb:TS):TS:=fun D σ H=>wi σ H fun J H1=>∃ W:Nat->Nat->St->Hp->Prop,(∃ m,W 0 m σ H1) /\ ∀ i m σ H,W i m σ H ->
 (J.stop i H/\D.nx σ H)\/(J.go i H /\ ∃ N:St->Hp->Prop,(∀ σ' H',N σ' H' -> ∃ m',m'<m/\W (i+1) m' σ' H') /\ ∀ x H',J.yld i H x H'->g x σ H' fun σ2 H2=>tb { D with nx:=N,ct:=N,bk:=D.nx } σ2 H2)
noncomputable def Gp (fp:List Addr) (h:Heap):List (Addr×Obj):=fp.filterMap fun b=>(h.get? b).map fun o=>(b,o)
theorem D1 {fp:List Addr} {h:Heap} {b:Addr} {o:Obj} (hb:b∈fp) (e:h.get? b=some o):(b,o)∈Gp fp h:=List.mem_filterMap.mpr ⟨b,hb,by rw [e];rfl⟩
theorem Wi {fp:List Addr} {h:Heap} {p:Addr×Obj} (hp:p∈Gp fp h):p.1∈fp/\h.get? p.1=some p.2:=by
 obtain⟨b,hb,e⟩:=List.mem_filterMap.mp hp
 cases q:h.get? b with
 | none=>rw [q] at e;cases e
 | some o=>
  rw [q] at e
  have e':(b,o)=p:=aN e
  subst e'
  exact⟨hb,q⟩
theorem Inv.pinned {pins:List (Addr×Obj)} {σ:St} {H:Hp} {s:ah} {fp:List Addr} (I:Inv X pins σ H s) (hf:∀ b∈fp,Do X pins H b) (ho:∀ b∈fp,∃ o,s.heap.get? b=some o /\ ∀ v,o.data≠.cell v):Inv X (pins++Gp fp s.heap) σ H s:=
 I.pins_of fun p hp=>(List.mem_append.mp hp).elim (fun z=>I.pin p (bg _ z)) fun z=>by
  obtain⟨hb,e⟩:=Wi z
  obtain⟨f0,f1,f2,_⟩:=hf p.1 hb
  obtain⟨o,e',d⟩:=ho p.1 hb
  rw [e] at e';cases e'
  exact⟨e,f0,f1,f2,d⟩
theorem Inv.unpinned {pins pl:List (Addr×Obj)} {σ:St} {H:Hp} {s:ah} (I:Inv X (pins++pl) σ H s):Inv X pins σ H s:=I.pins_of fun p hp=>I.pin p (bg _ (dH _ hp))
theorem bc4 {iter:Expr} {body:List Stmt} {wi:TI} {g:TG} {tb:TS} {pos:Pos} (hp:eZ (model X.prog X.w) X.A X.env X.xe) (hc:X.calm=true) (hi:PI X tg iter wi) (hg:PG X tg g) (hb:PSs X body tb)
  (hs:∀ x,dz iter X.env x=pure x:=by intro _;rfl):PS X (.For tg iter body [] pos) (ck7 wi g tb):=by
 intro pins s σ H D I h
 refine wpAny_For (thn (hi pins s σ H _ I h) fun v s1 h1=>thn h1 fun itv s2 h2=>?_) hs
 obtain⟨it,fp,tn,J,H2,e,I2,T,st2,f2,W,⟨m0,w0⟩,turn⟩:=h2
 subst e
 have stat:∀ {H':Hp},(∀ b∈fp,H' b=none) -> ∀ b∈fp,Do X pins H' b:=fun hn b hb=>⟨hn b hb,(f2 b hb).2⟩
 refine codeAny_forLoop_any (fun n s'=>∃ i σ' H',Inv X pins σ' H' s'/\tn i s'.heap/\(∀ b∈fp,H' b=none)/\W i n σ' H') ?_ m0 ⟨0,σ,H2,I2,st2,fun b hb=>(f2 b hb).1,w0⟩
 rintro n s3 ⟨i,σ3,H3,I3,st3,fr3,w3⟩
 rcases turn i n σ3 H3 w3 with ⟨stop,qn⟩|⟨go,N,hN,step⟩
 ·refine eA hp (thn (T.done X rfl rfl rfl hc i pins s3 σ3 H3 X.xe I3 (stat fr3) st3 stop) fun r s4 ⟨hr,I4⟩=>?_)
  subst hr
  exact gO ⟨σ3,H3,I4,qn⟩
 ·refine eA hp (thn (T.item X rfl rfl rfl hc i pins s3 σ3 H3 X.xe I3 (stat fr3) st3 go) fun r s4 ⟨u,hr,h4⟩=>?_)
  subst hr
  refine eA hp (thn h4 fun _ s5 ⟨x,H5,I5,r5,y5,st5,fr5⟩=>?_)
  have I5':=I5.pinned (stat fr5) (T.obj _ _ st5)
  refine eA hp (thn (hg _ s5 σ3 H5 x u _ I5' r5 (step x H5 y5)) fun _ s6 ⟨σ6,H6,I6,q6⟩=>?_)
  refine eA hp (thn (hb _ s6 σ6 H6 _ I6 q6) fun f s7 q7=>?_)
  have again:∀ {σ7:St} {H7:Hp},Inv X (pins++Gp fp s5.heap) σ7 H7 s7->N σ7 H7 -> ∃ m,m<n /\ ∃ i σ' H',Inv X pins σ' H' s7/\tn i s7.heap/\(∀ b∈fp,H' b=none)/\W i m σ' H':=fun {σ7 H7} I7 n7=>by
   obtain⟨m',hm,w7⟩:=hN σ7 H7 n7
   refine⟨m',hm,i+1,σ7,H7,I7.unpinned,T.keep _ _ _ st5 fun b hb o e=>(I7.pin (b,o) (bg _ (bg _ (D1 hb e)))).1,fun b hb=>?_,w7⟩
   obtain⟨o,e,d⟩:=T.obj _ _ st5 b hb
   exact (I7.pin (b,o) (bg _ (bg _ (D1 hb e)))).2.1
  cases f with
  | next=>obtain⟨σ7,H7,I7,n7⟩:=q7;exact again I7 n7
  | cont=>obtain⟨σ7,H7,I7,n7⟩:=q7;exact again I7 n7
  | brk=>obtain⟨σ7,H7,I7,q7⟩:=q7;exact⟨σ7,H7,I7.unpinned,q7⟩
  | ret v=>obtain⟨x7,σ7,H7,I7,r7,q7⟩:=q7;exact⟨x7,σ7,H7,I7.unpinned,r7,q7⟩
end
noncomputable abbrev R2:=V->V->Hp->VK->Prop
noncomputable def OpR (X:Cx) (f:Value->Value->Sem Value) (r:R2):Prop:=
 ∀ (pins:List (Addr×Obj)) (s:ah) (σ:St) (H:Hp) (x y:V) (v u:Value) (Q:VK),Inv X pins σ H s->RelV x v->RelV y u->r x y H Q ->
  aS (model X.prog X.w) X.A (f v u) (EP X pins σ Q) X.xe s
noncomputable def UnR (X:Cx) (f:Value->Sem Value) (r:V->Hp->VK->Prop):Prop:=
 ∀ (pins:List (Addr×Obj)) (s:ah) (σ:St) (H:Hp) (x:V) (v:Value) (Q:VK),Inv X pins σ H s->RelV x v->r x H Q ->
  aS (model X.prog X.w) X.A (f v) (EP X pins σ Q) X.xe s
noncomputable def Bt (X:Cx) (f:Value) (r:List V->Hp->VK->Prop):Prop:=
 ∀ (pins:List (Addr×Obj)) (s:ah) (σ:St) (H:Hp) (xs:List V) (us:List Value) (Q:VK),Inv X pins σ H s->Vals xs us->r xs H Q ->
  aS (model X.prog X.w) X.A (call f us) (EP X pins σ Q) X.xe s
noncomputable def bv7 (X:Cx) (r:V->Hp->(Bool->Hp->Prop)->Prop):Prop:=
 ∀ (pins:List (Addr×Obj)) (s:ah) (σ:St) (H:Hp) (x:V) (v:Value) (Q:Bool->Hp->Prop),Inv X pins σ H s->RelV x v->r x H Q ->
  aS (model X.prog X.w) X.A (truthy v) (TP X pins σ Q) X.xe s
noncomputable def tOp (r:R2) (ta tb:TE):TE:=fun σ H Q=>ta σ H fun x H1=>tb σ H1 fun y H2=>r x y H2 Q
noncomputable def tUn (r:V->Hp->VK->Prop) (ta:TE):TE:=fun σ H Q=>ta σ H fun x H1=>r x H1 Q
noncomputable def rI (C:Int->Int->Prop) (g:Int->Int->V):R2:=fun x y H Q=>∃ i j,x=.int i/\y=.int j/\C i j/\Q (g i j) H
noncomputable def rI0 (g:Int->Int->V):R2:=fun x y H Q=>∃ i j,x=.int i/\y=.int j/\Q (g i j) H
noncomputable def rU (g:Int->V):V->Hp->VK->Prop:=fun x H Q=>∃ i,x=.int i/\Q (g i) H
section
variable {X:Cx} {a b c:Expr} {ta tb tc:TE} {pos:Pos}
theorem a22 (ha:PE X a ta) (hb:PE X b tb) {pins:List (Addr×Obj)} {s:ah} {σ:St} {H:Hp} {R:V->V->Hp->Prop} (I:Inv X pins σ H s)
  (h:ta σ H fun x H1=>tb σ H1 fun y H2=>R x y H2) {Q:Value->ah->Prop} {f:Value->Value->Sem Value}
  (hf:∀ v u s2 x y H2,Inv X pins σ H2 s2->RelV x v->RelV y u->R x y H2->aS (model X.prog X.w) X.A (f v u) Q X.xe s2) :
  aS (model X.prog X.w) X.A (eval a X.env) (fun v s₁=>aS (model X.prog X.w) X.A (eval b X.env) (fun u s₂=>aS (model X.prog X.w) X.A (f v u) Q X.xe s₂) X.xe s₁) X.xe s:=by
 refine thn (ha pins s σ H _ I h) fun v s1 ⟨x,H1,I1,r1,q1⟩=>?_
 refine thn (hb pins s1 σ H1 _ I1 q1) fun u s2 ⟨y,H2,I2,r2,q2⟩=>?_
 exact hf v u s2 x y H2 I2 r1 r2 q2
theorem b26 {op:i9} {r:R2} (ho:OpR X (c4 op) r) (ha:PE X a ta) (hb:PE X b tb):PE X (.BinOp a op b pos) (tOp r ta tb):=by
 intro pins s σ H Q I h
 exact wpAny_BinOp (a22 ha hb I h fun v u s2 x y H2 I2 rx ry q=>ho pins s2 σ H2 x y v u Q I2 rx ry q)
theorem av4 {op:UnaryOp} {r:V->Hp->VK->Prop} (ho:UnR X (je op) r) (ha:PE X a ta):PE X (.UnaryOp op a pos) (tUn r ta):=by
 intro pins s σ H Q I h
 exact UnaryOp_ (thn (ha pins s σ H _ I h) fun v s1 ⟨x,H1,I1,r1,q1⟩=>ho pins s1 σ H1 x v Q I1 r1 q1)
theorem opI {f:Value->Value->Sem Value} {C:Int->Int->Prop} {g:Int->Int->Int}
  (rule:∀ (i j:Int) (t u:Tok) (s:ah) (Q:Value->ah->Prop) (E:Value->ah->Prop),C i j->Q (.int (g i j) s.toks) { s with toks:=s.toks+1 }->aS (model X.prog X.w) X.A (f (.int i t) (.int j u)) Q E s) :
  OpR X f (rI C fun i j=>.int (g i j)):=by
 intro pins s σ H x y v u Q I rx ry h
 obtain⟨i,j,rfl,rfl,hc,q⟩:=h
 obtain⟨t,rfl⟩:=rx
 obtain⟨t',rfl⟩:=ry
 exact rule i j t t' s _ _ hc ⟨.int (g i j),H,I.tok _,⟨_,rfl⟩,q⟩
theorem b19 {f:Value->Value->Sem Value} {g:Int->Int->Int}
  (rule:∀ (i j:Int) (t u:Tok) (s:ah) (Q:Value->ah->Prop) (E:Value->ah->Prop),Q (.int (g i j) s.toks) { s with toks:=s.toks+1 }->aS (model X.prog X.w) X.A (f (.int i t) (.int j u)) Q E s) :
  OpR X f (rI0 fun i j=>.int (g i j)):=by
 intro pins s σ H x y v u Q I rx ry h
 obtain⟨i,j,rfl,rfl,q⟩:=h
 obtain⟨t,rfl⟩:=rx
 obtain⟨t',rfl⟩:=ry
 exact rule i j t t' s _ _ ⟨.int (g i j),H,I.tok _,⟨_,rfl⟩,q⟩
theorem am9 {f:Value->Value->Sem Value} {g:Int->Int->Bool}
  (rule:∀ (i j:Int) (t u:Tok) (s:ah) (Q:Value->ah->Prop) (E:Value->ah->Prop),Q (.bool (g i j)) s->aS (model X.prog X.w) X.A (f (.int i t) (.int j u)) Q E s) :
  OpR X f (rI0 fun i j=>.bl (g i j)):=by
 intro pins s σ H x y v u Q I rx ry h
 obtain⟨i,j,rfl,rfl,q⟩:=h
 obtain⟨t,rfl⟩:=rx
 obtain⟨t',rfl⟩:=ry
 exact rule i j t t' s _ _ ⟨.bl (g i j),H,I,rfl,q⟩
noncomputable def bv1 (i j:Int):Prop:=0<j/\j<1073741824
noncomputable def ay8 (i j:Int):Prop:=0<=j/\j<=1000000/\i.natAbs<2 ^ 64
noncomputable def CMul (i j:Int):Prop:=(-(2 ^ 64)<i/\i<2 ^ 64)\/(-(2 ^ 64)<j/\j<2 ^ 64)
theorem CMul.ok {i j:Int} (h:CMul i j):IntMulOk i j:=by
 rcases h with ⟨h1,h2⟩|⟨h1,h2⟩
 ·exact .of_left (intBits_le_64 h1 h2)
 ·exact .of_right (intBits_le_64 h1 h2)
theorem ba2:OpR X (c4 .Add) (rI0 fun i j=>.int (i+j)):=b19 fun _ _ _ _ _ _ _ q=>add_int q
theorem bb3:OpR X (c4 .Sub) (rI0 fun i j=>.int (i - j)):=b19 fun _ _ _ _ _ _ _ q=>sub_int q
theorem ba8:OpR X (c4 .Mult) (rI CMul fun i j=>.int (i * j)):=opI fun _ _ _ _ _ _ _ hc q=>mul_int q hc.ok
theorem an1:OpR X (c4 .FloorDiv) (rI bv1 fun i j=>.int (i / j)):=opI fun i j _ _ _ _ _ hc q=>by
 have h1:(0:Int)<j:=hc.1
 have h2:j<1073741824:=hc.2
 exact floordiv_int (by omega) (by rw [Int.fdiv_eq_ediv_of_nonneg i (by omega)];exact q) (.inl (gq (by omega)))
theorem ba7:OpR X (c4 .Mod) (rI (fun _ j=>0<j) fun i j=>.int (i % j)):=opI fun i j _ _ _ _ _ hc q=>by
 have h1:(0:Int)<j:=hc
 exact mod_int' (by omega) (by rw [Int.fmod_eq_emod_of_nonneg i (by omega)];exact q)
theorem bb2:OpR X (c4 .Pow) (rI ay8 fun i j=>.int (i ^ j.toNat)):=opI fun _ _ _ _ _ _ _ hc q=>pow_int_small hc.1 hc.2.1 hc.2.2 q
theorem unI {f:Value->Sem Value} {g:Int->Int}
  (rule:∀ (i:Int) (t:Tok) (s:ah) (Q:Value->ah->Prop) (E:Value->ah->Prop),Q (.int (g i) s.toks) { s with toks:=s.toks+1 }->aS (model X.prog X.w) X.A (f (.int i t)) Q E s) :
  UnR X f (rU fun i=>.int (g i)):=by
 intro pins s σ H x v Q I rx h
 obtain⟨i,rfl,q⟩:=h
 obtain⟨t,rfl⟩:=rx
 exact rule i t s _ _ ⟨.int (g i),H,I.tok _,⟨_,rfl⟩,q⟩
theorem bq4:UnR X (je .USub) (rU fun i=>.int (-i)):=unI fun _ _ _ _ _ q=>neg_int q
theorem bq3:UnR X (je .Invert) (rU fun i=>.int (Builtin.bitNot i)):=unI fun _ _ _ _ _ q=>invert_int q
end
noncomputable def bp5:V->V->Bool
 | .non,.non=>true | .non,.int _=>true | .int _,.non=>true | .non,.bl _=>true | .bl _,.non=>true | .non,.str _=>true | .str _,.non=>true
 | .int _,.int _=>true | .bl _,.bl _=>true | .str _,.str _=>true | .byt _,.byt _=>true
 | .int _,.str _=>true | .str _,.int _=>true | .bl _,.str _=>true | .str _,.bl _=>true
 | _,_=>false
noncomputable def rEq:R2:=fun x y H Q=>bp5 x y=true/\Q (.bl (decide (x=y))) H
noncomputable def rNe:R2:=fun x y H Q=>bp5 x y=true/\Q (.bl (!decide (x=y))) H
theorem Hg {i j:Int}:decide (V.int i=V.int j)=(i==j):=by
 rw [cK]
 simp
theorem Mp {i j:Bool}:decide (V.bl i=V.bl j)=(i==j):=by
 rw [cK]
 simp
theorem Hh {i j:Str}:decide (V.str i=V.str j)=(i==j):=by
 rw [cK]
 simp
theorem Ub {i j:Array UInt8}:decide (V.byt i=V.byt j)=(i.toList==j.toList):=by
 rw [cK]
 cases i
 cases j
 simp
section
variable {X:Cx} {a b c:Expr} {ta tb tc:TE} {pos:Pos}
theorem Ax {pins:List (Addr×Obj)} {σ:St} {H:Hp} {s:ah} {Q:VK} {k k':Bool} (I:Inv X pins σ H s) (q:Q (.bl k) H) (e:k=k'):EP X pins σ Q (.bool k') s:=by
 subst e
 exact⟨.bl k,H,I,rfl,q⟩
theorem Ur:OpR X (bJ .Eq) rEq:=by
 intro pins s σ H x y v u Q I rx ry h
 obtain⟨hs,q⟩:=h
 cases x with
 | non=>
  cases rx
  cases y with
  | non=>cases ry;exact PySem.EqNone.eq_none_none (Ax I q (by simp))
  | bl j=>cases ry;exact PySem.EqNone.eq_none_bool (Ax I q (by simp))
  | int j=>obtain⟨t',rfl⟩:=ry;exact PySem.EqNone.eq_none_int (Ax I q (by simp))
  | str j=>obtain⟨t',rfl⟩:=ry;exact PySem.EqNone.eq_none_str (Ax I q (by simp))
  | _=>exact absurd (show false=true from hs) ak
 | bl i=>
  cases rx
  cases y with
  | non=>cases ry;exact PySem.EqNone.eq_bool_none (Ax I q (by simp))
  | bl j=>cases ry;exact eq_bool (Ax I q Mp)
  | str j=>obtain⟨t',rfl⟩:=ry;exact PySem.EqMixed.eq_bool_str (Ax I q (by simp))
  | _=>exact absurd (show false=true from hs) ak
 | int i=>
  obtain⟨t,rfl⟩:=rx
  cases y with
  | non=>cases ry;exact PySem.EqNone.eq_int_none (Ax I q (by simp))
  | int j=>obtain⟨t',rfl⟩:=ry;exact eq_int (Ax I q Hg)
  | str j=>obtain⟨t',rfl⟩:=ry;exact PySem.EqMixed.eq_int_str (Ax I q (by simp))
  | _=>exact absurd (show false=true from hs) ak
 | str i=>
  obtain⟨t,rfl⟩:=rx
  cases y with
  | non=>cases ry;exact PySem.EqNone.eq_str_none (Ax I q (by simp))
  | bl j=>cases ry;exact PySem.EqMixed.eq_str_bool (Ax I q (by simp))
  | int j=>obtain⟨t',rfl⟩:=ry;exact PySem.EqMixed.eq_str_int (Ax I q (by simp))
  | str j=>obtain⟨t',rfl⟩:=ry;exact eq_str (Ax I q Hh)
  | _=>exact absurd (show false=true from hs) ak
 | byt i=>
  obtain⟨t,rfl⟩:=rx
  cases y with
  | byt j=>obtain⟨t',rfl⟩:=ry;exact PySem.W.eq_bytes (Ax I q Ub)
  | _=>exact absurd (show false=true from hs) ak
 | _=>cases y <;> exact absurd (show false=true from hs) ak
theorem Us:OpR X (bJ .NotEq) rNe:=by
 intro pins s σ H x y v u Q I rx ry h
 obtain⟨hs,q⟩:=h
 cases x with
 | non=>
  cases rx
  cases y with
  | non=>cases ry;exact PySem.EqNone.ne_none_none (Ax I q (by simp))
  | bl j=>cases ry;exact PySem.EqNone.ne_none_bool (Ax I q (by simp))
  | int j=>obtain⟨t',rfl⟩:=ry;exact PySem.EqNone.ne_none_int (Ax I q (by simp))
  | str j=>obtain⟨t',rfl⟩:=ry;exact PySem.EqNone.ne_none_str (Ax I q (by simp))
  | _=>exact absurd (show false=true from hs) ak
 | bl i=>
  cases rx
  cases y with
  | non=>cases ry;exact PySem.EqNone.ne_bool_none (Ax I q (by simp))
  | bl j=>cases ry;exact ne_bool (Ax I q (congrArg not Mp))
  | str j=>obtain⟨t',rfl⟩:=ry;exact PySem.EqMixed.ne_bool_str (Ax I q (by simp))
  | _=>exact absurd (show false=true from hs) ak
 | int i=>
  obtain⟨t,rfl⟩:=rx
  cases y with
  | non=>cases ry;exact PySem.EqNone.ne_int_none (Ax I q (by simp))
  | int j=>obtain⟨t',rfl⟩:=ry;exact ne_int (Ax I q (congrArg not Hg))
  | str j=>obtain⟨t',rfl⟩:=ry;exact PySem.EqMixed.ne_int_str (Ax I q (by simp))
  | _=>exact absurd (show false=true from hs) ak
 | str i=>
  obtain⟨t,rfl⟩:=rx
  cases y with
  | non=>cases ry;exact PySem.EqNone.ne_str_none (Ax I q (by simp))
  | bl j=>cases ry;exact PySem.EqMixed.ne_str_bool (Ax I q (by simp))
  | int j=>obtain⟨t',rfl⟩:=ry;exact PySem.EqMixed.ne_str_int (Ax I q (by simp))
  | str j=>obtain⟨t',rfl⟩:=ry;exact ne_str (Ax I q (congrArg not Hh))
  | _=>exact absurd (show false=true from hs) ak
 | byt i=>
  obtain⟨t,rfl⟩:=rx
  cases y with
  | byt j=>obtain⟨t',rfl⟩:=ry;exact PySem.W.ne_bytes (Ax I q (congrArg not Ub))
  | _=>exact absurd (show false=true from hs) ak
 | _=>cases y <;> exact absurd (show false=true from hs) ak
theorem b23:OpR X (bJ .Lt) (rI0 fun i j=>.bl (decide (i<j))):=am9 fun _ _ _ _ _ _ _ q=>lt_int q
theorem b22:OpR X (bJ .LtE) (rI0 fun i j=>.bl (decide (i<=j))):=am9 fun _ _ _ _ _ _ _ q=>le_int q
theorem b21:OpR X (bJ .Gt) (rI0 fun i j=>.bl (decide (j<i))):=am9 fun _ _ _ _ _ _ _ q=>gt_int q
theorem b20:OpR X (bJ .GtE) (rI0 fun i j=>.bl (decide (j<=i))):=am9 fun _ _ _ _ _ _ _ q=>ge_int q
theorem Wm:OpR X (bJ .Lt) (fun x y H Q=>∃ i j,x=.str i/\y=.str j/\Q (.bl (decide (i.cps.toList<j.cps.toList))) H):=by
 intro pins s σ H x y v u Q I rx ry h
 obtain⟨i,j,rfl,rfl,q⟩:=h
 obtain⟨t,rfl⟩:=rx
 obtain⟨t',rfl⟩:=ry
 exact lt_str (Ax I q rfl)
theorem Wk:OpR X (bJ .In) (fun x y H Q=>∃ i j,x=.str i/\y=.str j/\Q (.bl (!(cj j i 0 j.length 1).isEmpty)) H):=by
 intro pins s σ H x y v u Q I rx ry h
 obtain⟨i,j,rfl,rfl,q⟩:=h
 obtain⟨t,rfl⟩:=rx
 obtain⟨t',rfl⟩:=ry
 exact in_str (Ax I q rfl)
theorem ba6:OpR X (bJ .Is) (fun x y H Q=>y=.non/\Q (.bl (decide (x=.non))) H):=by
 intro pins s σ H x y v u Q I rx ry h
 obtain⟨rfl,q⟩:=h
 cases ry
 refine is_none_gen (Ax I q ?_)
 cases x <;> first
  | (cases rx;rfl)
  | (obtain⟨t,rfl⟩:=rx;rfl)
  | (obtain⟨t,rfl,_⟩:=rx;rfl)
theorem an3:OpR X (bJ .IsNot) (fun x y H Q=>y=.non/\Q (.bl (!decide (x=.non))) H):=by
 intro pins s σ H x y v u Q I rx ry h
 obtain⟨rfl,q⟩:=h
 cases ry
 refine isnot_none_gen (Ax I q ?_)
 cases x <;> first
  | (cases rx;rfl)
  | (obtain⟨t,rfl⟩:=rx;rfl)
  | (obtain⟨t,rfl,_⟩:=rx;rfl)
theorem M7:OpR X (bJ .NotIn) (fun x y H Q=>∃ i j,x=.str i/\y=.str j/\Q (.bl (!(!(cj j i 0 j.length 1).isEmpty))) H):=by
 intro pins s σ H x y v u Q I rx ry h
 obtain⟨i,j,rfl,rfl,q⟩:=h
 obtain⟨t,rfl⟩:=rx
 obtain⟨t',rfl⟩:=ry
 exact notIn_str (Ax I q rfl)
theorem OpR.or {f:Value->Value->Sem Value} {r r':R2} (h:OpR X f r) (h':OpR X f r'):OpR X f (fun x y H Q=>r x y H Q\/r' x y H Q):=by
 intro pins s σ H x y v u Q I rx ry q
 rcases q with q|q
 ·exact h pins s σ H x y v u Q I rx ry q
 ·exact h' pins s σ H x y v u Q I rx ry q
theorem an9 {op:iS} {r:R2} (ho:OpR X (bJ op) r) (ha:PE X a ta) (hb:PE X b tb) (hm:cD op b=false):PE X (.Compare a [op] [b] pos) (tOp r ta tb):=by
 intro pins s σ H Q I h
 exact wpAny_Compare1 (a22 ha hb I h fun v u s2 x y H2 I2 rx ry q=>ho pins s2 σ H2 x y v u Q I2 rx ry q) hm
noncomputable def bv8 (K:aa) (x:V) (H:Hp) (k:Bool):Prop:=
 match x with
 | .non=>k=false
 | .bl b=>k=b
 | .int i=>k=(i != 0)
 | .str y=>y.length<=sizeLine/\k=((y.length:Int) != 0)
 | .byt y=>y.size<=sizeLine/\k=((y.size:Int) != 0)
 | .ref p=>(∃ xs,SqL K H p xs/\k = !xs.isEmpty)\/(∃ xs,SqT K H p xs/\k = !xs.isEmpty) \/ ∃ kvs,H p=some (.dK kvs)/\k = !kvs.isEmpty
 | _=>False
theorem Q8 {κ:Type} {kvs:List (κ×V)} {vs:List (κ×Value)} (r:KV kvs vs):(!vs.isEmpty) = !kvs.isEmpty:=by
 cases r <;> rfl
theorem Ii {xs:List V} {its:List Value} (r:Vals xs its):(!its.toArray.isEmpty) = !xs.isEmpty:=by
 cases r <;> simp
theorem Fb:(sizeLine:Nat)<2 ^ 63:=by rw [cr];decide
theorem Kn:bv7 X (fun x H Q=>∃ k,bv8 X.K x H k/\Q k H):=by
 intro pins s σ H x v Q I rx h
 obtain⟨k,e,q⟩:=h
 have hl:=Fb
 have hs:sizeLine=16777216:=cr
 cases x with
 | non=>
  cases rx
  have e':k=false:=e
  subst e'
  exact truthy_none ⟨H,I,q⟩
 | bl b=>
  cases rx
  have e':k=b:=e
  subst e'
  exact cq ⟨H,I,q⟩
 | int i=>
  obtain⟨t,rfl⟩:=rx
  have e':k=(i != 0):=e
  subst e'
  exact PySem.P.truthy_int ⟨H,I,q⟩
 | str y=>
  obtain⟨t,rfl⟩:=rx
  obtain⟨hy,e'⟩:y.length<=sizeLine/\k=((y.length:Int) != 0):=e
  subst e'
  exact PySem.P.truthy_str (by omega) ⟨H,I.tok _,q⟩
 | byt y=>
  obtain⟨t,rfl⟩:=rx
  obtain⟨hy,e'⟩:y.size<=sizeLine/\k=((y.size:Int) != 0):=e
  subst e'
  exact PySem.W.truthy_bytes (by omega) ⟨H,I.tok _,q⟩
 | ref p=>
  cases rx
  have e':(∃ xs,SqL X.K H p xs/\k = !xs.isEmpty)\/(∃ xs,SqT X.K H p xs/\k = !xs.isEmpty) \/ ∃ kvs,H p=some (.dK kvs)/\k = !kvs.isEmpty:=e
  rcases e' with ⟨xs,hx,e'⟩|⟨xs,hx,e'⟩|⟨kvs,hx,e'⟩
  ·subst e'
   obtain⟨its,r,pl,hz⟩:=I.list hx
   have hlen:=r.length
   exact wpAny_truthy_list pl.isList (by simp only [au];omega) ⟨H,I.tok _,by rw [Ii r];exact q⟩
  ·subst e'
   obtain⟨its,r,pl,hz⟩:=I.tuple hx
   have hlen:=r.length
   exact truthy_tuple pl (by simp only [au];omega) ⟨H,I.tok _,by rw [Ii r];exact q⟩
  ·subst e'
   obtain⟨hz,hS,vs,r,m⟩:kvs.length<=sizeLine/\(p==cf)=false /\ ∃ vs,KV kvs vs/\s.heap.DictOf (A9 X.prog X.w) p vs:=I.hok p _ hx
   have hlen:kvs.length=vs.length:=fS r
   exact wpAny_truthy_dict hS m (by omega) ⟨H,I.tok _,by rw [Q8 r];exact q⟩
 | _=>exact (show False from e).elim
theorem Rh:OpR X (c4 .Add) (fun x y H Q=>∃ i j,x=.str i/\y=.str j/\i.length+j.length<=sizeLine/\Q (.str (i++j)) H):=by
 intro pins s σ H x y v u Q I rx ry h
 obtain⟨i,j,rfl,rfl,hz,q⟩:=h
 obtain⟨t,rfl⟩:=rx
 obtain⟨t',rfl⟩:=ry
 exact bu (ae _) (add_str (fun t' tk htk=>⟨.str (i++j),H,I.tok _ htk,⟨_,rfl⟩,q⟩) hz)
theorem F0 {x:V} {us:List Value} (r:Vals [x] us):∃ u,us=[u]/\RelV x u:=by
 cases r with
 | cons r1 r2=>cases r2;exact⟨_,rfl,r1⟩
theorem aj1 {x y:V} {us:List Value} (r:Vals [x,y] us):∃ u w',us=[u,w']/\RelV x u/\RelV y w':=by
 cases r with
 | cons r1 r2=>
  cases r2 with
  | cons r3 r4=>cases r4;exact⟨_,_,rfl,r1,r3⟩
theorem Vp (hc:X.calm=true):Bt X (.builtin "max") (fun xs H Q=>∃ i j,xs=[.int i,.int j]/\Q (.int (if j > i then j else i)) H):=by
 intro pins s σ H xs us Q I r h
 obtain⟨i,j,rfl,q⟩:=h
 obtain⟨u,w',rfl,⟨t,rfl⟩,⟨t',rfl⟩⟩:=aj1 r
 refine bu (ae _) (max_two_ints (I.ok.hd hc) fun h' tk k htk=>⟨_,H,I.kept k htk,?_,q⟩)
 by_cases hj:j > i
 ·rw [if_pos hj,if_pos hj];exact⟨_,rfl⟩
 ·rw [if_neg hj,if_neg hj];exact⟨_,rfl⟩
theorem Vs (hc:X.calm=true):Bt X (.builtin "min") (fun xs H Q=>∃ i j,xs=[.int i,.int j]/\Q (.int (if j<i then j else i)) H):=by
 intro pins s σ H xs us Q I r h
 obtain⟨i,j,rfl,q⟩:=h
 obtain⟨u,w',rfl,⟨t,rfl⟩,⟨t',rfl⟩⟩:=aj1 r
 refine bu (ae _) (min_two_ints (I.ok.hd hc) fun h' tk k htk=>⟨_,H,I.kept k htk,?_,q⟩)
 by_cases hj:j<i
 ·rw [if_pos hj,if_pos hj];exact⟨_,rfl⟩
 ·rw [if_neg hj,if_neg hj];exact⟨_,rfl⟩
theorem K9:Bt X (.type "int") (fun xs H Q=>(∃ i,xs=[.int i]/\Q (.int i) H) \/ ∃ k,xs=[.bl k]/\Q (.int (if k then 1 else 0)) H):=by
 intro pins s σ H xs us Q I r h
 rcases h with ⟨i,rfl,q⟩|⟨k,rfl,q⟩
 ·obtain⟨u,rfl,t,rfl⟩:=F0 r
  exact call_int_int ⟨.int i,H,I,⟨_,rfl⟩,q⟩
 ·obtain⟨u,rfl,r1⟩:=F0 r
  cases r1
  exact call_int_bool ⟨.int (if k then 1 else 0),H,I.tok _,⟨_,rfl⟩,q⟩
theorem Y8:Bt X (.builtin "ord") (fun xs H Q=>∃ x,xs=[.str x]/\x.length=1/\Q (.int (x.cps.getD 0 0:Nat)) H):=by
 intro pins s σ H xs us Q I r h
 obtain⟨x,rfl,hz,q⟩:=h
 obtain⟨u,rfl,t,rfl⟩:=F0 r
 exact ord_of_one hz ⟨.int _,H,I.tok _,⟨_,rfl⟩,q⟩
end
structure ObjM (h:Heap) (x dx C:Addr) (mA:Str->Option Value):Prop where
 obj:h.get? x=some (bA C dx)
 ns:h.Ns1 dx mA
 ne:dx≠x
theorem Gj {h:Heap} {dx:Addr} {mA:Str->Option Value} (n:h.Ns1 dx mA):∃ od,h.get? dx=some od /\ ∀ name,fz name od=some (mA name):=by
 obtain⟨o,es,ep,ho,hd,hk,_,hm⟩:=n
 refine⟨o,ho,fun name=>?_⟩
 have e:=hm name
 unfold nsFind findBy at e
 rw [<- Array.find?_toList] at e
 unfold fz
 rw [hd]
 dsimp only
 split
 ·rename_i y q
  rw [q] at e
  exact congrArg some e
 ·rename_i q
  rw [q] at e
  have a:es.toList.any (·.refKey)=false:=by
   rw [List.any_eq_false]
   intro y hy
   obtain⟨z,t,hkey⟩:=hk y (Array.mem_toList_iff.mp hy)
   simp [DictEntry.refKey,hkey]
  have a':¬ es.toList.any (·.refKey)=true:=by rw [a];exact ak
  rw [if_neg a']
  exact congrArg some e
theorem ObjM.look {h:Heap} {x dx C:Addr} {mA:Str->Option Value} (I:ObjM h x dx C mA):∃ od,dN h x (bA C dx) C (some od) /\ ∀ name,fz name od=some (mA name):=
 let ⟨od,ho,hl⟩:=Gj I.ns
 ⟨od,⟨I.obj,rfl,rfl,ho⟩,hl⟩
section
variable {prog:aI} {w:bq} {A:bt} {E:Value->ah->Prop} {s:ah} {K:aa} {x dx C f:Addr} {mA:Str->Option Value} {name:Str} {v:Value}
theorem al4 {expr:Bool} {Q:Value->ah->Prop} (X:K.In s.heap) (I:ObjM s.heap x dx C mA) (hg:br K C name=true) (hh:bp K C=true)
  (ha:ac K (.ref C) name=some none) (hv:mA name=some v) (hv':dO v=true) (h:Q v { s with toks:=s.toks+1 }) :
  aS (model prog w) A (iD (.ref x) name expr) Q E s:=by
 obtain⟨od,J,hl⟩:=I.look
 exact PySem.W.get_value X J (fb hg).1 (hW hh ha rfl (by rw [hl,hv])) hv' h
theorem Zu {pl:Sem Bool} {Q:Value×List Value->ah->Prop} (X:K.In s.heap) (I:ObjM s.heap x dx C mA) (hg:br K C name=true)
  (hf:ac K (.ref C) name=some (some (.ref f))) (ht:cC K (.ref f)=true) (hv:mA name=none) (h:Q (.ref f,[.ref x]) s) :
  aS (model prog w) A (getMethod (.ref x) name pl) Q E s:=by
 obtain⟨od,J,hl⟩:=I.look
 exact PySem.W.method_fn X J (fb hg).1 (fb hg).2 hf (beq_iff_eq.mp ht) (by show (fz name od).map (·.isSome)=some false;rw [hl,hv];rfl) h
theorem aq9 {ns:List Str} {Q:Unit->ah->Prop} (X:K.In s.heap) (I:ObjM s.heap x dx C mA)
  (hs:ac K (.ref C) "__setattr__" = some (some (.builtin "object.__setattr__"))) (hp:bx K C=true) (ht:gK K C name=some none) (hh:bp K C=true)
  (hw:cT mA ns) (hsz:ns.length<=sizeLine)
  (h:∀ h',ObjM h' x dx C (fun y=>if y=name then some v else mA y)->fq dx s.heap h'->Q () { s with heap:=h',toks:=s.toks+2 }) :
  aS (model prog w) A (i5 (.ref x) name v) Q E s:=by
 obtain⟨od,J,hl⟩:=I.look
 refine PySem.W.set_plain X J hs (PySem.W.osa_open (s:={ s with toks:=s.toks+1 }) (r:=none) X J hp ht fun b=>?_)
 obtain⟨cd,hc,hd'⟩:=PySem.W.any_some hh
 have hx:s.heap.get? x=some ⟨.ref C,some dx,.plain,#[]⟩:=I.obj
 refine af (al (af (af (fF hx (af (PySem.W.Looks.here (s:={ s with toks:=s.toks+1 }) (PySem.W.looks_clsIn X hc) ?_))))))
 rw [hd']
 refine al (a:=some dx) (af (al (af ?_)))
 refine iO (s:={ s with toks:=s.toks+1 }) I.ns fun h' hn2 hs2=>?_
 obtain⟨oD,esD,epD,hoD,hdD,hcD⟩:=hn2.count (PySem.Within.cons name v hw)
 refine af (gk hoD (by rw [hdD];exact gi (aM hcD (by rw [ax];omega))) ?_)
 exact al (h _ ⟨(hs2.2 _ (dj I.ne)).trans I.obj,hn2,I.ne⟩ hs2)
theorem ab2 {R:iJ->ah->Prop} {vs:List Value} {kw:List (Str×Value)} (X:K.In s.heap) (hm:aE K C=true)
  (hi:ac K (.ref C) "__init__" = some (some (.ref f))) (hf:PySem.W.typeIn K (.ref f)=some (.type "function"))
  (h:dJ (model prog w) (A.under (.builtin "type.__call__" ⟨.ref C::vs,kw⟩)) (.call (.ref f) ⟨.ref (s.heap.objs.size+1)::vs,kw⟩) (PySem.W.InitBack (s.heap.objs.size+1) R)
   {s with heap:=(s.heap.push bo).push (bA C s.heap.objs.size) }) :
  dJ (model prog w) A (.call (.ref C) ⟨vs,kw⟩) R s:=by
 obtain⟨hh,g,d,t,os⟩:=s
 exact PySem.W.make_core (ge X hm) (ci X hi) (fun self=>PySem.W.bind_fn X self hf) (.inl rfl) h
theorem Wf {R:iJ->ah->Prop} (X:K.In s.heap) (hm:aE K C=true)
  (hi:ac K (.ref C) "__init__" = some (some (.builtin "object.__init__")))
  (hb:∀ self,eS (model prog w) s.heap (fX (.builtin "object.__init__") self) (.builtin "object.__init__", [self]))
  (h:dJ (model prog w) (A.under (.builtin "type.__call__" ⟨[.ref C],[]⟩)) (.call (.builtin "object.__init__") ⟨[.ref (s.heap.objs.size+1)],[]⟩) (PySem.W.InitBack (s.heap.objs.size+1) R)
   {s with heap:=(s.heap.push bo).push (bA C s.heap.objs.size) }) :
  dJ (model prog w) A (.call (.ref C) ⟨[],[]⟩) R s:=by
 obtain⟨hh,g,d,t,os⟩:=s
 exact PySem.W.make_core (ge X hm) (ci X hi) hb (.inr ⟨rfl,rfl⟩) h
end
noncomputable def Ea (f:Str) (v:V):List (Str×V)->List (Str×V)
 | []=>[(f,v)]
 | (g,x)::r=>if g=f then (g,v)::r else (g,x)::Ea f v r
theorem Ek (f g:Str) (v:V):∀ fs:List (Str×V),(Ea f v fs).lookup g=if g=f then some v else fs.lookup g
 | []=>by
  show cW g [(f,v)]=_
  by_cases h:g=f
  ·have hb:(g==f)=true:=beq_iff_eq.mpr h
   simp only [cW,hb,if_pos h]
  ·have hb:(g==f)=false:=beq_eq_false_iff_ne.mpr h
   simp only [cW,hb,if_neg h]
 | (k,x)::r=>by
  have ih:=Ek f g v r
  rw [show Ea f v ((k,x)::r)=(if k=f then (k,v)::r else (k,x)::Ea f v r) from rfl]
  by_cases hk:k=f
  ·rw [if_pos hk]
   by_cases h:g=k
   ·have hb:(g==k)=true:=beq_iff_eq.mpr h
    simp only [cW,hb,if_pos (h.trans hk)]
   ·have hb:(g==k)=false:=beq_eq_false_iff_ne.mpr h
    simp only [cW,hb,if_neg (fun e:g=f=>h (e.trans hk.symm))]
  ·rw [if_neg hk]
   by_cases h:g=k
   ·have hb:(g==k)=true:=beq_iff_eq.mpr h
    simp only [cW,hb,if_neg (fun e:g=f=>hk (h.symm.trans e))]
   ·have hb:(g==k)=false:=beq_eq_false_iff_ne.mpr h
    simp only [cW,hb]
    exact ih
theorem Dr (f:Str) (v:V):∀ fs:List (Str×V),f∈(Ea f v fs).map (·.1) /\ ∀ g,g∈fs.map (·.1)->g∈(Ea f v fs).map (·.1)
 | []=>⟨by simp [Ea],fun g h=>by simp at h⟩
 | (k,x)::r=>by
  obtain⟨i1,i2⟩:=Dr f v r
  rw [show Ea f v ((k,x)::r)=(if k=f then (k,v)::r else (k,x)::Ea f v r) from rfl]
  by_cases hk:k=f
  ·rw [if_pos hk]
   subst hk
   exact⟨by simp,fun g h=>by simpa using h⟩
  ·rw [if_neg hk]
   refine⟨?_,fun g h=>?_⟩
   ·rw [ba]
    exact aQ _ i1
   ·rw [ba] at h ⊢
    rcases List.mem_cons.mp h with e|e
    ·exact List.mem_cons.mpr (.inl e)
    ·exact aQ _ (i2 g e)
theorem Ej (f:Str) (v:V):∀ fs:List (Str×V),(Ea f v fs).length<=fs.length+1
 | []=>by simp [Ea]
 | (k,x)::r=>by
  have ih:=Ej f v r
  rw [show Ea f v ((k,x)::r)=(if k=f then (k,v)::r else (k,x)::Ea f v r) from rfl]
  by_cases hk:k=f
  ·rw [if_pos hk,ax,ax];omega
  ·rw [if_neg hk,ax,ax];omega
theorem RelO.some_of {v:V} {o:Option Value} (r:RelO (some v) o):∃ u,o=some u/\RelV v u:=by
 cases o with
 | none=>exact (show False from r).elim
 | some u=>exact⟨u,rfl,r⟩
theorem RelO.none_of {o:Option Value} (r:RelO none o):o=none:=by
 cases o with
 | none=>rfl
 | some u=>exact (show False from r).elim
theorem Lk {v:V} {u:Value} (r:RelV v u):dO u=true:=by
 cases v with
 | non=>cases (show u=cP from r);rfl
 | bl b=>cases (show u=eT b from r);rfl
 | int i=>obtain⟨t,e⟩:=(show ∃ t,u=ip i t from r);cases e;rfl
 | str x=>obtain⟨t,e⟩:=(show ∃ t,u=fg x t from r);cases e;rfl
 | byt b=>obtain⟨t,e⟩:=(show ∃ t,u=Value.bytes b t from r);cases e;rfl
 | stk y n ex=>obtain⟨t,e,_⟩:=(show ∃ t,u=fg y t/\(if ex=true then t=n else n<=t) from r);cases e;rfl
 | ref a=>cases (show u=aC a from r);rfl
 | ty n=>cases (show u=fN n from r);rfl
section
variable {P:aI} {w:bq} {H H':Hp} {h h':Heap} {a C dx:Addr} {fs fs':List (Str×V)}
theorem Hj (hok:HOk P w H h) (e:H a=some (.ins C dx fs)):∃ mA,ObjM h a dx C mA/\(∀ f,RelO (fs.lookup f) (mA f))/\cT mA (fs.map (·.1))/\fs.length<=1000/\H dx=some (.own a):=by
 obtain⟨d,z,ne,ob,mA,n,r,q⟩:=(show ObjOk P w H h a (.ins C dx fs) from hok a _ e)
 exact⟨mA,⟨ob,n,ne⟩,r,q,z,d⟩
end
structure Cls (K:aa) (C:Addr):Prop where
 pg:br K C c8=true
 hd:bp K C=true
 po:bx K C=true
 sa:ac K (.ref C) "__setattr__" = some (some (.builtin "object.__setattr__"))
theorem Cls.get {K:aa} {C:Addr} (c:Cls K C) (f:Str):br K C f=true:=c.pg
noncomputable def NoAttr (K:aa) (C:Addr) (f:Str):Prop:=ac K (.ref C) f=some none
theorem NoAttr.taker {K:aa} {C:Addr} {f:Str} (n:NoAttr K C f):gK K C f=some none:=by
 unfold gK
 rw [show ac K (.ref C) f=some none from n]
 rfl
structure Dk (K:aa) (C:Addr) (m:Str) (f:Addr):Prop where
 at_:ac K (.ref C) m=some (some (.ref f))
 fn:cC K (.ref f)=true
 kp:aj K (.ref f)=true
section
variable {X:Cx} {pins:List (Addr×Obj)} {σ:St} {H:Hp} {s:ah} {a C dx:Addr} {fs:List (Str×V)} {f:Str} {v:V} {A:bt} {E:Value->ah->Prop}
theorem Q7 {b:Bool} {Q:Value->ah->Prop} (I:Inv X pins σ H s) (e:H a=some (.ins C dx fs)) (c:Cls X.K C) (n:NoAttr X.K C f) (l:fs.lookup f=some v)
  (h:∀ u s',Inv X pins σ H s'->RelV v u->Q u s'):aS (model X.prog X.w) A (iD (.ref a) f b) Q E s:=by
 obtain⟨mA,O,r,_,_,_⟩:=Hj I.hok e
 obtain⟨u,hu,ru⟩:=RelO.some_of (v:=v) (o:=mA f) (by rw [<- l];exact r f)
 exact al4 I.kIn O (c.get f) c.hd n hu (Lk ru) (h u _ (I.tok _) ru)
theorem Ih {m:Str} {g:Addr} {pl:Sem Bool} {Q:Value×List Value->ah->Prop} (I:Inv X pins σ H s) (e:H a=some (.ins C dx fs)) (c:Cls X.K C) (k:Dk X.K C m g) (l:fs.lookup m=none)
  (h:Q (.ref g,[.ref a]) s):aS (model X.prog X.w) A (getMethod (.ref a) m pl) Q E s:=by
 obtain⟨mA,O,r,_,_,_⟩:=Hj I.hok e
 have hn:mA m=none:=RelO.none_of (by rw [<- l];exact r m)
 exact Zu I.kIn O (c.get m) k.at_ k.fn hn h
theorem Sr {y:V} {u:Value} {Q:Unit->ah->Prop} (I:Inv X pins σ H s) (e:H a=some (.ins C dx fs)) (c:Cls X.K C) (n:NoAttr X.K C f) (hl:fs.length<1000) (ry:RelV y u)
  (h:∀ s',Inv X pins σ (upd H a (.ins C dx (Ea f y fs))) s'->Q () s'):aS (model X.prog X.w) A (i5 (.ref a) f u) Q E s:=by
 obtain⟨mA,O,r,wi,_,ho⟩:=Hj I.hok e
 have hz:(fs.map (·.1)).length<=sizeLine:=by rw [aH,cr];omega
 refine aq9 I.kIn O c.sa c.po n.taker c.hd wi hz fun h' O' sb=>h _ ?_
 have hd:∃ o,h'.get? dx=some o:=let ⟨o,_,_,e',_⟩:=O'.ns;⟨o,e'⟩
 refine I.write (x:=a) (e:=dx) (by rw [e];exact bn) (.inr ho) (fun b q hb z=>(sb.2 b hb).trans z) hd ?_
 refine⟨by rw [Ap O.ne];exact ho,?_,O.ne,O'.obj,_,O'.ns,fun g=>?_,fun g hg=>?_⟩
 ·have:=Ej f y fs;omega
 ·show RelO ((Ea f y fs).lookup g) (if g=f then some u else mA g)
  rw [Ek]
  by_cases q:g=f
  ·rw [if_pos q,if_pos q];exact ry
  ·rw [if_neg q,if_neg q];exact r g
 ·by_cases q:g=f
  ·rw [q];exact (Dr f y fs).1
  ·refine (Dr f y fs).2 g (wi g fun z=>hg ?_)
   show (if g=f then some u else mA g)=none
   rw [if_neg q];exact z
theorem Inv.made (I:Inv X pins σ H s):Inv X pins σ (upd (upd H s.heap.objs.size (.own (s.heap.objs.size+1))) (s.heap.objs.size+1) (.ins C s.heap.objs.size []))
  {s with heap:=(s.heap.push bo).push (bA C s.heap.objs.size) }:=by
 have e1:(s.heap.push bo).get? s.heap.objs.size=some bo:=aL s.heap rfl
 have e2:((s.heap.push bo).push (bA C s.heap.objs.size)).get? (s.heap.objs.size+1)=some (bA C s.heap.objs.size):=by
  have:=aL (s.heap.push bo) (o:=bA C s.heap.objs.size) rfl
  rwa [cH] at this
 have e3:(s.heap.push bo).Ns s.heap.objs.size (fun _=>none):=⟨bo,#[],_,e1,rfl,(fun e he=>absurd he (by simp)),fun _=>rfl⟩
 have I1:=I.laid (a:=s.heap.objs.size) (o:=.own (s.heap.objs.size+1)) (h':=s.heap.push bo) (t':=s.toks) (fun b u q=>ag _ q) (ae _) ⟨_,e1⟩
 refine I1.laid (a:=s.heap.objs.size+1) (o:=.ins C s.heap.objs.size []) (t':=s.toks) (fun b u q=>ag _ q) (Nat.le_of_eq (cH _ _)) ?_
 have ne:s.heap.objs.size≠s.heap.objs.size+1:=bi (eM _)
 refine⟨by rw [Ap ne,Af],cY _,ne,e2,fun _=>none,(Heap.Ns1.of_empty e3).at fun o q=>ag _ q,fun _=>bn,fun y hy=>absurd rfl hy⟩
theorem ak3 {prog:aI} {w:bq} {env:Env} {e:Expr} {f:Str} {pos:Pos} {s:ah} {Q:Value->ah->Prop} (hb:fW e f env (eval e env)=eval e env)
  (h:aS (model prog w) A (eval e env) (fun o s₁=>aS (model prog w) A (iD o f true) Q E s₁) E s):aS (model prog w) A (eval (.Attribute e f pos) env) Q E s:=
 Attribute_any_ h (by rw [arm_eval_Attribute,hb])
end
section
variable {X:Cx} {o e value:Expr} {f:Str} {pos pos' tpos:Pos} {ta tv:TE}
end
section
variable {X:Cx} {pins:List (Addr×Obj)} {σ:St} {H:Hp} {s:ah} {A:bt} {E:Value->ah->Prop} {Q:Value->ah->Prop} {c:Value} {b:Bool}
inductive TyOf (K:aa) (H:Hp):V->Value->Prop where
 | non:TyOf K H .non (.type "NoneType")
 | bl (x:Bool):TyOf K H (.bl x) (.type "bool")
 | int (i:Int):TyOf K H (.int i) (.type "int")
 | str (x:Str):TyOf K H (.str x) (.type "str")
 | stk (x:Str) (n:Nat) (ex:Bool):TyOf K H (.stk x n ex) (.type "str")
 | lst {a:Addr} {xs:List V} (e:H a=some (.lst xs)):TyOf K H (.ref a) (.type "list")
 | frz {a:Addr} {o:Obj} {xs:List V} (e:H a=some (.frz o (.lst xs))):TyOf K H (.ref a) (.type "list")
 | tup {a:Addr} {xs:List V} (e:H a=some (.tup xs)):TyOf K H (.ref a) (.type "tuple")
 | dK {a:Addr} {kvs:List (Key×V)} (e:H a=some (.dK kvs)):TyOf K H (.ref a) (.type "dict")
 | dT {a:Addr} {kvs:List (List Key×V)} (e:H a=some (.dT kvs)):TyOf K H (.ref a) (.type "dict")
 | ins {a C dx:Addr} {fs:List (Str×V)} (e:H a=some (.ins C dx fs)) (cl:Cls K C) (ha:ac K (.ref C) "__class__" = some (some (.builtin "object.__class__")))
   (hn:dy K (.builtin "object.__class__") "__get__" = some (some (.builtin "getset_descriptor.__get__"))) (htk:PySem.W.takesIn K (.builtin "object.__class__")=some true)
   (hm:cZ K C (.type "object")=some true):TyOf K H (.ref a) (.ref C)
theorem Ln {x:V} {u t:Value} (I:Inv X pins σ H s) (rx:RelV x u) (ty:TyOf X.K H x t) (e:bV X.K t c=some b) (h:∀ tk,Q (.bool b) { s with toks:=tk }) :
  aS (model X.prog X.w) A (call (.builtin "isinstance") [u,c]) Q E s:=by
 cases ty with
 | non=>cases (show u=cP from rx);exact bH PySem.W.kitx_none I.kIn bn e (fun z=>nomatch z) h
 | bl y=>cases (show u=eT y from rx);exact bH PySem.W.kitx_bool I.kIn bn e (fun z=>nomatch z) h
 | int i=>obtain⟨t,q⟩:=(show ∃ t,u=ip i t from rx);cases q;exact bH PySem.W.kitx_int I.kIn bn e (fun z=>nomatch z) h
 | str y=>obtain⟨t,q⟩:=(show ∃ t,u=fg y t from rx);cases q;exact bH PySem.W.kitx_str I.kIn bn e (fun z=>nomatch z) h
 | stk y n ex=>obtain⟨t,q,_⟩:=(show ∃ t,u=fg y t/\(if ex=true then t=n else n<=t) from rx);cases q;exact bH PySem.W.kitx_str I.kIn bn e (fun z=>nomatch z) h
 | @lst a xs ea=>
  cases (show u=aC a from rx)
  obtain⟨_,_,n,_,h1⟩:=(show ObjOk X.prog X.w H s.heap a (.lst xs) from I.hok a _ ea)
  exact bH eE I.kIn ⟨_,h1,rfl⟩ e (fun z=>nomatch z) h
 | @frz a ob xs ea=>
  cases (show u=aC a from rx)
  obtain⟨_,_,_,n,_,h1⟩:=(show ObjOk X.prog X.w H s.heap a (.frz ob (.lst xs)) from I.hok a _ ea)
  exact bH eE I.kIn ⟨_,h1,rfl⟩ e (fun z=>nomatch z) h
 | @tup a xs ea=>
  cases (show u=aC a from rx)
  obtain⟨_,_,_,p⟩:=(show ObjOk X.prog X.w H s.heap a (.tup xs) from I.hok a _ ea)
  obtain⟨o,h1,h2,_⟩:=p
  exact bH ft I.kIn ⟨o,h1,h2⟩ e (fun z=>nomatch z) h
 | @dK a kvs ea=>
  cases (show u=aC a from rx)
  obtain⟨_,_,vs,_,p⟩:=(show ObjOk X.prog X.w H s.heap a (.dK kvs) from I.hok a _ ea)
  obtain⟨o,es,ep,h1,h2,_⟩:=p
  exact bH PySem.W.kitx_dict I.kIn ⟨o,h1,h2.1⟩ e (fun z=>nomatch z) h
 | @dT a kvs ea=>
  cases (show u=aC a from rx)
  obtain⟨_,_,xs,_,o,es,ep,h1,h2,_⟩:=(show ObjOk X.prog X.w H s.heap a (.dT kvs) from I.hok a _ ea)
  exact bH PySem.W.kitx_dict I.kIn ⟨o,h1,h2.1⟩ e (fun z=>nomatch z) h
 | @ins a C dx fs ea cl ha hn htk hm=>
  cases (show u=aC a from rx)
  obtain⟨mA,O,_⟩:=Hj I.hok ea
  obtain⟨od,J,_⟩:=O.look
  exact bH (PySem.W.kitx_own (cl.get _) cl.hd ha hn htk hm) I.kIn J e (fun z=>nomatch z) h
end
structure Room (k:Nat) (A:bt):Prop where
 hd:A.handled=none
 dp:A.depth+3 * k+5<recursionLimit
 un:A.units+16 * k+200<cLine
theorem Room.mono {j k:Nat} {A:bt} (r:Room k A) (h:j<=k):Room j A:=⟨r.hd,by have:=r.dp;omega,by have:=r.un;omega⟩
theorem Room.deeper {k:Nat} {A:bt} (r:Room (k+1) A) (env:Env):Room k (A.deeper env):=
 ⟨r.hd,by have:=r.dp;show A.depth+1+3 * k+5<_;omega,by have:=r.un;show A.units+3+16 * k+200<_;omega⟩
theorem Rb {A:bt} {C:Addr} {us:List Value} {kw:List (Str×Value)}:(A.under (.builtin "type.__call__" ⟨.ref C::us,kw⟩)).depth=A.depth+1:=by
 first|rfl|simp [iG,Code.weight,Code.isCreation,Code.isGuard,Code.isCaller,Code.frames,iH,guardIds]
theorem Rc {A:bt} {C:Addr} {us:List Value} {kw:List (Str×Value)}:(A.under (.builtin "type.__call__" ⟨.ref C::us,kw⟩)).units=A.units+1:=by
 first|rfl|simp [iG,Code.cUnits,Code.frames,iH]
theorem Room.make {k:Nat} {A:bt} (r:Room (k+1) A) (C:Addr) (us:List Value) (kw:List (Str×Value)):Room k (A.under (.builtin "type.__call__" ⟨.ref C::us,kw⟩)):=
 ⟨r.hd,by have:=r.dp;rw [Rb];omega,by have:=r.un;rw [Rc];omega⟩
theorem Room.depth {k:Nat} {A:bt} (r:Room k A):A.depth<recursionLimit:=by have:=r.dp;omega
theorem Room.units {k:Nat} {A:bt} (r:Room k A):A.units+64<cLine:=by have:=r.un;omega
noncomputable def cl0:TA:=fun _ H Q=>Q [] H
noncomputable def ca5 (ta:TE) (tr:TA):TA:=fun σ H Q=>ta σ H fun x H1=>tr σ H1 fun xs H2=>Q (x::xs) H2
section
variable {X:Cx} {e:Expr} {es:List Expr} {te:TE} {t:TA} {pos:Pos}
theorem bb4:PA X [] cl0:=fun _ _ _ _ H Q I h=>Calls.spliced_nil ⟨[],H,I,.nil,h⟩
theorem an7 (ha:PE X e te) (hr:PA X es t) (hs:cm (e::es) X.env=(false,eval e X.env)::cm es X.env:=by rfl):PA X (e::es) (ca5 te t):=by
 intro pos pins s σ H Q I h
 rw [hs]
 show aS _ _ (spliced ((false,eval e X.env)::gL pos (cm es X.env))) _ _ s
 refine Calls.spliced_cons (thn (ha pins s σ H _ I h) fun u s1 ⟨x,H1,I1,r1,q1⟩=>?_)
 exact thn (hr pos pins s1 σ H1 _ I1 q1) fun us s2 ⟨xs,H2,I2,r2,q2⟩=>⟨x::xs,H2,I2,.cons r1 r2,q2⟩
noncomputable def cl4 (t:TA):TE:=fun σ H Q=>t σ H fun xs H1=>xs.length<=sizeLine /\ ∀ p,H1 p=none->Q (.ref p) (upd H1 p (.tup xs))
noncomputable def ck9 (t:TA):TE:=fun σ H Q=>t σ H fun xs H1=>xs.length<=sizeLine /\ ∀ p,H1 p=none->Q (.ref p) (upd H1 p (.lst xs))
theorem bc0 {x1} (h:PA X es t):PE X (.Tuple es x1 pos) (cl4 t):=by
 intro pins s σ H Q I hq
 refine wpAny_Tuple_spliced (thn (h pos pins s σ H _ I hq) fun us s1 ⟨xs,H1,I1,r,z,q⟩=>⟨by rw [<- r.length];exact z,?_⟩)
 have hf:H1 s1.heap.objs.size=none:=I1.hok.fresh (ae _)
 refine⟨.ref s1.heap.objs.size,upd H1 s1.heap.objs.size (.tup xs),I1.laid (t':=s1.toks) (fun b u e=>ag _ e) (ae _) ?_,rfl,q _ hf⟩
 exact⟨z,us,r,⟨_,aL _ rfl,rfl,_,rfl⟩⟩
theorem bb6 (h:PA X es t):PE X (.List es pos) (ck9 t):=by
 intro pins s σ H Q I hq
 refine wpAny_List_spliced (thn (h pos pins s σ H _ I hq) fun us s1 ⟨xs,H1,I1,r,z,q⟩=>⟨by rw [<- r.length];exact z,?_⟩)
 have hf:H1 s1.heap.objs.size=none:=I1.hok.fresh (ae _)
 refine⟨.ref s1.heap.objs.size,upd H1 s1.heap.objs.size (.lst xs),I1.laid (t':=s1.toks) (fun b u e=>ag _ e) (ae _) ?_,rfl,q _ hf⟩
 exact⟨z,us,0,r,aL _ rfl⟩
end
noncomputable abbrev Sp:=List V->Hp->VK->XK->Prop
noncomputable abbrev CXT:=List Env->Hp->ah->XK->Value->ah->Prop
structure Env0 (P:aI) (w:bq) (K:aa) (mg:Str->Option Value) (base:Heap) (A:bt) (outer:List Env) (s:ah) (H:Hp):Prop where
 frames:A.frames=some outer
 mod:Mod K mg base
 bs:∀ b o,base.get? b=some o->s.heap.get? b=some o/\H b=none
 bsz:base.objs.size<=s.heap.objs.size
 funs:s.heap.FunFrames base outer
 frf:∀ b∈frs outer,H b=none
 hok:HOk P w H s.heap
 bare:fP s.gens
 tk:Tq K s.toks
noncomputable def CE (outer:List Env) (P:aI) (w:bq) (H:Hp) (s:ah) (Q:VK) (u:Value) (s':ah):Prop:=
 ∃ v H',(s'.os=s.os/\s.toks<=s'.toks)/\fP s'.gens/\Un (frs outer) [] H H' s.heap s'.heap/\HOk P w H' s'.heap/\RelV v u/\Q v H'
noncomputable def CR (CX:CXT) (outer:List Env) (P:aI) (w:bq) (H:Hp) (s:ah) (Q:VK) (E:XK) (r:iJ) (s':ah):Prop:=
 match r with
 | .ok (.ret u)=>CE outer P w H s Q u s'
 | .ok _=>False
 | .error e=>CX outer H s E e s'
structure FnOk (P:aI) (w:bq) (K:aa) (mg:Str->Option Value) (base:Heap) (CX:CXT) (k:Nat) (f:Addr) (fd:ai) (ps:List Str) (sp:Sp):Prop where
 len:∀ vs H Q E,sp vs H Q E->vs.length=ps.length
 run:∀ (A:bt) (outer:List Env) (s:ah) (H:Hp) (args:Args) (us:List Value) (vs:List V) (Q:VK) (E:XK),Room k A->Env0 P w K mg base A outer s H->iR s fd args (ps.zip us)->Vals vs us->sp vs H Q E ->
  dJ (model P w) A (.call (.ref f) args) (CR CX outer P w H s Q E) s
theorem FnOk.imp {P:aI} {w:bq} {K:aa} {mg:Str->Option Value} {base:Heap} {CX:CXT} {k:Nat} {f:Addr} {fd:ai} {ps:List Str} {sp sp':Sp} (F:FnOk P w K mg base CX k f fd ps sp)
  (h:∀ vs H Q E,sp' vs H Q E->sp vs H Q E):FnOk P w K mg base CX k f fd ps sp':=
 ⟨fun vs H Q E q=>F.len vs H Q E (h _ _ _ _ q),fun A outer s H args us vs Q E hr he hb hv hs=>F.run A outer s H args us vs Q E hr he hb hv (h _ _ _ _ hs)⟩
theorem Env0.make {P:aI} {w:bq} {K:aa} {mg:Str->Option Value} {base:Heap} {A:bt} {outer:List Env} {s:ah} {H:Hp} (e:Env0 P w K mg base A outer s H) (C:Addr) (us:List Value) (kw:List (Str×Value)) :
  Env0 P w K mg base (A.under (.builtin "type.__call__" ⟨.ref C::us,kw⟩)) outer s H:=⟨by first|exact e.frames|(simpa [iG,Code.envs,iH,pushEnvs] using e.frames),e.mod,e.bs,e.bsz,e.funs,e.frf,e.hok,e.bare,e.tk⟩
section
variable {X:Cx} {pins:List (Addr×Obj)} {σ:St} {H:Hp} {s s':ah}
theorem Inv.env0 (I:Inv X pins σ H s):Env0 X.prog X.w X.K X.mg X.base X.A X.stack s H:=
 ⟨I.ok.frames,I.ok.mod,I.bs,aM I.ok.bsz I.sz,I.stack,I.stkFree,I.hok,I.bare,bn⟩
theorem Inv.after {Q:VK} {u:Value} (I:Inv X pins σ H s) (h:CE X.stack X.prog X.w H s Q u s'):EP X pins σ Q u s':=by
 obtain⟨v,H',os,bare,un,hok,r,q⟩:=h
 obtain⟨hh,g,d,t,os'⟩:=s'
 obtain rfl:os'=s.os:=os.1
 exact⟨v,H',I.call (h':=hh) (g':=g) (d':=d) (t':=t) (ch:=[]) un hok bare (fun b z=>absurd z (by simp)) os.2,r,q⟩
end
noncomputable def Binds (K:aa) (fd:ai) (ps:List Str) (ds:List Value):Prop:=
 ∀ (s:ah) (us:List Value),K.In s.heap->(us++ds).length=ps.length->iR s fd ⟨us,[]⟩ (ps.zip (us++ds))
theorem Binds.all {K:aa} {fd:ai} {ps:List Str} (h:∀ us:List Value,us.length=ps.length->ja fd ⟨us,[]⟩=pure (ps.zip us)):Binds K fd ps []:=fun s us _ hl=>by
 rw [eW] at hl ⊢
 exact .of_eq (h us hl)
section
variable {X:Cx} {CX:CXT} {k:Nat} {f C:Addr} {fd:ai} {ps:List Str} {sp:Sp} {dvs:List V} {ds:List Value} {E:XK} {x m:Str} {p pos apos:Pos} {e o:Expr} {es:List Expr} {ta:TE} {t:TA}
structure Mk (K:aa) (C f:Addr):Prop where
 makes:aE K C=true
 init:ac K (.ref C) "__init__" = some (some (.ref f))
 fn:cC K (.ref f)=true
 kp:aj K (.ref C)=true
end
section
variable {X:Cx} {CX:CXT} {k:Nat} {f C:Addr} {fd:ai} {ps ks:List Str} {sp:Sp} {E:XK} {x m:Str} {p pos apos kpos:Pos} {e o:Expr} {es:List Expr} {kws:List iU} {te ta:TE} {t tk:TA} {nm:Option Str}
variable {g:List Value->List Value->List Value} {gV:List V->List V->List V}
end
structure Aj (N P:List Str) (sc:Scope):Prop where
 kind:sc.kind=.function
 co:sc.isCoroutine=false
 gen:sc.isGenerator=false
 nd:N.Nodup
 pre:N.take P.length=P
 par:∀ x∈P,sc.names.lookup x=some .local\/sc.names.lookup x=some .cell
 nofree:∀ y∈sc.names,y.2≠.free
theorem K8 {kindOf:Str->Option bT} {x:Str}:∀ {binds:List (Str×Value)} {m:Str->Option Value},(∀ v,(x,v)∉binds)->bindL kindOf binds m x=m x
 | [],_,_=>rfl
 | (n,v)::r,m,h=>by
  unfold bindL
  rw [K8 fun w hw=>h w (aQ _ hw)]
  split
  ·have:x≠n:=by rintro rfl;exact h v d8
   simp [this]
  ·rfl
theorem K6 {kindOf:Str->Option bT} {x:Str}:∀ {binds:List (Str×Value)} {m:Str->Option Value},(∀ v,(x,v)∉binds)->bindC kindOf binds m x=m x
 | [],_,_=>rfl
 | (n,v)::r,m,h=>by
  unfold bindC
  rw [K6 fun w hw=>h w (aQ _ hw)]
  split
  ·rfl
  ·have:x≠n:=by rintro rfl;exact h v d8
   simp [this]
theorem K7 {kindOf:Str->Option bT} {x:Str} {v:Value}:∀ {P:List Str} {vs:List Value} {i:Nat} {m:Str->Option Value},P.Nodup->P[i]? = some x->vs[i]? = some v->kindOf x=some .local ->
  bindL kindOf (P.zip vs) m x=some v
 | [],_,_,_,_,h,_,_=>by simp at h
 | _::_,[],_,_,_,_,h,_=>by simp at h
 | p::P,w::vs,0,m,nd,h1,h2,hk=>by
  simp at h1 h2;subst h1;subst h2
  show bindL kindOf ((p,w)::P.zip vs) m p=_
  unfold bindL
  rw [K8 fun v hv=>(List.nodup_cons.mp nd).1 (gF hv).1,if_pos hk]
  simp
 | p::P,w::vs,i+1,m,nd,h1,h2,hk=>by
  show bindL kindOf ((p,w)::P.zip vs) m x=_
  unfold bindL
  exact K7 (i:=i) (List.nodup_cons.mp nd).2 (by simpa using h1) (by simpa using h2) hk
theorem K5 {kindOf:Str->Option bT} {x:Str} {v:Value}:∀ {P:List Str} {vs:List Value} {i:Nat} {m:Str->Option Value},P.Nodup->P[i]? = some x->vs[i]? = some v->kindOf x≠some .local ->
  bindC kindOf (P.zip vs) m x=some v
 | [],_,_,_,_,h,_,_=>by simp at h
 | _::_,[],_,_,_,_,h,_=>by simp at h
 | p::P,w::vs,0,m,nd,h1,h2,hk=>by
  simp at h1 h2;subst h1;subst h2
  show bindC kindOf ((p,w)::P.zip vs) m p=_
  unfold bindC
  rw [K6 fun v hv=>(List.nodup_cons.mp nd).1 (gF hv).1,if_neg hk]
  simp
 | p::P,w::vs,i+1,m,nd,h1,h2,hk=>by
  show bindC kindOf ((p,w)::P.zip vs) m x=_
  unfold bindC
  exact K5 (i:=i) (List.nodup_cons.mp nd).2 (by simpa using h1) (by simpa using h2) hk
noncomputable def E8 (N:List Str) (vs:List V):St:=vs.map some++aX (N.length - vs.length) none
noncomputable def Hy (CX:CXT) (P:aI) (w:bq) (K:aa) (mg:Str->Option Value) (base:Heap) (N:List Str) (qual:Str) (scope:Scope) (f:Addr) (cd:Value) (A:bt) (outer:List Env) (s:ah) (H:Hp) (E:XK):Cx where
 prog:=P
 w:=w
 K:=K
 mg:=mg
 base:=base
 A:=A.deeper (iM qual scope s.heap.objs.size f cd)
 N:=N
 s₀:=s
 H₀:=H
 env:=iM qual scope s.heap.objs.size f cd
 outer:=outer
 stack:=iM qual scope s.heap.objs.size f cd::outer
 ex:=[]
 calm:=true
 fn:=fun _=>true
 pn:=[]
 xe:=fun e s'=>aS (model P w) (A.deeper (iM qual scope s.heap.objs.size f cd)) (leaving (iM qual scope s.heap.objs.size f cd) e) (fun _ s''=>CX outer H s E e s'') (fun e' s''=>CX outer H s E e' s'') s'
theorem Fk {sc:Scope} {n:Nat} {x:Str} (h:sc.names.lookup x=some .cell):∃ c,(cellsFrom n sc.names []).lookup x=some c:=by
 have q:=gr sc.names n [] (.inl h)
 exact Option.isSome_iff_exists.mp q
theorem Wb {CX:CXT} {P:aI} {w:bq} {K:aa} {mg:Str->Option Value} {base:Heap} {N ps:List Str} {qual:Str} {scope:Scope} {f:Addr} {cd:Value} {A:bt} {outer:List Env} {s s1:ah} {H:Hp} {E:XK} {us:List Value} {vs:List V}
  (S:Aj N ps scope) (hd:A.handled=none) (e0:Env0 P w K mg base A outer s H) (htk:s.toks<=s1.toks) (hl:vs.length=ps.length) (r:Vals vs us)
  (x:InCallC s s.heap.objs.size (bindL (iM qual scope s.heap.objs.size f cd).kindOf (ps.zip us) fun _=>none) (cellsFrom (s.heap.objs.size+1) scope.names []) (bindC (iM qual scope s.heap.objs.size f cd).kindOf (ps.zip us) fun _=>none) s1) :
  Inv (Hy CX P w K mg base N qual scope f cd A outer s H E) [] (E8 N vs) H s1:=by
 have hpl:ps.length<=N.length:=by have:=congrArg List.length S.pre;rw [bc] at this;omega
 obtain⟨h1,tk,rfl,hk⟩:=x.done
 have noA:∀ b:Addr,b∉(Hy CX P w K mg base N qual scope f cd A outer s H E).ex:=fun b z=>absurd (show b∈([]:List Addr) from z) (by simp)
 refine⟨⟨e0.mod,S.kind,rfl,rfl,ae _,fun y z c h1 h2=>?_,fun y hy=>?_,fun y c _ h=>?_,fun _=>hd,Around.frames_deeper e0.frames,.inr ⟨rfl,rfl⟩,fun b z=>absurd z (noA b),e0.bs,e0.bsz,fun b _ _=>noA b,fun b z=>absurd z (noA b),e0.funs,e0.frf,e0.tk⟩,
  ⟨rfl,htk⟩,e0.bare,Un.kept hk,⟨_,x.toInCall.ns,fun i y v h1 h2 h3=>?_⟩,fun y c h=>⟨_,x.cell y c h⟩,e0.hok.fresh (ae _),fun y c h=>?_,fun p hp=>absurd (show p∈([]:List (Addr×Obj)) from hp) (by simp),e0.hok.kept hk,?_⟩
 ·exact name_of_addr x.apart (bM h1) (bM h2)
 ·have hy:scope.names.lookup y=some .cell\/scope.names.lookup y=some .free:=hy
  rcases hy with hy|hy
  ·exact Fk hy
  ·exact absurd rfl (S.nofree _ (bM hy))
 ·exact iI (x.above y c (bM h))
 ·have hi:i<vs.length:=by
   unfold E8 at h2
   by_cases hi:i<vs.length
   ·exact hi
   ·rw [cv (by simpa using hi)] at h2
    rw [List.getElem?_replicate] at h2
    split at h2 <;> cases h2
  have ha:vs[i]? = some v:=by
   unfold E8 at h2
   rw [dM (by simpa using hi),bD] at h2
   cases e:vs[i]? with
   | none=>rw [e] at h2;cases h2
   | some a=>rw [e] at h2;cases h2;rfl
  obtain⟨u,hu,rv⟩:=r.get ha
  have hp:ps[i]? = some y:=by
   rw [<- S.pre,List.getElem?_take_of_lt (by omega)];exact h1
  have ndP:ps.Nodup:=by rw [<- S.pre];exact S.nd.sublist (List.take_sublist _ _)
  refine⟨u,rv,?_⟩
  rcases S.par y (bB hp) with k|k
  ·exact .inl ⟨k,K7 ndP hp hu k⟩
  ·obtain⟨c,e⟩:=Fk (n:=s.heap.objs.size+1) k
   refine .inr ⟨.inl k,c,e,?_⟩
   have q:=x.cell y c e
   rw [K5 ndP hp hu (by show scope.names.lookup y≠_;rw [k];decide)] at q
   exact q
 ·exact e0.hok.fresh (iI (x.above y c (bM h)))
 ·unfold E8
  show _=N.length
  rw [aq,aH,List.length_replicate]
  omega
theorem as6 {CX:CXT} {P:aI} {w:bq} {K:aa} {mg:Str->Option Value} {base:Heap} {k:Nat} {f:Addr} {name qual:Str} {params:Arguments} {body:List Stmt} {scope:Scope} {dV kV doc pm cdv ct oc:Value} {an od:Option Addr}
  {osl:Array (Option Value)} {N ps:List Str} {sp:Sp} (lk:K.lookup f=some ⟨oc,od,.func (bY name qual params body scope dV kV doc pm an cdv ct),osl⟩) (hcd:c_ K cdv qual=true) (S:Aj N ps scope)
  (len:∀ vs H Q E,sp vs H Q E->vs.length=ps.length)
  (hbody:∀ (A:bt) (outer:List Env) (s:ah) (H:Hp) (vs:List V) (Q:VK) (E:XK),Room k (A.deeper (iM qual scope s.heap.objs.size f cdv))->sp vs H Q E ->
   ∃ t,PSs (Hy CX P w K mg base N qual scope f cdv A outer s H E) body t/\t { nx:=fun _ H'=>Q .non H',rt:=Q } (E8 N vs) H) :
  FnOk P w K mg base CX (k+1) f (bY name qual params body scope dV kV doc pm an cdv ct) ps sp:=by
 refine⟨len,fun A outer s H args us vs Q E hr e0 hb r hsp=>?_⟩
 have hl:=len _ _ _ _ hsp
 have KX:K.In s.heap:=e0.mod.kin.keeps fun b o e=>(e0.bs b o e).1
 have lim:s.heap.NoLimit:=e0.mod.nolimit.keeps fun b o e=>(e0.bs b o e).1
 have hkind:∀ y∈ps.zip us,scope.names.lookup y.1=some .local\/(scope.names.lookup y.1=some .cell/\((cellsFrom (s.heap.objs.size+1) scope.names []).lookup y.1).isSome=true):=fun⟨n,v⟩ hy=>by
  rcases S.par n (gF hy).1 with q|q
  ·exact .inl q
  ·exact .inr ⟨q,gr _ _ _ (.inl q)⟩
 refine codeAny_call_function hr.depth (KX _ _ lk) rfl S.co S.gen rfl (PySem.W.codeRec_of KX hcd) (hb _ _ _ _ ?_)
 refine bu (ae _) (wpAny_newFunctionEnv_cells S.kind hkind fun env he s1 x htk=>?_)
 subst he
 refine⟨lim.keeps x.toInCall.keep,codeAny_func ?_⟩
 obtain⟨t,ht,hq⟩:=hbody A outer s H vs Q E (hr.deeper _) hsp
 have I:Inv (Hy CX P w K mg base N qual scope f cdv A outer s H E) [] (E8 N vs) H s1:=Wb S hr.hd e0 htk hl r x
 refine cg (ht [] s1 (E8 N vs) H _ I hq) (fun fl s' hs=>?_) fun e s' hs=>hs
 have fin:∀ {σ':St} {H':Hp} {v:V} {u:Value},Inv (Hy CX P w K mg base N qual scope f cdv A outer s H E) [] σ' H' s'->RelV v u->Q v H'->CE outer P w H s Q u s':=
  fun {σ' H' v u} J rv q=>⟨v,H',J.os,J.bare,J.base,J.hok,rv,q⟩
 cases fl with
 | ret u=>
  obtain⟨v,σ',H',J,rv,q⟩:=hs
  exact fin J rv q
 | next=>
  obtain⟨σ',H',J,q⟩:=hs
  exact fin (v:=V.non) (u:=cP) J rfl q
 | brk=>
  obtain⟨_,_,_,q⟩:=hs
  exact b3 q
 | cont=>
  obtain⟨_,_,_,q⟩:=hs
  exact b3 q
section
variable {X:Cx} {x:Str} {p pos:Pos} {e:Expr} {es:List Expr} {t:TA} {id T:String} {r:List V->Hp->VK->Prop}
noncomputable def tCB (r:List V->Hp->VK->Prop) (t:TA):TE:=fun σ H Q=>t σ H fun vs H1=>r vs H1 Q
theorem ac5 (hc:Bt X (.builtin id) r) (hg:Gl X x) (hm:X.mg x=none) (hv:cE x=some (.builtin id)) (ha:PA X (e::es) t) (hn:x ≠ "__name__" := by decide) (hdb:(x==("__debug__" : Str))=false:=by decide)
  (he:cm (e::es) X.env=(false,eval e X.env)::cm es X.env:=by rfl) (hpl:(gL pos (cm es X.env)).any (·.1)=false:=by rfl):PE X (.Call (.Name x p) (e::es) [] pos) (tCB r t):=by
 intro pins s σ H Q I h
 refine bU (M1 I hg hm hv ?_ hn hdb)
 exact PyProof.Rows.callWith_builtin1 (thn (ha pos pins s σ H _ I h) fun us s1 ⟨vs,H1,I1,r1,q1⟩=>hc pins s1 σ H1 vs us Q I1 r1 q1) he hpl
theorem Wn (hc:Bt X (.type T) r) (hg:Gl X x) (hm:X.mg x=none) (hv:cE x=some (.type T)) (ha:PA X (e::es) t) (hn:x ≠ "__name__" := by decide) (hdb:(x==("__debug__" : Str))=false:=by decide)
  (he:cm (e::es) X.env=(false,eval e X.env)::cm es X.env:=by rfl) (hpl:(gL pos (cm es X.env)).any (·.1)=false:=by rfl):PE X (.Call (.Name x p) (e::es) [] pos) (tCB r t):=by
 intro pins s σ H Q I h
 refine bU (M1 I hg hm hv ?_ hn hdb)
 exact e9 (thn (ha pos pins s σ H _ I h) fun us s1 ⟨vs,H1,I1,r1,q1⟩=>hc pins s1 σ H1 vs us Q I1 r1 q1) he hpl
end
end L2
namespace HT
open PySem PyProof.Rows
section
open PySem.SeqAt
open PySem.AutoSeq1 (wpAny_loadPart')
open PySem.MeetsSeq PySem.MeetsSeq2 PySem.MeetsSeq3
end
section
variable {prog:aI} {w:bq} {A:bt} {E:Value->ah->Prop} {s:ah}
theorem cat_tup {t b:Addr} {vs ws:List Value} {Q:Value->ah->Prop} (ht:i8 s.heap t vs.toArray) (hb:i8 s.heap b ws.toArray) (hv:vs≠[])
  (h1:ws=[]->Q (.ref t) s) (h2:ws≠[]->Q (.ref s.heap.objs.size) { s with heap:=s.heap.push { cls:=.type "tuple", data:=.seq (vs++ws).toArray } })
  (hsz:vs.length+ws.length<=sizeLine):aS (model prog w) A (c4 .Add (.ref t) (.ref b)) Q E s:=by
 obtain⟨⟨cls,dd,data,sl⟩,ho,hc,n,hd⟩:=id ht
 obtain⟨⟨cls2,dd2,data2,sl2⟩,ho2,hc2,n2,hd2⟩:=id hb
 simp only at hc hd hc2 hd2
 subst hc hd hc2 hd2
 have e:vs.toArray++ws.toArray=(vs++ws).toArray:=by simp
 by_cases hw:ws=[]
 ·exact iL ⟨_,ho,rfl⟩ ⟨_,ho2,rfl⟩ gh iu eD ei (dW _ _)
   (tuple_addW1 t b vs.toArray ws.toArray n n2 dd dd2 sl sl2 (by simpa using hv) (by simp [hw])) ⟨ho,ho2,h1 hw⟩
 ·refine iL ⟨_,ho,rfl⟩ ⟨_,ho2,rfl⟩ gh iu eD ei (dW _ _)
   (tuple_addW2 t b vs.toArray ws.toArray n n2 dd dd2 sl sl2 (by simpa using hv) (by simpa using hw) (by rw [au,au];exact hsz)) ⟨ho,ho2,?_⟩
  rw [e]
  exact h2 hw
noncomputable def sIx (n d:Nat):Option Int->Nat
 | none=>d
 | some v=>if v<0 then (v+(n:Int)).toNat else min v.toNat n
theorem sIx_nat (n d k:Nat):sIx n d (some (k:Int))=min k n:=by
 show (if (k:Int)<0 then ((k:Int)+(n:Int)).toNat else min (k:Int).toNat n)=min k n
 rw [if_neg (by omega),dw]
theorem bl2 (n d:Nat) (hd:d<=n) (o:Option Int):sIx n d o<=n:=by
 cases o with
 | none=>exact hd
 | some v=>
  show (if v<0 then (v+(n:Int)).toNat else min v.toNat n)<=n
  by_cases hv:v<0
  ·rw [if_pos hv];omega
  ·rw [if_neg hv];exact Nat.min_le_right _ _
theorem Tx (v:Int) (n d:Nat):(if v<0 then max (v+(n:Int)) 0 else min v (n:Int))=((sIx n d (some v):Nat):Int):=by
 show (if v<0 then max (v+(n:Int)) 0 else min v (n:Int))=(((if v<0 then (v+(n:Int)).toNat else min v.toNat n):Nat):Int)
 by_cases hv:v<0
 ·simp only [if_pos hv];omega
 ·simp only [if_neg hv];omega
theorem Qp (lo hi:Option Int) (n:Nat):dL lo hi 1 (n:Int)=(((sIx n 0 lo:Nat):Int),((sIx n n hi:Nat):Int)):=by
 have h1:¬ ((1:Int)<0):=by omega
 unfold dL
 simp only [h1,if_false]
 refine Prod.ext ?_ ?_
 ·cases lo with
  | none=>rfl
  | some v=>exact Tx v n 0
 ·cases hi with
  | none=>rfl
  | some v=>exact Tx v n n
theorem Rk (i j:Nat):cG (i:Int) (j:Int) 1=j - i:=by
 unfold cG
 have h1:(1:Int) > 0:=by omega
 simp only [h1,if_true,Int.ediv_one]
 split <;> omega
theorem Kh {v:Value} {o:Option Int} {Q:Option Int->ah->Prop} (p:ij v o) (h:Q o s):aS (model prog w) A (Builtin.Slice.slicePartIndex v) Q E s:=by
 cases p with
 | none=>exact slicePart_none h
 | int i t=>exact slicePart_int h
theorem sliceApplied_gen {sl:Addr} {vl vu:Value} {lo hi:Option Int} {n:Nat} {Q:Int×Int×Nat->ah->Prop} (hs:s.heap.IsSliceOf sl vl vu .none) (pl:ij vl lo) (pu:ij vu hi)
  (h:Q (((sIx n 0 lo:Nat):Int),1,sIx n n hi - sIx n 0 lo) s):aS (model prog w) A (fj (.ref sl) (pure (n:Int))) Q E s:=by
 obtain⟨os,hos,hcs,hds⟩:=id hs
 unfold fj Builtin.Slice.sliceFields
 refine af (af (b8 hos hds (x:=vl) rfl (af (b8 hos hds (x:=vu) rfl (af (b8 hos hds (x:=.none) rfl (al ?_)))))))
 refine af (slicePart_none ?_)
 show aS _ _ (if ((1:Int)==0)=true then _ else _) _ _ s
 rw [if_neg (by decide)]
 refine af (Kh pl (af (Kh pu (af (al ?_)))))
 show aS _ _ (match dL lo hi 1 (n:Int) with|(lo,hi)=>pure (lo,(1:Int),cG lo hi 1)) _ _ s
 rw [Qp lo hi n]
 show aS _ _ (pure (((sIx n 0 lo:Nat):Int),(1:Int),cG ((sIx n 0 lo:Nat):Int) ((sIx n n hi:Nat):Int) 1)) _ _ s
 rw [Rk]
 exact al h
theorem ac8 (xs:Array Value) (i k:Nat):((c9 k).filterMap fun (m:Nat)=>xs[((i:Int)+(m:Int) * 1).toNat]?).toArray=((xs.toList.drop i).take k).toArray:=by
 have e:(fun (m:Nat)=>xs[((i:Int)+(m:Int) * 1).toNat]?)=fun m=>xs[i+m]?:=by
  funext m
  have:((i:Int)+(m:Int) * 1).toNat=i+m:=by omega
  rw [this]
 rw [e]
 have:=pick_run xs i k
 rw [List.filterMap_map] at this
 have e2:((fun x=>xs[x]?)∘fun x=>i+x)=fun m=>xs[i+m]?:=rfl
 rw [e2] at this
 rw [this]
theorem getItem_tuple_cut {t sl:Addr} {items:Array Value} {vl vu:Value} {lo hi:Option Int} {Q:Value->ah->Prop} (ht:i8 s.heap t items) (hs:s.heap.IsSliceOf sl vl vu .none) (pl:ij vl lo) (pu:ij vu hi)
  (hw:¬ (sIx items.size 0 lo=0/\sIx items.size items.size hi=items.size))
  (h:Q (.ref s.heap.objs.size) { s with heap:=s.heap.push { cls:=.type "tuple", data:=.seq ((items.toList.drop (sIx items.size 0 lo)).take (sIx items.size items.size hi - sIx items.size 0 lo)).toArray } })
  (hsz:items.size<=sizeLine):aS (model prog w) A (ib (.ref t) (.ref sl)) Q E s:=by
 have htake:sizeOk (.seq ((items.toList.drop (sIx items.size 0 lo)).take (sIx items.size items.size hi - sIx items.size 0 lo)).toArray):=by
  show ((items.toList.drop (sIx items.size 0 lo)).take (sIx items.size items.size hi - sIx items.size 0 lo)).toArray.size<=sizeLine
  rw [au,bc,bz,dP]
  omega
 have hj:sIx items.size items.size hi<=items.size:=bl2 _ _ (ae _) hi
 obtain⟨os,hos,hcs,hds⟩:=id hs
 have hTs:s.TypeIs (.ref sl) "slice" := ⟨os,hos,hcs⟩
 unfold ib
 try with_reducible refine bR ?_
 first|refine af (al ?_)|skip
 refine af (wpAny_sequenceKey ht.typeIs (by decide) ?_)
 refine af (f9 (name:=cb "__getitem__") ht.typeIs bF
  (gj bF ht.typeIs entry_tuple_getitem ?_ (args_tuple_getitem _ _)))
 show aS _ _ (fk (.ref t) >>= _) _ _ s
 refine af (tupleItemsOf_ ht ?_)
 refine af (fu hTs ?_)
 rw [if_pos (by decide)]
 refine af (sliceApplied_gen hs pl pu ?_)
 have hno:¬ ((((sIx items.size 0 lo:Nat):Int)==0&&(1:Int)==1&&(sIx items.size items.size hi - sIx items.size 0 lo)==items.size)=true):=by
  intro q
  rw [am,am] at q
  have q1:((sIx items.size 0 lo:Nat):Int)=0:=bP q.1.1
  have q2:sIx items.size items.size hi - sIx items.size 0 lo=items.size:=bP q.2
  exact hw ⟨by omega,by omega⟩
 show aS _ _ (if (((sIx items.size 0 lo:Nat):Int)==0&&(1:Int)==1&&(sIx items.size items.size hi - sIx items.size 0 lo)==items.size)=true then _ else _) _ _ s
 rw [if_neg hno,ac8]
 first
  | exact af (m:=cM _) (cQ (al ⟨_,rfl,al h⟩) htake)
  | exact af (m:=cM _) (cQ (af (al (al ⟨_,rfl,al h⟩))) htake)
  | exact af (af (m:=cM _) (cQ (al (al ⟨_,rfl,al h⟩)) htake))
  | exact af (af (m:=cM _) (cQ (al ⟨_,rfl,al h⟩) htake))
end
end HT
namespace L2
open PySem PySem.Spec PyProof.Rows
noncomputable abbrev TO:=St->Hp->(Option Int->Hp->Prop)->Prop
noncomputable def PO (X:Cx) (e:Option Expr) (t:TO):Prop:=
 ∀ (pins:List (Addr×Obj)) (s:ah) (σ:St) (H:Hp) (Q:Option Int->Hp->Prop),Inv X pins σ H s->t σ H Q ->
  aS (model X.prog X.w) X.A (evalPart e X.env) (fun u s'=>∃ o H',Inv X pins σ H' s'/\ij u o/\Q o H') X.xe s
noncomputable def ar5:TO:=fun _ H Q=>Q none H
section
variable {X:Cx} {e:Expr} {te:TE} {lo hi:Option Expr} {tl th:TO} {pos p2:Pos}
theorem ao2:PO X none ar5:=by
 intro pins s σ H Q I h
 rw [evalPart_none]
 exact al ⟨none,H,I,.none,h⟩
noncomputable def SlR (X:Cx) (r:V->Option Int->Option Int->Hp->VK->Prop):Prop:=
 ∀ (pins:List (Addr×Obj)) (s:ah) (σ:St) (H:Hp) (x:V) (v vl vu:Value) (lo hi:Option Int) (sl:Addr) (Q:VK),Inv X pins σ H s->RelV x v->s.heap.IsSliceOf sl vl vu .none->ij vl lo->ij vu hi->r x lo hi H Q ->
  ∃ T id,dZ (.type T) "__getitem__" = pure (some (.builtin id))/\s.TypeIs v T/\aS (model X.prog X.w) X.A (ib v (.ref sl)) (EP X pins σ Q) X.xe s
noncomputable def Fm (xs:List V) (lo hi:Option Int):List V:=(xs.drop (HT.sIx xs.length 0 lo)).take (HT.sIx xs.length xs.length hi - HT.sIx xs.length 0 lo)
theorem Gx (xs:List V) (lo hi:Option Int):(Fm xs lo hi).length<=xs.length:=by
 unfold Fm
 rw [bc,bz]
 omega
noncomputable def ck3 (K:aa):V->Option Int->Option Int->Hp->VK->Prop:=fun x lo hi H Q=>∃ a xs,x=.ref a/\SqT K H a xs /\
 ¬ (HT.sIx xs.length 0 lo=0/\HT.sIx xs.length xs.length hi=xs.length) /\ ∀ p,H p=none->Q (.ref p) (upd H p (.tup (Fm xs lo hi)))
theorem bp7:SlR X (ck3 X.K):=by
 intro pins s σ H x v vl vu lo hi sl Q I rx hs pl pu h
 obtain⟨a,xs,rfl,hx,hw,q⟩:=h
 cases rx
 obtain⟨its,r,ht,hz⟩:=I.tuple hx
 have hlen:its.toArray.size=xs.length:=by rw [au];exact r.length.symm
 refine⟨"tuple", _,PyProof.Rows.slot_tuple_getitem.lookup,ht.typeIs,?_⟩
 refine HT.getItem_tuple_cut ht hs pl pu (by rw [hlen];exact hw) ?_ (by rw [hlen];exact hz)
 rw [hlen]
 refine⟨.ref s.heap.objs.size,_,I.laid (t':=s.toks) (o:=.tup (Fm xs lo hi)) (fun b ob q=>ag _ q) (ae _) ?_,rfl,q _ (I.hok.fresh (ae _))⟩
 exact⟨aM (Gx xs lo hi) hz,_,(r.drop (HT.sIx xs.length 0 lo)).take (HT.sIx xs.length xs.length hi - HT.sIx xs.length 0 lo),iT _ _⟩
noncomputable def av7 (K:aa):R2:=fun x y H Q=>∃ a b xs ys,x=.ref a/\y=.ref b/\SqT K H a xs/\SqT K H b ys/\xs≠[]/\xs.length+ys.length<=sizeLine /\
 (ys=[]->Q (.ref a) H)/\(ys≠[] -> ∀ p,H p=none->Q (.ref p) (upd H p (.tup (xs++ys))))
theorem Vals.nil_iff {xs:List V} {us:List Value} (r:Vals xs us):us=[] ↔ xs=[]:=by
 cases r with
 | nil=>simp
 | cons _ _=>simp
theorem op_catT:OpR X (c4 .Add) (av7 X.K):=by
 intro pins s σ H x y v u Q I rx ry h
 obtain⟨a,b,xs,ys,rfl,rfl,ha,hb,hx,hz,q1,q2⟩:=h
 cases rx
 cases ry
 obtain⟨its,r1,p1,_⟩:=I.tuple ha
 obtain⟨its2,r2,p2,_⟩:=I.tuple hb
 refine HT.cat_tup p1 p2 (fun z=>hx (r1.nil_iff.mp z)) (fun z=>⟨.ref a,H,I,rfl,q1 (r2.nil_iff.mp z)⟩) (fun z=>?_) (by rw [<- r1.length,<- r2.length];exact hz)
 refine⟨.ref s.heap.objs.size,_,I.laid (t':=s.toks) (o:=.tup (xs++ys)) (fun b ob q=>ag _ q) (ae _) ?_,rfl,q2 (fun w=>z (r2.nil_iff.mpr w)) _ (I.hok.fresh (ae _))⟩
 exact⟨by rw [aq];exact hz,_,r1.append r2,iT _ _⟩
end
noncomputable def ixN (n:Nat) (i:Int):Option Nat:=if 0<=i then (if i<n then some i.toNat else none) else if -(n:Int)<=i then some (i+n).toNat else none
noncomputable def atI {α:Type} (xs:List α) (i:Int):Option α:=(ixN xs.length i).bind fun j=>xs[j]?
theorem Um {n:Nat} {i:Int} {j:Nat} (h:ixN n i=some j):seqIndex? i n=some j/\j<n /\ -(n:Int)<=i/\i<n:=by
 unfold ixN at h
 by_cases h0:0<=i
 ·rw [if_pos h0] at h
  by_cases h1:i<n
  ·rw [if_pos h1] at h
   have e:i.toNat=j:=aN h
   exact⟨by rw [i4 h0 h1,e],by omega,by omega,h1⟩
  ·rw [if_neg h1] at h;cases h
 ·rw [if_neg h0] at h
  by_cases h1:-(n:Int)<=i
  ·rw [if_pos h1] at h
   have e:(i+n).toNat=j:=aN h
   exact⟨by rw [iN (by omega) h1,e],by omega,h1,by omega⟩
  ·rw [if_neg h1] at h;cases h
theorem L9 {α:Type} {xs:List α} {i:Int} {v:α} (h:atI xs i=some v):∃ j,seqIndex? i xs.length=some j/\xs[j]? = some v/\j<xs.length /\ -(xs.length:Int)<=i/\i<xs.length:=by
 unfold atI at h
 cases e:ixN xs.length i with
 | none=>rw [e] at h;cases h
 | some j=>
  rw [e] at h
  obtain⟨h1,h2,h3,h4⟩:=Um e
  exact⟨j,h1,h,h2,h3,h4⟩
noncomputable def Tp (b:Expr):Prop:=∀ o i,subscripted b false o i=operate [o,i] (ib o i)
noncomputable def IxR (X:Cx) (r:R2):Prop:=
 ∀ (value slice:Expr) (pins:List (Addr×Obj)) (s:ah) (σ:St) (H:Hp) (x y:V) (v u:Value) (Q:VK),Inv X pins σ H s->RelV x v->RelV y u->r x y H Q ->
  subscripted slice false v u=operate [v,u] (ib v u)->aS (model X.prog X.w) X.A (iw value slice v u) (EP X pins σ Q) X.xe s
noncomputable def MtR (X:Cx) (id:String) (r:V->List V->Hp->VK->Prop):Prop:=
 ∀ (pins:List (Addr×Obj)) (s:ah) (σ:St) (H:Hp) (x:V) (xs:List V) (v:Value) (us:List Value) (Q:VK),Inv X pins σ H s->RelV x v->Vals xs us->r x xs H Q ->
  aS (model X.prog X.w) X.A (call (.builtin id) (v::us)) (EP X pins σ Q) X.xe s
section
variable {X:Cx} {a b:Expr} {ta tb:TE} {pos:Pos}
theorem b25 {r:R2} (hr:IxR X r) (ha:PE X a ta) (hb:PE X b tb) (hs:Tp b):PE X (.Subscript a b pos) (tOp r ta tb):=by
 intro pins s σ H Q I h
 exact Subscript_ (a22 ha hb I h fun v u s2 x y H2 I2 rx ry q=>hr a b pins s2 σ H2 x y v u Q I2 rx ry q (hs _ _))
noncomputable def cj8 (K:aa):R2:=fun x y H Q=>∃ p xs i v,x=.ref p/\y=.int i/\SqL K H p xs/\atI xs i=some v/\Q v H
noncomputable def ck0 (K:aa):R2:=fun x y H Q=>∃ p xs i v,x=.ref p/\y=.int i/\SqT K H p xs/\atI xs i=some v/\Q v H
noncomputable def cj9:R2:=fun x y H Q=>∃ z i c,x=.str z/\y=.int i/\z.length<=sizeLine/\atI z.cps.toList i=some c/\Q (.str ⟨#[c]⟩) H
theorem al8:IxR X (cj8 X.K):=by
 intro value slice pins s σ H x y v u Q I rx ry h hs
 obtain⟨p,xs,i,z,rfl,rfl,hq,he,q⟩:=h
 cases rx
 obtain⟨t,rfl⟩:=ry
 obtain⟨its,r,pl,hz⟩:=I.list hq
 obtain⟨j,h1,h2,h3,h4,h5⟩:=L9 he
 obtain⟨w,ew,rw'⟩:=r.get h2
 have hl:=r.length
 have hn:=Fb
 have fin:EP X pins σ Q w s:=⟨z,H,I,rw',q⟩
 by_cases h0:0<=i
 ·have hj:i.toNat=j:=by
   rw [i4 h0 h5] at h1
   exact aN h1
  exact item_listR pl.isList h0 (by omega) (by rw [hj];simpa using ew) fin hs
 ·have hj:(i+(its.toArray.size:Int)).toNat=j:=by
   rw [iN (by omega) h4] at h1
   rw [au,<- hl]
   exact aN h1
  exact gv (x:=w) pl.isList.typeIs slot_list_getitem.lookup
   (wpAny_getItem_list_neg (Q:=fun r s'=>r=w/\EP X pins σ Q r s') pl.isList (by omega) (by rw [au] <;> omega) (by omega) (by rw [hj];simpa using ew) ⟨rfl,fin⟩) hs
theorem a52:IxR X (ck0 X.K):=by
 intro value slice pins s σ H x y v u Q I rx ry h hs
 obtain⟨p,xs,i,z,rfl,rfl,hq,he,q⟩:=h
 cases rx
 obtain⟨t,rfl⟩:=ry
 obtain⟨its,r,pl,hz⟩:=I.tuple hq
 obtain⟨j,h1,h2,h3,h4,h5⟩:=L9 he
 obtain⟨w,ew,rw'⟩:=r.get h2
 have hl:=r.length
 have hn:=Fb
 have fin:EP X pins σ Q w s:=⟨z,H,I,rw',q⟩
 exact gv (x:=w) pl.typeIs slot_tuple_getitem.lookup
  (getItem_tuple (j:=j) (Q:=fun r s'=>r=w/\EP X pins σ Q r s') pl (by omega) (by omega) (by rw [au,<- hl];exact h1) (by simpa using ew) ⟨rfl,fin⟩) hs
theorem a51:IxR X cj9:=by
 intro value slice pins s σ H x y v u Q I rx ry h hs
 obtain⟨z,i,c,rfl,rfl,hz,he,q⟩:=h
 obtain⟨t,rfl⟩:=rx
 obtain⟨t',rfl⟩:=ry
 obtain⟨j,h1,h2,h3,h4,h5⟩:=L9 he
 have hl:z.cps.toList.length=z.length:=by simp [iB]
 rw [hl] at h1 h4 h5
 have hn:=Fb
 exact jd (typeIs_str s z t) slot_str_getitem.lookup (getItem_str (c:=c) (by
  have e1:decide (i < -(2 ^ 63:Int))=false:=decide_eq_false (by omega)
  have e2:decide (i ≥ 2 ^ 63)=false:=decide_eq_false (by omega)
  rw [e1,e2,fQ]) (by rw [h1];simpa using h2) ⟨.str ⟨#[c]⟩,H,I.tok _,⟨_,rfl⟩,q⟩) hs
theorem Re (its:List Value) (n j:Nat) (u:Value):gQ (·.setIfInBounds j u) { cls:=.type "list", data:=.seq its.toArray n }={ cls:=.type "list", data:=.seq (its.set j u).toArray n }:=by
 simp [gQ]
theorem Inv.lst {pins:List (Addr×Obj)} {σ:St} {H:Hp} {s:ah} {p:Addr} {xs:List V} (I:Inv X pins σ H s) (h:H p=some (.lst xs)) :
  ∃ (its:List Value) (n:Nat),Vals xs its/\s.heap.get? p=some { cls:=.type "list", data:=.seq its.toArray n }/\xs.length<=sizeLine:=by
 obtain⟨z,its,n,r,e⟩:=I.hok p _ h
 exact⟨its,n,r,e,z⟩
theorem Inv.lstUpd {pins:List (Addr×Obj)} {σ:St} {H:Hp} {s:ah} {p:Addr} {xs ys:List V} {its its':List Value} {n n':Nat} {f:Obj->Obj} (I:Inv X pins σ H s) (h:H p=some (.lst xs))
  (ho:s.heap.get? p=some { cls:=.type "list", data:=.seq its.toArray n }) (hf:f { cls:=.type "list", data:=.seq its.toArray n }={ cls:=.type "list", data:=.seq its'.toArray n' }) (r:Vals ys its') (hz:ys.length<=sizeLine) (t:Nat) (ht:s.toks<=t:=by first|exact ae _|exact bh _ _|assumption|omega|(dsimp only;omega)) :
  Inv X pins σ (upd H p (.lst ys)) { s with heap:=s.heap.update p f,toks:=t }:=by
 have e:(s.heap.update p f).get? p=some { cls:=.type "list", data:=.seq its'.toArray n' }:=by
  rw [bN f ho (by rw [hf] <;> rfl),hf]
 refine I.write (x:=p) (e:=p) (by rw [h];trivial) (.inl rfl) (fun b u hb q=>(bb _ _ (dj hb)).trans q) ⟨_,e⟩ ?_
 exact⟨hz,its',n',r,e⟩
noncomputable def b42:V->V->V->Hp->(Hp->Prop)->Prop:=fun o i v H Q=>∃ p xs k j,o=.ref p/\i=.int k/\H p=some (.lst xs)/\ixN xs.length k=some j/\Q (upd H p (.lst (xs.set j v)))
theorem ag1:a17 X b42:=by
 intro pins s σ H o i v ov iv u Q I ro ri rv h
 obtain⟨p,xs,k,j,rfl,rfl,hp,hj,q⟩:=h
 cases ro
 obtain⟨t,rfl⟩:=ri
 obtain⟨its,n,r,ho,hz⟩:=I.lst hp
 obtain⟨h1,h2,h3,h4⟩:=Um hj
 have hl:=r.length
 have hn:=Fb
 have I':Inv X pins σ (upd H p (.lst (xs.set j v))) { s with heap:=s.heap.update p (gQ (·.setIfInBounds j u)) }:=
  I.lstUpd hp ho (Re its n j u) (r.set rv j) (by rw [bO];exact hz) s.toks
 by_cases h0:0<=k
 ·have hk:k.toNat=j:=by
   rw [i4 h0 h4] at h1
   exact aN h1
  exact PySem.W.ki_setAt ho h0 (by omega) (by rw [au,<- hl];exact h4) (by rw [hk];exact⟨_,I',q⟩)
 ·have hk:(k+(its.toArray.size:Int)).toNat=j:=by
   rw [iN (by omega) h3] at h1
   rw [au,<- hl]
   exact aN h1
  exact PySem.W.ki_setBack ho (by omega) (by rw [au,<- hl];exact h3) (by omega) (by rw [hk];exact⟨_,I',q⟩)
theorem Nk (lo hi:Option Int) (n:Nat):(eF lo hi none n).1=((HT.sIx n 0 lo:Nat):Int)/\(eF lo hi none n).2.1=((HT.sIx n n hi:Nat):Int)/\(eF lo hi none n).2.2=1:=by
 refine⟨?_,?_,rfl⟩
 ·cases lo with
  | none=>simp [eF,HT.sIx]
  | some i=>
   simp only [eF,HT.sIx,Option.getD_none,show (1:Int) > 0 by decide,if_true]
   by_cases h:i<0
   ·simp only [h,if_true] <;> omega
   ·simp only [h,if_false] <;> omega
 ·cases hi with
  | none=>simp [eF,HT.sIx]
  | some i=>
   simp only [eF,HT.sIx,Option.getD_none,show (1:Int) > 0 by decide,if_true]
   by_cases h:i<0
   ·simp only [h,if_true] <;> omega
   ·simp only [h,if_false] <;> omega
theorem K1 (its:List Value) (lo hi:Option Int):slicePick its.toArray lo hi none=((its.drop (HT.sIx its.length 0 lo)).take (HT.sIx its.length its.length hi - HT.sIx its.length 0 lo)).toArray:=by
 obtain⟨h1,h2,h3⟩:=Nk lo hi its.toArray.size
 unfold slicePick
 rw [h1,h2,h3]
 simp only [sliceRange_one,pick_run,au] <;> rfl
noncomputable def ck2 (K:aa):V->Option Int->Option Int->Hp->VK->Prop:=fun x lo hi H Q=>∃ a xs,x=.ref a/\SqL K H a xs /\ ∀ p,H p=none->Q (.ref p) (upd H p (.lst (Fm xs lo hi)))
theorem ar0:SlR X (ck2 X.K):=by
 intro pins s σ H x v vl vu lo hi sl Q I rx hs pl pu h
 obtain⟨a,xs,rfl,hx,q⟩:=h
 cases rx
 obtain⟨its,r,ht,hz⟩:=I.list hx
 have hlen:=r.length
 refine⟨"list", _,slot_list_getitem.lookup,ht.isList.typeIs,?_⟩
 refine wpAny_getItem_list_slice ht.isList hs pl pu .none (by simp) ?_ (by rw [au] <;> omega)
 rw [K1,<- hlen]
 refine⟨.ref s.heap.objs.size,_,I.laid (t':=s.toks) (o:=.lst (Fm xs lo hi)) (fun b ob q=>ag _ q) (ae _) ?_,rfl,q _ (I.hok.fresh (ae _))⟩
 exact⟨aM (Gx xs lo hi) hz,_,0,(r.drop (HT.sIx xs.length 0 lo)).take (HT.sIx xs.length xs.length hi - HT.sIx xs.length 0 lo),aL _ rfl⟩
noncomputable def Bn:V->Bool
 | .non=>true
 | .bl _=>true
 | .int _=>true
 | .str _=>true
 | _=>false
noncomputable def eqV:V->V->Bool
 | .non,.non=>true
 | .bl a,.bl b=>a==b
 | .bl a,.int b=>(if a then 1 else 0)==b
 | .int a,.bl b=>a==(if b then 1 else 0)
 | .int a,.int b=>a==b
 | .str a,.str b=>a==b
 | _,_=>false
theorem Q3 {A:bt} {s:ah} {y x:V} {u v:Value} (ry:RelV y u) (rx:RelV x v) (fy:Bn y=true) (fx:Bn x=true):bv A s u v (eqV y x):=by
 cases y with
 | non=>
  cases ry
  cases x with
  | non=>cases rx;exact SeqAt.EqAt.same _
  | bl b=>cases rx;exact SeqAt.EqAt.none_bool b
  | int b=>obtain⟨t,rfl⟩:=rx;exact SeqAt.EqAt.none_int b t
  | str b=>obtain⟨t,rfl⟩:=rx;exact SeqAt.EqAt.none_str b t
  | _=>exact absurd (show false=true from fx) ak
 | bl a=>
  cases ry
  cases x with
  | non=>cases rx;exact SeqAt.EqAt.bool_none a
  | bl b=>cases rx;exact SeqAt.EqAt.bool_bool a b
  | int b=>obtain⟨t,rfl⟩:=rx;exact SeqAt.EqAt.bool_int a b t
  | str b=>obtain⟨t,rfl⟩:=rx;exact SeqAt.EqAt.bool_str a b t
  | _=>exact absurd (show false=true from fx) ak
 | int a=>
  obtain⟨t',rfl⟩:=ry
  cases x with
  | non=>cases rx;exact SeqAt.EqAt.int_none a t'
  | bl b=>cases rx;exact SeqAt.EqAt.int_bool a t' b
  | int b=>obtain⟨t,rfl⟩:=rx;exact SeqAt.EqAt.int_int a t' b t
  | str b=>obtain⟨t,rfl⟩:=rx;exact il a t' b t
  | _=>exact absurd (show false=true from fx) ak
 | str a=>
  obtain⟨t',rfl⟩:=ry
  cases x with
  | non=>cases rx;exact SeqAt.EqAt.str_none a t'
  | bl b=>cases rx;exact SeqAt.EqAt.str_bool a t' b
  | int b=>obtain⟨t,rfl⟩:=rx;exact im a t' b t
  | str b=>obtain⟨t,rfl⟩:=rx;exact SeqAt.EqAt.str_str a t' b t
  | _=>exact absurd (show false=true from fx) ak
 | _=>exact absurd (show false=true from fy) ak
noncomputable def eqU (x:V) (u:Value):Bool:=match u with
 | .none=>eqV .non x
 | .bool b=>eqV (.bl b) x
 | .int i _=>eqV (.int i) x
 | .str z _=>eqV (.str z) x
 | _=>false
theorem Ze {x y:V} {u:Value} (r:RelV y u) (f:Bn y=true):eqU x u=eqV y x:=by
 cases y with
 | non=>cases r;rfl
 | bl b=>cases r;rfl
 | int i=>obtain⟨t,rfl⟩:=r;rfl
 | str z=>obtain⟨t,rfl⟩:=r;rfl
 | _=>exact absurd (show false=true from f) ak
theorem Fi {x:V}:∀ {xs:List V} {us:List Value},Vals xs us->xs.all Bn=true->us.any (eqU x)=xs.any fun y=>eqV y x
 | _,_,.nil,_=>rfl
 | y::xs,u::us,.cons r t,f=>by
  rw [bw,am] at f
  rw [d7,d7,Ze r f.1,Fi t f.2]
theorem Em {A:bt} {s:ah} {x:V} {v:Value} (rx:RelV x v) (fx:Bn x=true):∀ {xs:List V} {us:List Value},Vals xs us->xs.all Bn=true -> ∀ u∈us,bv A s u v (eqU x u)
 | _,_,.nil,_=>fun u hu=>by cases hu
 | y::xs,u::us,.cons r t,f=>fun u' hu=>by
  rw [bw,am] at f
  rcases List.mem_cons.mp hu with rfl|hu
  ·rw [Ze r f.1];exact Q3 r rx f.1 fx
  ·exact Em rx fx t f.2 u' hu
noncomputable def inV (x:V) (xs:List V):Bool:=xs.any fun y=>eqV y x
noncomputable def rIn (K:aa) (neg:Bool):R2:=fun x y H Q=>∃ p xs,y=.ref p/\(SqL K H p xs\/SqT K H p xs)/\Bn x=true/\xs.all Bn=true/\Q (.bl (if neg then !inV x xs else inV x xs)) H
theorem Wj:OpR X (bJ .In) (rIn X.K false):=by
 intro pins s σ H x y v u Q I rx ry h
 obtain⟨p,xs,rfl,hq,fx,fs,q⟩:=h
 cases ry
 rcases hq with hq|hq
 ·obtain⟨its,r,pl,hz⟩:=I.list hq
  refine SeqAt.in_listAt (eqU x) pl.isList (fun w hw=>Em rx fx r fs w (by simpa using hw)) ⟨.bl _,H,I,rfl,?_⟩
  rw [show its.toArray.any (eqU x)=its.any (eqU x) by simp,Fi r fs]
  exact q
 ·obtain⟨its,r,pl,hz⟩:=I.tuple hq
  refine SeqAt.in_tupleAt (eqU x) pl (fun w hw=>Em rx fx r fs w (by simpa using hw)) ⟨.bl _,H,I,rfl,?_⟩
  rw [show its.toArray.any (eqU x)=its.any (eqU x) by simp,Fi r fs]
  exact q
theorem M6:OpR X (bJ .NotIn) (rIn X.K true):=by
 intro pins s σ H x y v u Q I rx ry h
 obtain⟨p,xs,rfl,hq,fx,fs,q⟩:=h
 cases ry
 rcases hq with hq|hq
 ·obtain⟨its,r,pl,hz⟩:=I.list hq
  refine SeqAt.notIn_listAt (eqU x) pl.isList (fun w hw=>Em rx fx r fs w (by simpa using hw)) ⟨.bl _,H,I,rfl,?_⟩
  rw [show its.toArray.any (eqU x)=its.any (eqU x) by simp,Fi r fs]
  exact q
 ·obtain⟨its,r,pl,hz⟩:=I.tuple hq
  refine SeqAt.notIn_tupleAt (eqU x) pl (fun w hw=>Em rx fx r fs w (by simpa using hw)) ⟨.bl _,H,I,rfl,?_⟩
  rw [show its.toArray.any (eqU x)=its.any (eqU x) by simp,Fi r fs]
  exact q
theorem Md:Bt X (.builtin "len") (fun xs H Q=>∃ p ys,xs=[.ref p]/\(SqL X.K H p ys\/SqT X.K H p ys)/\Q (.int ys.length) H):=by
 intro pins s σ H xs us Q I r h
 obtain⟨p,ys,rfl,hq,q⟩:=h
 obtain⟨u,rfl,rx⟩:=F0 r
 cases rx
 have hn:=Fb
 rcases hq with hq|hq
 ·obtain⟨its,r',pl,hz⟩:=I.list hq
  have hlen:=r'.length
  exact Calls.call_len_list pl.isList (by simp only [au] <;> omega) ⟨.int ys.length,H,I.tok _,⟨s.toks+1,by rw [au,hlen]⟩,q⟩
 ·obtain⟨its,r',pl,hz⟩:=I.tuple hq
  have hlen:=r'.length
  exact len_tuple pl (by simp only [au] <;> omega) ⟨.int ys.length,H,I.tok _,⟨s.toks+1,by rw [au,hlen]⟩,q⟩
theorem Me:Bt X (.builtin "len") (fun xs H Q=>∃ z,xs=[.str z]/\z.length<=sizeLine/\Q (.int z.length) H):=by
 intro pins s σ H xs us Q I r h
 obtain⟨z,rfl,hz,q⟩:=h
 obtain⟨u,rfl,t,rfl⟩:=F0 r
 have hn:=Fb
 exact len_str (by omega) ⟨.int z.length,H,I.tok _,⟨_,rfl⟩,q⟩
theorem Mf:Bt X (.type "list") (fun xs H Q=>∃ p ys,xs=[.ref p]/\(SqL X.K H p ys\/SqT X.K H p ys) /\ ∀ l,H l=none->Q (.ref l) (upd H l (.lst ys))):=by
 intro pins s σ H xs us Q I r h
 obtain⟨p,ys,rfl,hq,q⟩:=h
 obtain⟨u,rfl,rx⟩:=F0 r
 cases rx
 have fin:∀ (its:List Value),Vals ys its->ys.length<=sizeLine -> ∀ (h':Heap) (c':Nat),(∀ b o',s.heap.get? b=some o'->h'.get? b=some o') ->
   h'.get? s.heap.objs.size=some { cls:=.type "list", dict:=none,data:=.seq its.toArray c',slots:=#[] }->EP X pins σ Q (.ref s.heap.objs.size) { s with heap:=h' }:=fun its r' hz h' c' kp e=>
  ⟨.ref s.heap.objs.size,_,I.laid (t':=s.toks) kp (ae _) (show ObjOk X.prog X.w _ h' _ (.lst ys) from⟨hz,its,c',r',e⟩),rfl,q _ (I.hok.fresh (ae _))⟩
 rcases hq with hq|hq
 ·obtain⟨its,r',pl,hz⟩:=I.list hq
  have hlen:=r'.length
  obtain⟨o,ho,hc,n,hd⟩:=pl.isList
  exact call_list_seq p (.inl rfl) ho hc hd (fun h' c' kp e=>fin its r' hz h' c' kp e) (by simp only [au] <;> omega)
 ·obtain⟨its,r',pl,hz⟩:=I.tuple hq
  have hlen:=r'.length
  obtain⟨o,ho,hc,n,hd⟩:=pl
  exact call_list_seq p (.inr rfl) ho hc hd (fun h' c' kp e=>fin its r' hz h' c' kp e) (by simp only [au] <;> omega)
theorem Kt:Bt X (.type "tuple") (fun xs H Q=>∃ p ys,xs=[.ref p]/\((SqL X.K H p ys /\ ∀ l,H l=none->Q (.ref l) (upd H l (.tup ys)))\/(SqT X.K H p ys/\Q (.ref p) H))):=by
 intro pins s σ H xs us Q I r h
 obtain⟨p,ys,rfl,h⟩:=h
 obtain⟨u,rfl,rx⟩:=F0 r
 cases rx
 rcases h with ⟨hq,q⟩|⟨hq,q⟩
 ·obtain⟨its,r',pl,hz⟩:=I.list hq
  have hlen:=r'.length
  refine call_tuple_list pl.isList (fun h' kp=>?_) (by simp only [au] <;> omega)
  have I1:Inv X pins σ H { s with heap:=h' }:=I.kept (t':=s.toks) kp
  have I2:Inv X pins σ (upd H h'.objs.size (.tup ys)) { s with heap:=h'.push { cls:=.type "tuple", data:=.seq its.toArray } }:=
   I1.laid (t':=s.toks) (fun b o e=>ag _ e) (ae _) (show ObjOk X.prog X.w _ _ _ (.tup ys) from⟨hz,its,r',iT _ _⟩)
  exact⟨.ref h'.objs.size,_,I2,rfl,q _ (I1.hok.fresh (ae _))⟩
 ·obtain⟨its,r',pl,hz⟩:=I.tuple hq
  exact call_tuple_same pl ⟨.ref p,H,I,rfl,q⟩
noncomputable def tyV (K:aa) (T:String) (x:V) (H:Hp):Prop:=match x with
 | .str _=>T = "str"
 | .int _=>T = "int"
 | .ref p=>(T = "list" /\ ∃ xs,SqL K H p xs)\/(T = "tuple" /\ ∃ o,K.lookup p=some o/\o.cls=.type "tuple" /\ o.dict=none) \/
   (T = "dict" /\ ((∃ kvs,H p=some (.dK kvs)) \/ ∃ kvs,H p=some (.dT kvs)))\/(T = "set" /\ ∃ S n,H p=some (.set S n))
 | _=>False
theorem aj0 {pins:List (Addr×Obj)} {σ:St} {H:Hp} {s:ah} {T:String} {x:V} {v:Value} (I:Inv X pins σ H s) (r:RelV x v) (ty:tyV X.K T x H) :
  s.TypeIs v T /\ ∀ a,v=.ref a -> ∃ ob,s.heap.get? a=some ob/\ob.dict=none:=by
 cases x with
 | str z=>
  obtain⟨t,rfl⟩:=r
  cases (show T = "str" from ty)
  exact⟨typeIs_str s z t,fun _ e=>nomatch e⟩
 | int i=>
  obtain⟨t,rfl⟩:=r
  cases (show T = "int" from ty)
  exact⟨gR s i t,fun _ e=>nomatch e⟩
 | ref p=>
  cases r
  rcases ty with ⟨rfl,xs,hq⟩|⟨rfl,o,hk,hc,hd⟩|⟨rfl,hk⟩|⟨rfl,S,n,hk⟩
  ·obtain⟨its,_,pl,_⟩:=I.list hq
   refine⟨pl.isList.typeIs,fun a e=>?_⟩
   cases e
   obtain⟨o,n,e,c,hd,_⟩:=pl
   exact⟨o,e,hd⟩
  ·refine⟨⟨o,I.kIn p o hk,hc⟩,fun a e=>?_⟩
   cases e
   exact⟨o,I.kIn _ o hk,hd⟩
  ·have z:∃ o,s.heap.get? p=some o/\o.ExactDict:=by
    rcases hk with ⟨kvs,hk⟩|⟨kvs,hk⟩
    ·obtain⟨_,_,_,_,o,_,_,e,ex,_⟩:=I.hok p _ hk
     exact⟨o,e,ex⟩
    ·obtain⟨_,_,_,_,o,_,_,e,ex,_⟩:=I.hok p _ hk
     exact⟨o,e,ex⟩
   obtain⟨o,e,ex⟩:=z
   refine⟨⟨o,e,ex.1⟩,fun a e2=>?_⟩
   cases e2
   exact⟨o,e,ex.2.1⟩
  ·obtain⟨o,_,_,_,e,ex,_⟩:=I.hok p _ hk
   refine⟨⟨o,e,ex.1⟩,fun a e2=>?_⟩
   cases e2
   exact⟨o,e,ex.2.1⟩
 | _=>exact b3 ty
variable {o e:Expr} {es:List Expr} {to:TE} {t:TA} {name:Str} {apos cpos:Pos} {T id:String} {r:V->List V->Hp->VK->Prop}
end
noncomputable def MtM (X:Cx) (id:String) (r:V->List V->Hp->VK->Prop):Prop:=
 ∀ (pins:List (Addr×Obj)) (s:ah) (σ:St) (H:Hp) (x:V) (xs:List V) (v:Value) (us:List Value) (Q:VK),Inv X pins σ H s->RelV x v->Vals xs us->r x xs H Q ->
  aS (model X.prog X.w) X.A (call (.builtin id) (v::us)) (EP X pins σ Q) X.xe s
theorem Vals.one:∀ {x:V} {us:List Value},Vals [x] us -> ∃ u,us=[u]/\RelV x u
 | _,_,.cons r .nil=>⟨_,rfl,r⟩
theorem Vals.two:∀ {x y:V} {us:List Value},Vals [x,y] us -> ∃ u v,us=[u,v]/\RelV x u/\RelV y v
 | _,_,_,.cons r (.cons q .nil)=>⟨_,_,rfl,r,q⟩
theorem Vals.rep {xs:List V} {us:List Value} (h:Vals xs us):∀ k:Nat,Vals (aX k xs).flatten (aX k us).flatten
 | 0=>.nil
 | k+1=>by
  rw [b7,b7,cN,cN]
  exact Vals.append h (Vals.rep h k)
theorem Et (its:List Value):∀ (k:Nat) (acc:List Value),
  fJ (fun x1 x2=>x1++x2) acc.toArray (aX k its.toArray)=(acc++(aX k its).flatten).toArray
 | 0,acc=>by simp
 | k+1,acc=>by
  have e:acc.toArray++its.toArray=(acc++its).toArray:=by simp
  have e2:(acc++its)++(aX k its).flatten=acc++(aX (k+1) its).flatten:=by
   rw [b7,cN,List.append_assoc]
  rw [<- e2,<- Et its k (acc++its),<- e,b7,List.foldl_cons]
section
variable {X:Cx} {pins:List (Addr×Obj)} {σ:St} {H:Hp} {s:ah} {l b:Addr} {xs ys zs:List V}
theorem Inv.lset {its its':List Value} {n:Nat} {f:Array Value->Array Value} {t':Nat} (I:Inv X pins σ H s) (hH:H l=some (.lst xs))
  (e:s.heap.get? l=some { cls:=.type "list", data:=.seq its.toArray n }) (hf:f its.toArray=its'.toArray) (hv:Vals ys its') (hz:ys.length<=sizeLine) (ht:s.toks<=t':=by first|exact ae _|exact bh _ _|assumption|omega|(dsimp only;omega)) :
  Inv X pins σ (upd H l (.lst ys)) { s with heap:=s.heap.update l (gQ f),toks:=t' }:=by
 have q:=PySem.IsL.update e f
 rw [hf] at q
 refine I.write (x:=l) (e:=l) (by rw [hH];exact trivial) (.inl rfl) (fun b' u hb hu=>(bb s.heap (gQ f) (dj hb)).trans hu) ⟨_,q⟩ ?_
 exact⟨hz,its',_,hv,q⟩
theorem Inv.lnew {its:List Value} {t':Nat} (I:Inv X pins σ H s) (hv:Vals ys its) (hz:ys.length<=sizeLine) (ht:s.toks<=t':=by first|exact ae _|exact bh _ _|assumption|omega|(dsimp only;omega)) :
  Inv X pins σ (upd H s.heap.objs.size (.lst ys)) { s with heap:=s.heap.push { cls:=.type "list", data:=.seq its.toArray },toks:=t' }:=
 I.laid (fun _ _ q=>ag _ q) (ae _) ⟨hz,its,0,hv,aL _ rfl⟩ ht
theorem Inv.fresh (I:Inv X pins σ H s):H s.heap.objs.size=none:=I.hok.fresh (ae _)
theorem Inv.lstM (I:Inv X pins σ H s) (hH:H l=some (.lst xs)):xs.length<=sizeLine /\ ∃ (its:List Value) (n:Nat),Vals xs its/\xs.length=its.length/\s.heap.get? l=some { cls:=.type "list", data:=.seq its.toArray n }:=by
 obtain⟨z,its,n,r,e⟩:=I.hok l _ hH
 exact⟨z,its,n,r,r.length,e⟩
theorem ab9 {n:Nat} (h:n<=sizeLine):dU n=false:=by
 unfold dU
 exact decide_eq_false (by omega)
end
section
variable {X:Cx}
noncomputable def D3:V->List V->Hp->VK->Prop:=fun x vs H Q=>∃ l xs y,x=.ref l/\vs=[y]/\H l=some (.lst xs)/\xs.length<sizeLine/\Q .non (upd H l (.lst (xs++[y])))
theorem Lr:MtM X "list.append" D3:=by
 intro pins s σ H x vs v us Q I rx rv h
 obtain⟨l,xs,y,rfl,rfl,hH,hz,q⟩:=h
 cases rx
 obtain⟨u,rfl,ru⟩:=rv.one
 obtain⟨z,its,n,r,hl,e⟩:=I.lstM hH
 refine dY F.slot_list_append ⟨_,e,rfl⟩ F.entry_list_append (F.args_list_append_2 _ _) (PySem.list_append l its.toArray n u (by rw [au];omega)) ⟨e,?_⟩
 refine⟨.non,_,I.lset (its':=its++[u]) hH e (by simp) (r.append (.cons ru .nil)) ?_,rfl,q⟩
 rw [aq,List.length_singleton]
 omega
noncomputable def b39:R2:=fun x y H Q=>∃ l b xs zs,x=.ref l/\y=.ref b/\H l=some (.lst xs)/\H b=some (.lst zs)/\xs.length+zs.length<=sizeLine /\ ∀ p,H p=none->Q (.ref p) (upd H p (.lst (xs++zs)))
theorem op_cat:OpR X (c4 .Add) b39:=by
 intro pins s σ H x y v u Q I rx ry h
 obtain⟨l,b,xs,zs,rfl,rfl,hH,hB,hz,q⟩:=h
 cases rx
 cases ry
 obtain⟨z,its,n,r,hl,e⟩:=I.lstM hH
 obtain⟨z2,its2,n2,r2,hl2,e2⟩:=I.lstM hB
 refine PySem.P.add_list e e2 ?_ (by rw [au,au];omega)
 have ea:its.toArray++its2.toArray=(its++its2).toArray:=by simp
 rw [ea]
 exact⟨.ref _,_,I.lnew (t':=s.toks) (r.append r2) (by rw [aq];omega),rfl,q _ I.fresh⟩
noncomputable def b41:R2:=fun x y H Q=>∃ l k xs,x=.ref l/\y=.int k/\H l=some (.lst xs) /\ -(2 ^ 63)<=k/\k<2 ^ 63/\xs.length * k.toNat<=sizeLine /\
 ∀ p,H p=none->Q (.ref p) (upd H p (.lst (aX k.toNat xs).flatten))
theorem M3 {α:Type} (xs:List α) (k:Nat):(aX k xs).flatten.length=k * xs.length:=by
 induction k with
 | zero=>simp
 | succ k ih=>rw [b7,cN,aq,ih,Nat.succ_mul,Nat.add_comm]
theorem op_rep:OpR X (c4 .Mult) b41:=by
 intro pins s σ H x y v u Q I rx ry h
 obtain⟨l,k,xs,rfl,rfl,hH,h1,h2,hz,q⟩:=h
 cases rx
 obtain⟨t,rfl⟩:=ry
 obtain⟨z,its,n,r,hl,e⟩:=I.lstM hH
 have hlen:its.toArray.size * k.toNat<=sizeLine:=by rw [au,<- hl];exact hz
 have hcap:¬ its.toArray.size * k.toNat > (2 ^ 63 - 1) / 8:=by
  have:(sizeLine:Nat)<=(2 ^ 63 - 1) / 8:=by decide
  omega
 have hfit:¬ (!Builtin.List.listFitsIndex k)=true:=by
  rw [fitsIndex_both h1 h2]
  exact ak
 have hlong:¬ dU (its.toArray.size * k.toNat)=true:=by
  rw [ab9 hlen]
  exact ak
 have hnew:fJ (fun x1 x2=>x1++x2) #[] (aX (if its.toArray.isEmpty=true then 0 else k.toNat) its.toArray)=(aX k.toNat its).flatten.toArray:=by
  have f0:∀ m:Nat,fJ (fun x1 x2=>x1++x2) #[] (aX m its.toArray)=(aX m its).flatten.toArray:=fun m=>by
   have:=Et its m []
   rw [gE] at this
   exact this
  rw [f0]
  cases its with
  | nil=>simp
  | cons a r'=>rw [if_neg (by simp)]
 refine fD (T := "list") (U := "int") (by decide) ⟨_,e,rfl⟩ (fun s'=>gR s' k t) noFill_list_mul F.fills_int_mul eV repeat_list F.slot_int_index.lookup
  (dY eV (gR s k t) F.entry_int_rmul (F.args_int_rmul_2 _ _) (int___rmul___int_list k t l its.toArray n)
   ⟨e,rfl,⟨_,e,rfl⟩,dY F.slot_list_mul ⟨_,e,rfl⟩ F.entry_list_mul (F.args_list_mul_2 _ _) (AutoListH.list___mul___list_int_3 l its.toArray n k t hfit hcap hlong) ⟨e,?_⟩⟩)
 rw [hnew]
 exact⟨.ref _,_,I.lnew (t':=s.toks) (r.rep k.toNat) (by rw [M3,Nat.mul_comm];exact hz),rfl,q _ I.fresh⟩
end
section
variable {prog:aI} {w:bq} {A:bt} {E:Value->ah->Prop} {s:ah}
set_option maxRecDepth 100000 in
end
section
variable {X:Cx}
end
end L2
namespace Att
open PySem PySem.W PySem.Calls PyProof.Rows
theorem Hd {P:Params} {h:Heap}:∀ (ns:List Int) (vs:List Value),WellAll P h vs (ns.map WData.int)->i7 vs ns:=by
 intro ns
 induction ns with
 | nil=>
  intro vs w
  rw [eI] at w
  cases w
  exact .nil
 | cons n ns ih=>
  intro vs w
  rw [ba] at w
  cases w with
  | cons a b=>
   cases a
   exact .cons _ _ (ih _ b)
theorem Wu {l:OpenLaw} {n:Nat} (hn:l.most=some n) {P:Params} {h:Heap} {args:List WData} {vals:List Value}
  (hpre:l.row.toRowW.claim.pre args=true) (hwl:WellAll P h vals args) :
  ∃ a vs ns,vals=[aC a]/\args=[WData.list (ns.map WData.int)]/\h.get? a=some { cls:=.type "list", data:=.seq vs.toArray }/\i7 vs ns/\ns.length<=n:=by
 have hsh:WShape.hasAll [] args [.list .int]=true:=(pre_splitW hpre).1
 have hc:l.pre.holds [] { args:=args }=true:=(pre_splitW hpre).2
 obtain⟨d,r,rfl,h1,h2⟩:=hasAllW_cons hsh
 obtain rfl:=hasAllW_nil h2
 obtain⟨xs,rfl,h3⟩:=hasW_list h1
 obtain⟨ns,rfl⟩:=items_int h3
 have hlen:ns.length<=n:=by
  unfold OpenLaw.pre at hc
  have h4:(WTm.not (.lt (.lit (.int (n:Int))) (.len (.arg 0)))).holds [] { args:=[.list (ns.map .int)] }=true:=by
   have h4:=(holds_andW hc).1
   rw [hn] at h4
   exact h4
  have h5:=condW_of h4 (w_not (w_lt w_lit (w_len_list (w_arg rfl))))
  rw [aH] at h5
  refine Nat.le_of_not_lt fun q=>?_
  have q':(n:Int)<((ns.length:Nat):Int):=by omega
  first
   | (rw [decide_eq_true q'] at h5;exact absurd h5 (by decide))
   | (simp at h5;omega)
 cases hwl with
 | cons w1 w2=>
  cases w2
  cases w1 with
  | list ho hall=>exact⟨_,_,ns,rfl,rfl,ho,Hd ns _ hall,hlen⟩
theorem Wp (l:OpenLaw) (args:List WData):l.row.toRowW.claim.post args (.bool true) args=true:=
 postW_of (r:=l.row.toRowW) (X:=(true==true))
  (show WShape.has [] (.bool true) .bool=true by first|rfl|decide|simp [WShape.has,WShape.arms,WShape.armsAll])
  (show (WTm.eq .res (.lit (.bool true))).value [] { args:=args,res:=some (.bool true),after:=args }=some (.bool (true==true)) from w_eq_bool (w_res rfl) w_lit) rfl
theorem attach_call {l:OpenLaw} {n:Nat} {q:aI} {loose:List Str} {XP:(Str->Option Value)->Heap->Prop} {YP:bq->Heap->Prop} {d:DefRec}
  (hn:l.most=some n) (hdf:d.params.defaults=[])
  (call:∀ (w:bq) (s₀ s₁:ah) (mg mb:Str->Option Value) (fa:Addr) (o:Obj) (pm cd doc:Value) (a:Addr) (vs:List Value) (ns:List Int),
   Ground q loose [] XP w s₀ mg mb s₁.heap->YP w s₁.heap ->
   s₁.heap.get? fa=some o->o.data=.func (docDef d.name d.params d.body d.scope pm cd doc)->s₁.heap.CodeRec cd d.name->mg d.name=some (.ref fa) ->
   s₁.heap.get? a=some { cls:=.type "list", data:=.seq vs.toArray }->i7 vs ns->ns.length<=n->s₁.gens = #[] ->
   dJ (model l.prog w) iC (.call (.ref fa) ⟨[.ref a],[]⟩) (fun r s'=>r=.ok (.ret (.bool true))/\OldK s₁.heap s'.heap/\s'.os=s₁.os/\fP s'.gens) s₁) :
  WalkO q loose XP YP l.row.toRowW d [] (fun f vs=>PySem.call f vs):=by
 intro w s₀ s₁ mg mb G Y fa o pm cd doc dV kV ho hd hcd hD hmg hg args vals as hpre hlay hrd hwl hlo
 obtain rfl:dV=.none:=Dflts.none hD hdf
 obtain rfl:kV=.none:=Dflts.noKw hD
 obtain⟨a,vs,ns,rfl,rfl,hobj,hints,hlen⟩:=Wu hn hpre hwl
 refine enter_call (eK (call w s₀ s₁ mg mb fa o pm cd doc a vs ns G Y ho (fd_plain hd) hcd hmg hobj hints hlen hg) fun r s' hq=>?_)
 obtain⟨rfl,h2,h3,h4⟩:=hq
 exact⟨.inl ⟨.bool true,.bool true,[],rfl,fun _=>rfl,.bool true,Wp l _,fun _=>⟨List.Pairwise.nil,fun _ hm=>(nomatch hm)⟩⟩,h2,h3,h4⟩
section
variable {prog:aI} {w:bq} {A:bt} {E:Value->ah->Prop} {s:ah} {K:Frag}
end
end Att
namespace L2
open PySem PySem.Spec PyProof.Rows
theorem L5:∀ {vs:List Value} {ns:List Int},i7 vs ns->Vals (ns.map V.int) vs
 | _,_,.nil=>.nil
 | _,_,.cons n t h=>.cons ⟨t,rfl⟩ (L5 h)
noncomputable def a16 (H:Hp):Prop:=∀ b,H b=none \/ ∃ o xs,H b=some (.frz o (.lst xs))
theorem ab0 {P:aI} {w:bq} {K:aa} {mg mb:Str->Option Value} {CX:CXT} {k:Nat} {fa a:Addr} {fd:ai} {x:Str} {sp:Sp} {s₁:ah} {vs:List Value} {ns:List Int}
  (KX:K.In s₁.heap) (hns:s₁.heap.Ns aw mg) (hb:s₁.heap.Ns builtinsNs mb) (hbb:∀ x:Str,x ≠ "__name__" -> mb x=cE x) (htk:Tq K s₁.toks) (hlim:s₁.heap.NoLimit) (hg:s₁.gens = #[])
  (ha:s₁.heap.get? a=some { cls:=.type "list", data:=.seq vs.toArray }) (hi:i7 vs ns) (hl:ns.length<=sizeLine) (hr:Room k iC)
  (F:∀ base:Heap,K.In base->base.Ns aw mg->FnOk P w K mg base CX k fa fd [x] sp) (hbind:∀ (s:ah) (u:Value),iR s fd ⟨[u],[]⟩ [(x,u)])
  (hsp:∀ H:Hp,a16 H->SqL K H a (ns.map V.int)->sp [.ref a] H (fun v _=>v=.bl true) fun _ _ _=>False)
  (hCX:∀ H e s',CX [] H s₁ (fun _ _ _=>False) e s'->False) :
  dJ (model P w) iC (.call (.ref fa) ⟨[.ref a],[]⟩) (fun r s'=>r=.ok (.ret (.bool true))/\OldK s₁.heap s'.heap/\s'.os=s₁.os/\fP s'.gens) s₁:=by
 have rv:=L5 hi
 have lenV:=hi.length
 have core:∀ H:Hp,a16 H->SqL K H a (ns.map V.int)->HOk P w H s₁.heap->(∀ b,H b≠none->b=a)->(H a≠none->K.lookup a=none) ->
   dJ (model P w) iC (.call (.ref fa) ⟨[.ref a],[]⟩) (fun r s'=>r=.ok (.ret (.bool true))/\OldK s₁.heap s'.heap/\s'.os=s₁.os/\fP s'.gens) s₁:=by
  intro H hO hS hok hA hK
  have base_of:∀ {b:Addr} {o:Obj},s₁.heap.get? b=some o->H b=none->(Mw s₁.heap H).get? b=some o:=fun e n=>Zv e n
  have noA:∀ {b:Addr} {o:Obj} {es:Array fI} {ep:Nat},s₁.heap.get? b=some o->o.data=.dict es ep->H b=none:=fun {b o es ep} e d=>by
   cases q:H b with
   | none=>rfl
   | some u=>
    have e':b=a:=hA b (by rw [q];simp)
    subst e'
    rw [ha] at e;cases e
    have d':Data.seq vs.toArray _=Data.dict es ep:=d
    cases d'
  have nsK:∀ {b:Addr} {m:Str->Option Value},s₁.heap.Ns b m->(Mw s₁.heap H).Ns b m:=fun {b m} ⟨o,es,ep,e,d,r⟩=>⟨o,es,ep,base_of e (noA e d),d,r⟩
  have hKb:K.In (Mw s₁.heap H):=fun b o e=>base_of (KX b o e) (by
   cases q:H b with
   | none=>rfl
   | some u=>
    have e':b=a:=hA b (by rw [q];simp)
    subst e'
    rw [hK (by rw [q];simp)] at e;cases e)
  have hM:Mod K mg (Mw s₁.heap H):=⟨hKb,nsK hns,⟨mb,nsK hb,hbb⟩,let ⟨mc,h1,h2⟩:=hlim;⟨mc,nsK h1,h2⟩⟩
  have e0:Env0 P w K mg (Mw s₁.heap H) iC [] s₁ H:=⟨rfl,hM,fun b o e=>am6 e,Nat.le_of_eq (Wa _ _),trivial,fun b hb=>absurd (show b∈([]:List Addr) from hb) (by simp),hok,.of_eq hg,htk⟩
  refine eK ((F _ hKb (nsK hns)).run iC [] s₁ H ⟨[.ref a],[]⟩ [.ref a] [.ref a] _ _ hr e0 (hbind s₁ (.ref a)) (.cons rfl .nil) (hsp H hO hS)) fun r s' h=>?_
  cases r with
  | error e=>exact (hCX H e s' h).elim
  | ok fl=>
   cases fl with
   | next=>exact b3 h
   | brk=>exact b3 h
   | cont=>exact b3 h
   | ret u=>
    obtain⟨v,H',os,bare,un,hok',r',q⟩:=h
    have q':v=.bl true:=q
    subst q'
    obtain rfl:u=eT true:=r'
    refine⟨rfl,OldK.of_keep fun b o e=>?_,os.1,bare⟩
    cases q:H b with
    | none=>exact un.keep b o e q (by intro z;exact absurd (show b∈([]:List Addr) from z) (by simp)) (by simp)
    | some u=>
     rcases hO b with z|⟨ob,xs,z⟩
     ·rw [q] at z;cases z
     ·have z2:=un.frzs b ob _ z
      obtain⟨e1,_⟩:=hok b _ z
      obtain⟨e2,_⟩:=hok' b _ z2
      rw [e] at e1;cases e1
      exact e2
 cases hk:K.lookup a with
 | some o=>
  have e:=KX a o hk
  rw [ha] at e
  cases e
  refine core (fun _=>none) (fun _=>.inl rfl) (.inr ⟨_,vs.toArray,_,hk,rfl,rfl,rfl,by rw [au,lenV];exact hl,by rw [aW];intro v hv;obtain⟨i,_,rfl⟩:=List.mem_map.mp hv;rfl,by simpa using rv⟩) (fun b u z=>by have z':(none:Option HO)=some u:=z;cases z') (fun b z=>absurd rfl z) fun z=>absurd rfl z
 | none=>
  refine core (fun b=>if b=a then some (.frz { cls:=.type "list", data:=.seq vs.toArray } (.lst (ns.map V.int))) else none) (fun b=>?_) (.inl (.inr ⟨{ cls:=.type "list", data:=.seq vs.toArray },if_pos rfl⟩)) (fun b u z=>?_) (fun b z=>?_) fun _=>hk
  ·by_cases hb:b=a
   ·exact .inr ⟨_,_,if_pos hb⟩
   ·exact .inl (if_neg hb)
  ·by_cases hb:b=a
   ·have z':=(if_pos hb).symm.trans z
    cases z'
    subst hb
    exact⟨ha,by rw [aH];exact hl,vs,_,rv,ha⟩
   ·have z':=(if_neg hb).symm.trans z
    cases z'
  ·by_cases hb:b=a
   ·exact hb
   ·exact absurd (if_neg hb) z
theorem walk_of {l:gI} {n k:Nat} {q:aI} {loose:List Str} {XP:(Str->Option Value)->Heap->Prop} {YP:bq->Heap->Prop} {d:DefRec} {K:Params->aa} {CX:bq->CXT} {sp:bq->Sp} {x:Str}
  (hT:∀ (w:bq) (m:Nat),Tq (K w.params) m) (hn:l.most=some n) (hn2:n<=sizeLine) (hdf:d.params.defaults=[]) (hr:Room k iC)
  (hY:∀ (w:bq) (h:Heap),YP w h->(K w.params).In h)
  (F:∀ (w:bq) (mg:Str->Option Value) (fa:Addr) (h:Heap),(K w.params).In h->h.Ns aw mg->mg d.name=some (.ref fa) ->
   ∃ fd:ai,(∀ (s:ah) (u:Value),iR s fd ⟨[u],[]⟩ [(x,u)]) /\
    ∀ base:Heap,(K w.params).In base->base.Ns aw mg->FnOk l.prog w (K w.params) mg base (CX w) k fa fd [x] (sp w))
  (hsp:∀ (w:bq) (H:Hp) (a:Addr) (ns:List Int),ns.length<=n->a16 H->SqL (K w.params) H a (ns.map V.int)->sp w [.ref a] H (fun v _=>v=.bl true) fun _ _ _=>False)
  (hCX:∀ (w:bq) (H:Hp) (s:ah) (e:Value) (s':ah),CX w [] H s (fun _ _ _=>False) e s'->False) :
  PySem.W.WalkO q loose XP YP l.row.toRowW d [] (fun f vs=>PySem.call f vs):=by
 refine Att.attach_call hn hdf fun w s₀ s₁ mg mb fa o pm cd doc a vs ns G Y ho hd hcd hmg hobj hints hlen hg=>?_
 have KX:=hY w _ Y
 obtain⟨fd,hb,hF⟩:=F w mg fa _ KX G.T.g hmg
 exact ab0 KX G.T.g G.T.b G.T.builtins (hT _ _) G.T.nolimit hg hobj hints (aM hlen hn2) hr hF hb (fun H hO hS=>hsp w H a ns hlen hO hS) fun H e s'=>hCX w H s₁ e s'
end L2
namespace L2
open PySem PySem.Spec PyProof.Rows
noncomputable def A3 (s:Stmt) (j:Nat):Stmt:=match s with
 | .ClassDef _ _ _ body _ _ _ _ _ _ _=>body.getD j (.Pass ⟨0,0,0,0⟩)
 | _=>.Pass ⟨0,0,0,0⟩
noncomputable def B9 (s:Stmt):Arguments:=match s with
 | .FunctionDef _ a _ _ _ _ _ _ _ _=>a
 | _=>{ posonlyargs:=[],args:=[],vararg:=none,kwonlyargs:=[],kw_defaults:=[],kwarg:=none,defaults:=[] }
noncomputable def Ai (s:Stmt):List Stmt:=match s with
 | .FunctionDef _ _ b _ _ _ _ _ _ _=>b
 | _=>[]
noncomputable def Ab (s:Stmt):Scope:=match s with
 | .FunctionDef _ _ _ _ _ _ sc _ _ _=>sc
 | _=>{ kind:=.function,names:=[],isGenerator:=false,isCoroutine:=false }
noncomputable abbrev CX0:CXT:=fun _ _ _ _ _ _=>False
structure Fun (K:aa) (x qual:Str) (st:Stmt) (f:Addr) (fd:ai):Prop where
 ex:∃ (oc:Value) (od:Option Addr) (kV doc pm:Value) (an:Option Addr) (cdv ct:Value) (osl:Array (Option Value)),
  fd=bY x qual (B9 st) (Ai st) (Ab st) .none kV doc pm an cdv ct/\K.lookup f=some ⟨oc,od,.func fd,osl⟩/\c_ K cdv qual=true
 kp:aj K (.ref f)=true
section
variable {P:aI} {w:bq} {K:aa} {mg:Str->Option Value} {base:Heap}
theorem Fun.binds {x qual:Str} {st:Stmt} {f:Addr} {fd:ai} {ps:List Str} (F:Fun K x qual st f fd)
  (h:∀ (kV doc pm:Value) (an:Option Addr) (cdv ct:Value) (us:List Value),us.length=ps.length->ja (bY x qual (B9 st) (Ai st) (Ab st) .none kV doc pm an cdv ct) ⟨us,[]⟩=pure (ps.zip us)):Binds K fd ps []:=by
 obtain⟨oc,od,kV,doc,pm,an,cdv,ct,osl,rfl,lk,hcd⟩:=F.ex
 exact .all (h kV doc pm an cdv ct)
theorem Q5 {x qual:Str} {st:Stmt} {f:Addr} {oc:Value} {od an:Option Addr} {osl:Array (Option Value)} {kV doc pm cdv ct:Value} (l:K.lookup f=some ⟨oc,od,.func (bY x qual (B9 st) (Ai st) (Ab st) .none kV doc pm an cdv ct),osl⟩)
  (c:c_ K cdv qual=true) (k:aj K (.ref f)=true):Fun K x qual st f (bY x qual (B9 st) (Ai st) (Ab st) .none kV doc pm an cdv ct):=⟨⟨oc,od,kV,doc,pm,an,cdv,ct,osl,rfl,l,c⟩,k⟩
end
section
variable {X:Cx}
end
theorem D9 {A B:Prop} (h:B):if false=true then A else B:=by
 rw [if_neg ak]
 exact h
theorem E4 {A B:Prop} (h:A):if true=true then A else B:=by
 rw [if_pos rfl]
 exact h
theorem A2 {c A B:Prop} [Decidable c] (h1:c->A) (h2:¬ c->B):if c then A else B:=by
 by_cases h:c
 ·rw [if_pos h]
  exact h1 h
 ·rw [if_neg h]
  exact h2 h
noncomputable def Same (H H':Hp):Prop:=∀ b o,H b=some o->H' b=some o
theorem Same.refl (H:Hp):Same H H:=fun _ _ h=>h
theorem Same.trans {H H1 H2:Hp} (a:Same H H1) (b:Same H1 H2):Same H H2:=fun c o h=>b c o (a c o h)
theorem Same.free {H H':Hp} (e:Same H H') {l:Addr} (h:H' l=Option.none):H l=Option.none:=by
 cases q:H l with
 | none=>rfl
 | some o=>
  rw [e l o q] at h
  cases h
noncomputable def Cx.comp (X:Cx) (N':List Str) (scope:Scope) (cl:List (Str×Addr)) (fp:List Addr) (C:Addr) (s:ah) (H:Hp) (xe:Value->ah->Prop):Cx:=
 {prog:=X.prog,w:=X.w,K:=X.K,mg:=X.mg,base:=X.base,A:=X.A,N:=N',s₀:=s,H₀:=H,env:=jb scope cl C X.env,outer:=X.stack,stack:=X.stack,
  ex:=fp,fn:=fun x=>(cl.lookup x).isNone,calm:=X.calm,pn:=[],xe:=xe }
noncomputable def Vw (srcs:List (Option Nat)) (σ:St):St:=srcs.map fun o=>o.bind fun j=>(σ[j]?).join
structure Hr (X:Cx) (N':List Str) (srcs:List (Option Nat)) (scope:Scope) (cl:List (Str×Addr)):Prop where
 clos:closureFor scope X.env=pure cl
 nocell:∀ y∈scope.names,y.2≠.cell
 kind:scope.kind=.function
 names:∀ y∈scope.names,y.2=.local->scope.names.lookup y.1=some .local
 sub:∀ x c,cl.lookup x=some c->X.env.cells.lookup x=some c
 has:∀ x,((fB scope X.env).names.lookup x=some .cell\/(fB scope X.env).names.lookup x=some .free) -> ∃ c,cl.lookup x=some c
 len:srcs.length=N'.length
 src:∀ (k j:Nat) (x:Str),N'[k]? = some x->srcs[k]? = some (some j)->X.N[j]? = some x/\(X.env.scope.names.lookup x=some .cell\/X.env.scope.names.lookup x=some .free) /\
  ((fB scope X.env).names.lookup x=some .cell\/(fB scope X.env).names.lookup x=some .free)
noncomputable def Vj (X:Cx) (ifs:List Expr) (t:TT):Prop:=
 ∀ (pins:List (Addr×Obj)) (s:ah) (σ:St) (H:Hp) (Q:Bool->Hp->Prop),Inv X pins σ H s->t σ H Q ->
  aS (model X.prog X.w) X.A (forIn ifs true fun c r=>if r=true then do let ok <- isTrue c X.env (eval c X.env);pure (dn ok) else pure (dn r)) (TP X pins σ Q) X.xe s
noncomputable def cl6:TT:=fun _ H Q=>Q true H
theorem ac9 {X:Cx}:Vj X [] cl6:=fun _ _ _ H _ I h=>wpAny_tests_nil ⟨H,I,h⟩
theorem ad0 {X:Cx} {c:Expr} {t:TT} (h:PT X c t):Vj X [c] t:=fun pins s σ H Q I q=>wpAny_tests_one (h pins s σ H Q I q)
noncomputable def ai6 (srcs:List (Option Nat)) (wi:TI) (g:TG) (tc:TT) (te:TE):TE:=fun σ H Q=>wi σ H fun J H1=>∀ D,H1 D=none ->
 ∃ W:Nat->Nat->St->Hp->Prop,(∃ m,W 0 m (Vw srcs σ) (upd H1 D (.lst []))) /\ ∀ i m σ' H',W i m σ' H' ->
  (J.stop i H'/\Q (.ref D) H')\/(J.go i H' /\ ∃ N:St->Hp->Prop,(∀ σ2 H2,N σ2 H2 -> ∃ m',m'<m/\W (i+1) m' σ2 H2) /\ ∀ x H2,J.yld i H' x H2->g x σ' H2 fun σ3 H3=>tc σ3 H3 fun b H4=>if b=true then
    te σ3 H4 fun v H5=>∃ ys,H5 D=some (.lst ys)/\ys.length<sizeLine/\N σ3 (upd H5 D (.lst (ys++[v])))
   else N σ3 H4)
section
variable {g:TG} {tc:TT} {te:TE} {D:Addr} {R:Hp->Prop} {σ:St} {H:Hp}
end
section
variable {prog:aI} {w:bq} {A:bt} {E:Value->ah->Prop} {R:iJ->ah->Prop} {s:ah}
theorem Mj {elt target iter:Expr} {ifs:List Expr} {scope:Scope} {pos:Pos} {it acc:Value} {env:Env} (I:Nat->ah->Prop)
  (turn:∀ n s,I n s->aS (model prog w) A (pyNext it) (fun r s₁=>match r with
   | none=>R (.ok .next) s₁
   | some v=>aS (model prog w) A (fh target it v) (fun _ s₀=>aS (model prog w) A (iK target env v) (fun _ s₂=>
     aS (model prog w) A (forIn ifs true fun c r=>if r=true then do let ok <- isTrue c env (eval c env);pure (dn ok) else pure (dn r)) (fun ok s₃=>
      if ok=true then aS (model prog w) A (eval elt env) (fun x s₄=>
       aS (model prog w) A (call (.builtin "list.append") [acc,x]) (fun _ s₅=>∃ m,m<n/\I m s₅) (iE (model prog w) A env fun e s'=>R (.error e) s') s₄) (iE (model prog w) A env fun e s'=>R (.error e) s') s₃
      else ∃ m,m<n/\I m s₃) (iE (model prog w) A env fun e s'=>R (.error e) s') s₂) (iE (model prog w) A env fun e s'=>R (.error e) s') s₀) (iE (model prog w) A env fun e s'=>R (.error e) s') s₁) (iE (model prog w) A env fun e s'=>R (.error e) s') s)
  (n:Nat) (h:I n s) :
  dJ (model prog w) A (.compLoop (.ListComp elt [⟨target,iter,ifs,0⟩] scope pos) 0 it acc env) R s:=by
 refine codeAny_loop rfl I (fun n s hI=>?_) n h
 show aS _ A ((compTurn (.ListComp elt [⟨target,iter,ifs,0⟩] scope pos) 0 it acc env).onRaise (fun x=>do ir x env;theTreesLotGoes x)) _ _ s
 refine wpAny_noted ?_
 rw [compTurn_list]
 refine af (c6 (af (cg (turn n s hI) (fun r s₁ h₁=>?_) fun _ _ h'=>h')))
 cases r with
 | none=>exact al h₁
 | some v=>
  refine af (cg h₁ (fun _ s₀ h₀=>?_) fun _ _ h'=>h')
  refine af (cg h₀ (fun _ s₂ h₂=>af (cg h₂ (fun ok s₃ h₃=>?_) fun _ _ h'=>h')) fun _ _ h'=>h')
  cases ok with
  | false=>exact al ⟨rfl,h₃⟩
  | true=>
   exact af (af (cg h₃ (fun x s₄ h₄=>af (cg h₄ (fun _ s₅ h₅=>al (al ⟨rfl,h₅⟩)) fun _ _ h'=>h')) fun _ _ h'=>h'))
end
section
variable {X:Cx} {elt tg iter:Expr} {ifs:List Expr} {scope:Scope} {pos:Pos} {N':List Str} {srcs:List (Option Nat)} {cl:List (Str×Addr)} {wi:TI} {g:TG} {tc:TT} {te:TE}
theorem Qt {xe:Value->ah->Prop} {pins:List (Addr×Obj)} {σ:St} {H:Hp} {s:ah} {fp:List Addr} {C D:Addr} {h₁:Heap} {tk:Nat} (S:Hr X N' srcs scope cl) (I:Inv X pins σ H s) (f:∀ b∈fp,Do X pins H b) (fo:∀ b∈fp,b<s.heap.objs.size)
  (hD:s.heap.objs.size<=D) (hC:s.heap.objs.size<=C) (hDC:C≠D) (hns:∃ m,h₁.Ns C m) (old:∀ b o,s.heap.get? b=some o->h₁.get? b=some o) (hacc:∃ n,h₁.get? D=some { cls:=.type "list", data:=.seq ([]:List Value).toArray n }) (ht:s.toks<=tk:=by first|exact ae _|exact bh _ _|assumption|omega|(dsimp only;omega)) :
  Inv (X.comp N' scope cl fp C s H xe) [] (Vw srcs σ) (upd H D (.lst [])) { s with heap:=h₁,toks:=tk }:=by
 have hfD:=I.hok.fresh hD
 have ok:(X.comp N' scope cl fp C s H xe).Ok:=by
  refine⟨I.ok.mod,S.kind,I.ok.glob,I.ok.blt,hC,fun x y c a b=>I.ok.inj x y c (S.sub x c a) (S.sub y c b),S.has,fun x c hf hl=>?_,I.ok.hd,I.ok.frames,.inl rfl,fun b hb=>⟨?_,fun x c hl=>?_⟩,I.bs,aM I.ok.bsz I.sz,fun b o e hb=>?_,fun b hb hfs=>?_,I.stack,I.stkFree,bn⟩
  ·have hl':cl.lookup x=some c:=hl
   have hf':(cl.lookup x).isNone=true:=hf
   rw [hl'] at hf'
   cases hf'
  ·exact bi (aD (fo b hb) hC)
  ·exact (f b hb).2.2.2.2.1 x c (S.sub x c hl)
  ·rcases (f b hb).2.2.2.1 with z|z
   ·exact I.ok.noex b o e z
   ·exact absurd (aD (aJ e) (aM I.ok.bsz z)) (eh _)
  ·rcases List.mem_cons.mp (I.stkSub b hfs) with z|z
   ·exact (f b hb).2.1 z
   ·exact (f b hb).2.2.1 z
 obtain⟨m0,hns⟩:=hns
 obtain⟨nn,hacc⟩:=hacc
 refine⟨ok,⟨rfl,ht⟩,I.bare,Un.laid old hD hfD,⟨m0,hns,fun k x v e1 e2 e3=>?_⟩,fun x c hl=>?_,?_,fun x c hl=>?_,fun p hp=>absurd (show p∈([]:List (Addr×Obj)) from hp) (by simp),I.hok.laid old hD ⟨cY _,[],nn,.nil,hacc⟩,?_⟩
 ·-- the captured names
  have e1:N'[k]? = some x:=e1
  have e2:(srcs.map fun o=>o.bind fun j=>(σ[j]?).join)[k]? = some (some v):=e2
  rw [bD] at e2
  cases hk:srcs[k]? with
  | none=>rw [hk] at e2;cases e2
  | some o=>
   rw [hk] at e2
   cases o with
   | none=>cases e2
   | some j=>
    have e2':(σ[j]?).join=some v:=aN e2
    have e3':σ[j]? = some (some v):=by
     cases hj:σ[j]? with
     | none=>rw [hj] at e2';cases e2'
     | some y=>rw [hj] at e2';exact congrArg some e2'
    obtain⟨a1,a2,a3⟩:=S.src k j x e1 hk
    obtain⟨m,hn,hl⟩:=I.loc
    obtain⟨u,r,l⟩:=hl j x v a1 e3' (a2.elim (fun z=>.inr (.inl z)) fun z=>.inr (.inr z))
    refine⟨u,r,.inr ⟨a3,?_⟩⟩
    obtain⟨c,hc⟩:=S.has x a3
    refine⟨c,hc,?_⟩
    rcases l with ⟨z,_⟩|⟨_,c',hc',o,ho,hd⟩
    ·have z':X.env.scope.names.lookup x=some .local:=z
     rcases a2 with q|q <;> rw [q] at z' <;> cases z'
    ·have e:=S.sub x c hc
     rw [hc'] at e
     cases e
     exact⟨o,old _ o ho,hd⟩
 ·obtain⟨v,o,ho,hd⟩:=I.cell x c (S.sub x c hl)
  exact⟨v,o,old _ o ho,hd⟩
 ·show upd H D (.lst []) C=none
  rw [Ap hDC]
  exact I.hok.fresh hC
 ·have hx:=S.sub x c hl
  obtain⟨v,o,ho,hd⟩:=I.cell x c hx
  rw [Ap (bi (aD (aJ ho) hD))]
  exact I.freeC x c hx
 ·show (Vw srcs σ).length=N'.length
  unfold Vw
  rw [aH,S.len]
noncomputable def Bk (X:Cx) (scope:Scope) (cl:List (Str×Addr)) (use:Option (Value->Sem Unit)) (Q2:Value->ah->Prop) (D C:Addr):Value->ah->Prop:=
 iE (model X.prog X.w) X.A (jb scope cl C X.env) fun e s'=>compPost (model X.prog X.w) X.A X.xe use Q2 (.ref D) C (.error e) s'
theorem Lc {pins:List (Addr×Obj)} {s:ah} {σ:St} {H:Hp} {Q:VK} {use:Option (Value->Sem Unit)} {Q2:Value->ah->Prop} (hc:X.calm=true) (S:Hr X N' srcs scope cl) (hi:PI X tg iter wi)
  (hb:∀ fp C D s2 H2,Inv X pins σ H2 s2->(∀ b∈fp,Do X pins H2 b)->s2.heap.objs.size<=C->PG (X.comp N' scope cl fp C s2 H2 (Bk X scope cl use Q2 D C)) tg g/\Vj (X.comp N' scope cl fp C s2 H2 (Bk X scope cl use Q2 D C)) ifs tc/\PE (X.comp N' scope cl fp C s2 H2 (Bk X scope cl use Q2 D C)) elt te)
  (I:Inv X pins σ H s) (h:ai6 srcs wi g tc te σ H Q)
  (fin:∀ (D C:Addr) (H':Hp) (s':ah),Inv X pins σ H' s'->(∃ m,s'.heap.Ns C m)->Do X pins H' C->Q (.ref D) H'->compPost (model X.prog X.w) X.A X.xe use Q2 (.ref D) C (.ok .next) s')
  (hs:∀ x,dz iter X.env x=pure x) :
  aS (model X.prog X.w) X.A (comprehension (.ListComp elt [⟨tg,iter,ifs,0⟩] scope pos) scope X.env (firstIterPos [⟨tg,iter,ifs,0⟩] pos) (newList []) false (eval iter X.env) use) Q2 X.xe s:=by
 refine wpAny_comprehension_free rfl hs S.clos S.kind S.names (thn (hi pins s σ H _ I h) fun v s1 h1=>thn h1 fun itv s2 h2=>?_)
 obtain⟨it,fp,tn,J,H2,e,I2,T,st2,f2,q2⟩:=h2
 subst e
 refine cQ (wpAny_newFunctionEnv S.nocell (by intro y hy;simp at hy) (fun h₁ hns₁ hsb₁=>?_) S.kind)
 dsimp only at hns₁ hsb₁ ⊢
 generalize hH2:s2.heap.push { cls:=.type "list", dict:=none,data:=.seq ([]:List Value).toArray }=G2 at hns₁ hsb₁ ⊢
 have hCe:G2.objs.size=s2.heap.objs.size+1:=by rw [<- hH2,cH]
 have hDC:G2.objs.size≠s2.heap.objs.size:=by rw [hCe];exact gG (eM _)
 have hCle:s2.heap.objs.size<=G2.objs.size:=by rw [hCe];exact du _
 have old:∀ b o,s2.heap.get? b=some o->h₁.get? b=some o:=fun b o e=>
  hsb₁.extBut b o (bi (aD (aJ e) hCle)) (ag _ (hH2▸ag _ e))
 have hacc:∃ n,h₁.get? s2.heap.objs.size=some { cls:=.type "list", data:=.seq ([]:List Value).toArray n }:=⟨_,hsb₁.extBut _ _ (dj hDC) (ag _ (hH2▸aL _ rfl))⟩
 have fo:∀ b∈fp,b<s2.heap.objs.size:=fun b hb=>by
  obtain⟨o,ho,_⟩:=T.obj _ _ st2 b hb
  exact aJ ho
 have st3:tn 0 h₁:=T.keep _ _ _ st2 fun b _ o e=>old b o e
 obtain⟨hg,ht,he⟩:=hb fp G2.objs.size s2.heap.objs.size s2 H2 I2 f2 hCle
 obtain⟨W,⟨m0,w0⟩,turn⟩:=q2 s2.heap.objs.size (I2.hok.fresh (ae _))
 have loop:∀ s3:ah,s3={ s2 with heap:=h₁,toks:=s2.toks+([]:List (Str×Value)).length } ->
   dJ (model X.prog X.w) X.A (.compLoop (.ListComp elt [⟨tg,iter,ifs,0⟩] scope pos) 0 (.ref it) (.ref s2.heap.objs.size) (jb scope cl G2.objs.size X.env))
    (compPost (model X.prog X.w) X.A X.xe use Q2 (.ref s2.heap.objs.size) G2.objs.size) s3:=by
  rintro s3 rfl
  have I3:Inv (X.comp N' scope cl fp G2.objs.size s2 H2 (Bk X scope cl use Q2 s2.heap.objs.size G2.objs.size)) [] (Vw srcs σ) (upd H2 s2.heap.objs.size (.lst [])) { s2 with heap:=h₁,toks:=s2.toks+([]:List (Str×Value)).length }:=
   Qt S I2 f2 fo (ae _) hCle hDC ⟨_,hns₁⟩ old hacc
  have stat:∀ {H':Hp},(∀ b∈fp,H' b=none) -> ∀ b∈fp,Do (X.comp N' scope cl fp G2.objs.size s2 H2 (Bk X scope cl use Q2 s2.heap.objs.size G2.objs.size)) [] H' b:=fun hn b hb=>
   ⟨hn b hb,bi (aD (fo b hb) hCle),(fun z=>(List.mem_cons.mp (I2.stkSub b z)).elim (f2 b hb).2.1 (f2 b hb).2.2.1),.inl hb,fun x c hl=>(f2 b hb).2.2.2.2.1 x c (S.sub x c hl),fun p hp=>absurd (show p∈([]:List (Addr×Obj)) from hp) (by simp)⟩
  refine Mj (fun n s'=>∃ i σ' H',Inv (X.comp N' scope cl fp G2.objs.size s2 H2 (Bk X scope cl use Q2 s2.heap.objs.size G2.objs.size)) [] σ' H' s'/\tn i s'.heap/\(∀ b∈fp,H' b=none)/\W i n σ' H') ?_ m0
   ⟨0,_,_,I3,st3,fun b hb=>by rw [Ap (bi (fo b hb))];exact (f2 b hb).1,w0⟩
  rintro n s4 ⟨i,σ4,H4,I4,st4,fr4,w4⟩
  rcases turn i n σ4 H4 w4 with ⟨stop,qn⟩|⟨go,NN,hNN,step⟩
  ·refine thn (T.done (X.comp N' scope cl fp G2.objs.size s2 H2 (Bk X scope cl use Q2 s2.heap.objs.size G2.objs.size)) rfl rfl rfl hc i [] s4 σ4 H4 _ I4 (stat fr4) st4 stop) fun r s5 ⟨hr,I5⟩=>?_
   subst hr
   obtain⟨m5,hn5,_⟩:=id I5.loc
   have I6:Inv X pins σ H4 s5:=I2.call' (ch:=fp) I5.os I5.base I5.hok I5.bare fun b hb=>⟨(f2 b hb).2.2.2.1,(f2 b hb).2.1,(f2 b hb).2.2.2.2.1,(f2 b hb).2.2.2.2.2⟩
   exact fin _ _ H4 s5 I6 ⟨m5,hn5⟩ (I2.fpOk hCle I5.free) qn
  ·refine thn (T.item (X.comp N' scope cl fp G2.objs.size s2 H2 (Bk X scope cl use Q2 s2.heap.objs.size G2.objs.size)) rfl rfl rfl hc i [] s4 σ4 H4 _ I4 (stat fr4) st4 go) fun r s5 ⟨u,hr,h5⟩=>?_
   subst hr
   refine thn h5 fun _ s6 ⟨x,H6,I6,r6,y6,st6,fr6⟩=>?_
   have I6':=I6.pinned (stat fr6) (T.obj _ _ st6)
   refine thn (hg _ s6 σ4 H6 x u _ I6' r6 (step x H6 y6)) fun _ s7 ⟨σ7,H7,I7,q7⟩=>?_
   have again:∀ {s9:ah} {H9:Hp},Inv (X.comp N' scope cl fp G2.objs.size s2 H2 (Bk X scope cl use Q2 s2.heap.objs.size G2.objs.size)) ([]++Gp fp s6.heap) σ7 H9 s9->NN σ7 H9 ->
     ∃ m,m<n /\ ∃ i σ' H',Inv (X.comp N' scope cl fp G2.objs.size s2 H2 (Bk X scope cl use Q2 s2.heap.objs.size G2.objs.size)) [] σ' H' s9/\tn i s9.heap/\(∀ b∈fp,H' b=none)/\W i m σ' H':=fun {s9 H9} I9 n9=>by
    obtain⟨m',hm,w9⟩:=hNN σ7 H9 n9
    refine⟨m',hm,i+1,σ7,H9,I9.unpinned,T.keep _ _ _ st6 fun b hb o e=>(I9.pin (b,o) (bg _ (bg _ (D1 hb e)))).1,fun b hb=>?_,w9⟩
    obtain⟨o,e,d⟩:=T.obj _ _ st6 b hb
    exact (I9.pin (b,o) (bg _ (bg _ (D1 hb e)))).2.1
   refine thn (ht _ s7 σ7 H7 _ I7 q7) fun b s8 ⟨H8,I8,q8⟩=>?_
   cases b with
   | false=>
    rw [if_neg ak] at q8
    exact again I8 q8
   | true=>
    rw [if_pos rfl] at q8
    refine thn (he _ s8 σ7 H8 _ I8 q8) fun y s9 ⟨v9,H9,I9,r9,ys,hD,hlen,w9⟩=>?_
    refine thn (Lr (X:=X.comp N' scope cl fp G2.objs.size s2 H2 (Bk X scope cl use Q2 s2.heap.objs.size G2.objs.size)) ([]++Gp fp s6.heap) s9 σ7 H9 (.ref s2.heap.objs.size) [v9] (.ref s2.heap.objs.size) [y] (fun _ H'=>H'=upd H9 s2.heap.objs.size (.lst (ys++[v9]))) I9 rfl (.cons r9 .nil)
     ⟨_,ys,v9,rfl,rfl,hD,hlen,rfl⟩) fun _ s10 ⟨_,H10,I10,_,e10⟩=>?_
    subst e10
    exact again I10 w9
 exact codeAny_compStart_list (loop _ rfl) (T.self X.A 0 _ _ _ st3 (loop _ rfl))
theorem Za {pins:List (Addr×Obj)} {s:ah} {σ:St} {H:Hp} {Q:VK} (hc:X.calm=true) (S:Hr X N' srcs scope cl) (hi:PI X tg iter wi)
  (hb:∀ Q2 fp C D s2 H2,Inv X pins σ H2 s2->(∀ b∈fp,Do X pins H2 b)->s2.heap.objs.size<=C->PG (X.comp N' scope cl fp C s2 H2 (Bk X scope cl none Q2 D C)) tg g/\Vj (X.comp N' scope cl fp C s2 H2 (Bk X scope cl none Q2 D C)) ifs tc/\PE (X.comp N' scope cl fp C s2 H2 (Bk X scope cl none Q2 D C)) elt te)
  (I:Inv X pins σ H s) (h:ai6 srcs wi g tc te σ H Q) (hs:∀ x,dz iter X.env x=pure x) :
  aS (model X.prog X.w) X.A (eval (.ListComp elt [⟨tg,iter,ifs,0⟩] scope pos) X.env) (EP X pins σ Q) X.xe s:=by
 rw [eval_ListComp]
 refine Lc (use:=none) hc S hi (fun fp C D s2 H2=>hb _ fp C D s2 H2) I h (fun D C H' s' I' ns fo q=>?_) hs
 obtain⟨m,hn⟩:=ns
 obtain⟨f0,f1,f2,f3,f4,f5⟩:=fo
 exact⟨m,hn,fun h' sb=>⟨.ref D,H',I'.turned (t':=s'.toks) (fun b o hb e=>(sb.2 b hb).trans e) f0 f1 f3 f4 f5,rfl,q⟩⟩
theorem Y9 {i:Nat} {x:Str} {pos' spos:Pos} {pins:List (Addr×Obj)} {s:ah} {σ:St} {H:Hp} {D:Kr} (hc:X.calm=true) (hN:X.N.Nodup) (hx:X.N[i]? = some x) (hl:X.env.scope.names.lookup x=some .local) (S:Hr X N' srcs scope cl) (hi:PI X tg iter wi)
  (hb:∀ us Q2 fp C D s2 H2,Inv X pins σ H2 s2->(∀ b∈fp,Do X pins H2 b)->s2.heap.objs.size<=C->PG (X.comp N' scope cl fp C s2 H2 (Bk X scope cl us Q2 D C)) tg g/\Vj (X.comp N' scope cl fp C s2 H2 (Bk X scope cl us Q2 D C)) ifs tc/\PE (X.comp N' scope cl fp C s2 H2 (Bk X scope cl us Q2 D C)) elt te)
  (I:Inv X pins σ H s) (h:bp9 (ai6 srcs wi g tc te) (Zp i) D σ H)
  (hsw:fO (.ListComp elt [⟨tg,iter,ifs,0⟩] scope pos) (some (.Name x pos')) spos.line X.env=pure true) (hs:∀ x,dz iter X.env x=pure x) :
  aS (model X.prog X.w) X.A (exec (.Assign [.Name x pos'] (.ListComp elt [⟨tg,iter,ifs,0⟩] scope pos) spos) X.env) (SP X pins D) X.xe s:=by
 rw [exec_Assign_Name_used _ _ _ _ hsw]
 refine af (c6 (af ?_))
 show aS _ X.A (do let _ <- comprehension (.ListComp elt [⟨tg,iter,ifs,0⟩] scope pos) scope X.env _ (newList []) false (eval iter X.env) (some (iK (.Name x pos') X.env))) _ _ s
 refine af (thn (Lc (use:=some (iK (.Name x pos') X.env)) (Q:=fun v H'=>D.nx (σ.set i (some v)) H') (Q2:=fun _ s'=>SP X pins D .next s') hc S hi (fun fp C D s2 H2=>hb _ _ fp C D s2 H2) I h (fun L C H' s' I' ns fo q=>?_) hs) fun _ s' hq=>al (al hq))
 obtain⟨m,hn⟩:=ns
 obtain⟨f0,f1,f2,f3,f4,f5⟩:=fo
 obtain⟨oC,es,ep,hoC,hd,hr⟩:=id hn
 have I2:Inv X (pins++[(C,oC)]) σ H' s':=I'.pins_of fun p hp=>(List.mem_append.mp hp).elim (fun z=>I'.pin p (bg _ z)) fun z=>by
  have z':p=(C,oC):=by simpa using z
  subst z'
  exact⟨hoC,f0,f1,f2,fun v e=>by rw [hd] at e;cases e⟩
 refine wpAny_assign_Name (Fy (i:=i) (v:=.ref L) I2 hN hx (.inl hl) rfl (fun s2 I3=>?_) (.inr hl))
 have hoC':=(I3.pin (C,oC) (bg _ (bg _ (by simp)))).1
 refine⟨m,⟨oC,es,ep,hoC',hd,hr⟩,fun h' sb=>?_⟩
 exact⟨_,H',(I3.unpinned).turned (t':=s2.toks) (fun b o hb e=>(sb.2 b hb).trans e) f0 f1 f3 f4 f5,q⟩
end
noncomputable def Its (x:Str):It:=⟨fun i _=>i<x.cps.size,fun i H v H'=>H'=H /\ ∃ c,x.cps[i]? = some c/\v=.str ⟨#[c]⟩,fun i _=>i=x.cps.size⟩
theorem ai9 {P:aI} {w:bq} {K:aa} {tg:Expr} (it:Addr) (x:Str) (t:Tok) (ty:String) (hty:ty = "str_ascii_iterator" \/ ty = "str_iterator") :
  O6 P w K tg (Its x) [it] it (fun i h=>h.IsStrIter it ty x t i) where
 mem:=by simp
 obj:=fun i h st b hb=>by
  have e:b=it:=by simpa using hb
  subst e
  obtain⟨o,e,c,d⟩:=st
  exact⟨o,e,fun v z=>by rw [d] at z;cases z⟩
 keep:=fun i h h' st k=>by
  obtain⟨o,e,r⟩:=st
  exact⟨o,k it (by simp) o e,r⟩
 item:=by
  intro X hP hw hK hc i pins s σ H E I hf st hg
  subst hP hw hK
  obtain⟨f0,f1,f2,f3,f4,f5⟩:=hf it (by simp)
  have W:jf X.prog X.w X.A it [it] [it] x.cps.size (SignAt x) (fun i h=>h.IsStrIter it ty x t i):=by
   rcases hty with rfl|rfl
   ·exact Walks.strAscii (I.ok.hd hc) it x t
   ·exact Walks.strWide (I.ok.hd hc) it x t
  refine bu (ae _) (W.item i s _ _ hg st fun v h' tk hv st' kk htk=>?_)
  obtain⟨c,u,hcp,rfl⟩:=hv
  have I1:Inv X pins σ H { s with heap:=h',toks:=tk }:=I.turned (fun b o hb e=>kk b o (by simpa using hb) e) f0 f1 f3 f4 f5
  obtain⟨o,e,cc,d⟩:=id st'
  exact⟨_,rfl,Lh (s:={ s with heap:=h',toks:=tk }) e cc d (by rcases hty with rfl|rfl <;> decide) ⟨.str ⟨#[c]⟩,H,I1,⟨_,rfl⟩,⟨rfl,c,hcp,rfl⟩,st',fun b hb=>(hf b hb).1⟩⟩
 done:=by
  intro X hP hw hK hc i pins s σ H E I hf st hg
  subst hP hw hK
  obtain⟨f0,f1,f2,f3,f4,f5⟩:=hf it (by simp)
  have hg:i=x.cps.size:=hg
  subst hg
  have W:jf X.prog X.w X.A it [it] [it] x.cps.size (SignAt x) (fun i h=>h.IsStrIter it ty x t i):=by
   rcases hty with rfl|rfl
   ·exact Walks.strAscii (I.ok.hd hc) it x t
   ·exact Walks.strWide (I.ok.hd hc) it x t
  exact bu (ae _) (W.done s _ _ st fun h' tk kk htk=>⟨rfl,I.turned (fun b o hb e=>kk b o (by simpa using hb) e) f0 f1 f3 f4 f5⟩)
 self:=by
  intro A i s Q E st h
  rcases hty with rfl|rfl
  ·exact wpAny_pyIter_striter_ascii st h
  ·exact wpAny_pyIter_striter_wide st h
section
variable {X:Cx} {tg:Expr}
end
section
variable {X:Cx} {pins:List (Addr×Obj)} {σ:St} {H:Hp} {s:ah} {h':Heap} {ch:List Addr} {t':Nat}
theorem Inv.turnedN {T:Addr} {o:HO} (I:Inv X pins σ H s) (hf:∀ b∈ch,Do X pins H b) (k:∀ b o,b∉ch->s.heap.get? b=some o->h'.get? b=some o) (hT:s.heap.objs.size<=T) (new:ObjOk X.prog X.w (upd H T o) h' T o) (ht:s.toks<=t':=by first|exact ae _|exact bh _ _|assumption|omega|(dsimp only;omega)) :
  Inv X pins σ (upd H T o) { s with heap:=h',toks:=t' }:=by
 have tr:∀ b ob,H b=some ob->b∉ch:=fun b ob e hb=>by rw [(hf b hb).1] at e;cases e
 have hn:=I.hok.fresh hT
 have nT:∀ {b o},s.heap.get? b=some o->b≠T:=fun e=>bi (aD (aJ e) hT)
 refine I.step (g':=s.gens) (d':=s.drawn) (ch:=ch) (fun b hb=>⟨(hf b hb).2.2.2.1,(hf b hb).2.1,(hf b hb).2.2.2.2.1,(hf b hb).2.2.2.2.2⟩) (fun b o _ _ hb e _=>k b o hb e) (fun b o _ _ hb e _=>⟨o.slots,k b o hb e⟩) (fun b o _ e n=>by rw [Ap (nT e)];exact n) (fun b o hb e=>⟨o,k b o hb e⟩)
  (fun b zs e=>by rw [Ap (Ba e hn)];exact e) (fun b o zs e=>by rw [Ap (Ba e hn)];exact e) (fun b ps e=>⟨#[],by rw [Ap (Ba e hn),e];simp⟩) (fun m hm=>?_) (fun b ob e=>?_) I.bare
 ·obtain⟨o,es,ep,ho,r⟩:=hm
  exact⟨o,es,ep,k _ o (fun z=>(hf _ z).2.1 rfl) ho,r⟩
 ·by_cases hb:b=T
  ·subst hb
   rw [Af] at e
   cases e
   exact new
  ·rw [Ap hb] at e
   refine (I.hok b ob e).stay (fun b' w' hc' q=>k b' w' ?_ q) (fun b' q=>by rw [Ap (Ba q hn)];exact q) fun b' zs q=>by rw [Ap (Ba q hn)];exact q
   rcases hc' with rfl|hc'
   ·exact tr _ _ e
   ·exact tr _ _ hc'
end
section
variable {X:Cx}
end
theorem Wr {bs:List Bool}:(c9 bs.length).all (fun i=>bs.getD i true)=bs.all fun b=>b:=by
 rw [cK,aW,aW]
 constructor
 ·intro h b hb
  obtain⟨i,hi,e⟩:=List.mem_iff_getElem.mp hb
  have q:=h i (List.mem_range.mpr hi)
  rw [bK,a9 hi,e] at q
  exact q
 ·intro h i hi
  have hi:=List.mem_range.mp hi
  rw [bK,a9 hi]
  exact h _ (bW hi)
section
variable {X:Cx}
theorem Y5 (hc:X.calm=true):Bt X (.builtin "all") (fun xs H Q=>∃ (p:Addr) (bs:List Bool),xs=[.ref p]/\SqL X.K H p (bs.map V.bl)/\Q (.bl (bs.all fun b=>b)) H):=by
 intro pins s σ H xs us Q I r h
 obtain⟨p,bs,rfl,hq,q⟩:=h
 obtain⟨u,rfl,ru⟩:=r.one
 cases ru
 obtain⟨its,rv,pl,hz⟩:=I.list hq
 have hlen:=rv.length
 rw [aH] at hlen
 obtain⟨o,n,e,c,hd,ds⟩:=id pl
 have plt:=aJ e
 refine bu (ae _) (call_all_walk (wpAny_pyIter_list pl.isList ?_))
 refine⟨s.heap.objs.size,_,_,_,_,_,(fun i=>bs.getD i true),rfl,Walks.list (A:=X.A.in1) (show X.A.in1.handled=none from I.ok.hd hc) s.heap.objs.size p (bi plt) its.toArray,⟨⟨_,aL _ rfl,rfl,rfl⟩,pl.isList.push _⟩,?_,fun h' tk kk htk=>?_⟩
 ·intro i v s' Q' E' hv hq'
  have hv:its[i]? = some v:=by simpa using hv
  have hi:i<bs.length:=by rw [hlen];exact (List.getElem?_eq_some_iff.mp hv).1
  have e1:(bs.map V.bl)[i]? = some (.bl bs[i]):=by simp [hi]
  obtain⟨u',hu',ru'⟩:=rv.get e1
  rw [hv] at hu'
  cases hu'
  cases ru'
  have e2:bs.getD i true=bs[i]:=by simp [bK,hi]
  have hq':Q' (bs.getD i true) s':=hq'
  rw [e2] at hq'
  exact cq hq'
 ·have e3:(c9 its.toArray.size).all (fun i=>bs.getD i true)=bs.all fun b=>b:=by
   rw [au,<- hlen]
   exact Wr
  rw [e3]
  refine⟨.bl _,H,I.kept (t':=tk) fun b o' eb=>kk b o' ?_ (ag _ eb),rfl,q⟩
  have hb:b≠s.heap.objs.size:=bi (aJ eb)
  simpa using hb
theorem Y6:Bt X (.builtin "isinstance") (fun xs H Q=>∃ x T t b,xs=[x,.ty T]/\TyOf X.K H x t/\bV X.K t (.type T)=some b/\Q (.bl b) H):=by
 intro pins s σ H xs us Q I r h
 obtain⟨x,T,t,b,rfl,ty,e,q⟩:=h
 obtain⟨u,v,rfl,ru,rv⟩:=r.two
 cases rv
 exact bu (ae _) (Ln I ru ty e fun tk htk=>⟨.bl b,H,I.tok tk htk,rfl,q⟩)
theorem Wl:OpR X (bJ .LtE) (fun x y H Q=>∃ i j,x=.str i/\y=.str j/\Q (.bl (!decide (j.cps.toList<i.cps.toList))) H):=by
 intro pins s σ H x y v u Q I rx ry h
 obtain⟨i,j,rfl,rfl,q⟩:=h
 obtain⟨t,rfl⟩:=rx
 obtain⟨t',rfl⟩:=ry
 exact PySem.P.le_str ⟨.bl _,H,I,rfl,q⟩
end
noncomputable def Ph (xs ys:List V):Bool:=decide (xs.length=ys.length)&&(c9 xs.length).all fun j=>eqV (xs.getD j .non) (ys.getD j .non)
theorem Pi {xs ys:List V} (h:xs.length≠ys.length):Ph xs ys=false:=by
 unfold Ph
 rw [decide_eq_false h]
 rfl
noncomputable def bg4 (K:aa) (neg:Bool):R2:=fun x y H Q=>∃ a b xs ys,x=.ref a/\y=.ref b/\SqL K H a xs/\SqL K H b ys/\xs.all Bn=true/\ys.all Bn=true/\Q (.bl (if neg then !Ph xs ys else Ph xs ys)) H
section
variable {X:Cx}
theorem Ik {A:bt} {s:ah} {xs ys:List V} {us ws:List Value} (rx:Vals xs us) (ry:Vals ys ws) (fx:xs.all Bn=true) (fy:ys.all Bn=true) (j:Nat) (h1:j<us.toArray.size) (h2:j<ws.toArray.size) :
  bv A s us.toArray[j] ws.toArray[j] (eqV (xs.getD j .non) (ys.getD j .non)):=by
 have e1:=rx.length
 have e2:=ry.length
 have h1':j<us.length:=by simpa using h1
 have h2':j<ws.length:=by simpa using h2
 have a1:xs[j]? = some (xs[j]'(by omega)):=by simp
 have a2:ys[j]? = some (ys[j]'(by omega)):=by simp
 obtain⟨u,hu,ru⟩:=rx.get a1
 obtain⟨v,hv,rv⟩:=ry.get a2
 have b1:us.toArray[j]=u:=by
  have:us[j]? = some us[j]:=by simp
  rw [this] at hu
  simpa using aN hu
 have b2:ws.toArray[j]=v:=by
  have:ws[j]? = some ws[j]:=by simp
  rw [this] at hv
  simpa using aN hv
 have c1:xs.getD j .non=xs[j]'(by omega):=by rw [bK,a1];rfl
 have c2:ys.getD j .non=ys[j]'(by omega):=by rw [bK,a2];rfl
 rw [b1,b2,c1,c2]
 exact Q3 ru rv (List.all_eq_true.mp fx _ (bW _)) (List.all_eq_true.mp fy _ (bW _))
theorem ba4 (hu:X.A.units<cLine):OpR X (bJ .Eq) (bg4 X.K false):=by
 intro pins s σ H x y v u Q I rx ry h
 obtain⟨a,b,xs,ys,rfl,rfl,qa,qb,fx,fy,q⟩:=h
 cases rx
 cases ry
 obtain⟨its,r,pl,hz⟩:=I.list qa
 obtain⟨its2,r2,pl2,hz2⟩:=I.list qb
 have e1:=r.length
 have e2:=r2.length
 by_cases hl:xs.length=ys.length
 ·refine SeqAt.eq_listAt (e:=fun j=>eqV (xs.getD j .non) (ys.getD j .non)) pl.isList pl2.isList (by simp;omega) hu (fun j h1 h2=>Ik r r2 fx fy j h1 h2) ⟨.bl _,H,I,rfl,?_⟩
  have e:Ph xs ys=(c9 its.toArray.size).all fun j=>eqV (xs.getD j .non) (ys.getD j .non):=by
   unfold Ph
   rw [decide_eq_true hl,au,<- e1]
   rfl
  rw [<- e]
  exact q
 ·refine SeqAt.eq_list_lengthsAt pl.isList pl2.isList (by simp;omega) hu ⟨.bl _,H,I,rfl,?_⟩
  rw [Pi hl] at q
  exact q
theorem bb0 (hu:X.A.units<cLine):OpR X (bJ .NotEq) (bg4 X.K true):=by
 intro pins s σ H x y v u Q I rx ry h
 obtain⟨a,b,xs,ys,rfl,rfl,qa,qb,fx,fy,q⟩:=h
 cases rx
 cases ry
 obtain⟨its,r,pl,hz⟩:=I.list qa
 obtain⟨its2,r2,pl2,hz2⟩:=I.list qb
 have e1:=r.length
 have e2:=r2.length
 by_cases hl:xs.length=ys.length
 ·refine SeqAt.RcNeAt.lists (e:=fun j=>eqV (xs.getD j .non) (ys.getD j .non)) pl.isList pl2.isList (by simp;omega) hu (fun j h1 h2=>Ik r r2 fx fy j h1 h2) _ _ _ _ ⟨.bl _,H,I,rfl,?_⟩
  have e:Ph xs ys=(c9 its.toArray.size).all fun j=>eqV (xs.getD j .non) (ys.getD j .non):=by
   unfold Ph
   rw [decide_eq_true hl,au,<- e1]
   rfl
  rw [<- e]
  exact q
 ·refine SeqAt.RcNeAt.lists_lengths pl.isList pl2.isList (by simp;omega) hu _ _ _ _ ⟨.bl _,H,I,rfl,?_⟩
  rw [Pi hl] at q
  exact q
end
theorem ab3 {cl:List (Str×Addr)} {x:Str} (h:x∈cl.map (·.1)):∃ c,cl.lookup x=some c:=by
 induction cl with
 | nil=>simp at h
 | cons p r ih=>
  obtain⟨n,a⟩:=p
  rw [List.lookup_cons]
  cases e:x==n with
  | true=>exact⟨a,rfl⟩
  | false=>
   refine ih ?_
   rcases List.mem_cons.mp h with q|q
   ·rw [show x=n from q] at e;simp at e
   ·exact q
section
variable {X:Cx} {e:Expr} {te:TE} {lo hi:Option Expr} {tl th:TO} {pos p2:Pos}
theorem Te {ys:List Str}:∀ {us:List Value},Vals (ys.map V.str) us->StrsAre us ys:=by
 induction ys with
 | nil=>intro us r;rw [eI] at r;cases r;exact .nil
 | cons y ys ih=>
  intro us r
  rw [ba] at r
  cases r with
  | cons r1 r2=>
   obtain⟨t,e⟩:=r1
   subst e
   exact .cons y t (ih r2)
theorem am3:MtR X "str.join" (fun x xs H Q=>∃ z p ys,x=.str z/\xs=[.ref p]/\SqL X.K H p (ys.map V.str)/\(ys.map (·.length)).sum+ys.length * z.length<=16777216/\Q (.str (Txt.join z ys)) H):=by
 intro pins s σ H x xs v us Q I rx rs h
 obtain⟨z,p,ys,rfl,rfl,hq,hz,q⟩:=h
 obtain⟨t,rfl⟩:=rx
 obtain⟨u,rfl,ru⟩:=rs.one
 cases ru
 obtain⟨its,rv,pl,_⟩:=I.list hq
 exact bu (ae _) (PyProof.Rows.join_list pl.isList (by simpa using Te rv) hz fun t' k htk=>⟨.str _,H,I.tok k htk,⟨_,rfl⟩,q⟩)
end
end L2
set_option maxHeartbeats 4000000
namespace L2
open PySem PySem.Spec PyProof.Rows
section
variable {κ:Type} [DecidableEq κ]
noncomputable def Eb (kvs:List (κ×V)) (k:κ):Option V:=(kvs.find? fun kv=>decide (kv.1=k)).map (·.2)
noncomputable def Kz (kvs:List (κ×V)) (k:κ) (v:V):List (κ×V):=
 if (kvs.any fun kv=>decide (kv.1=k))=true then kvs.map (fun kv=>if kv.1=k then (kv.1,v) else kv) else kvs++[(k,v)]
theorem Kp {p:κ×V} {r:List (κ×V)} {k:κ} (e:p.1=k):Eb (p::r) k=some p.2:=by simp [Eb,dq,e]
theorem Ko {p:κ×V} {r:List (κ×V)} {k:κ} (e:¬ p.1=k):Eb (p::r) k=Eb r k:=by simp [Eb,dq,e]
theorem Ql (k:κ):∀ kvs:List (κ×V),(kvs.any fun kv=>decide (kv.1=k))=(Eb kvs k).isSome
 | []=>rfl
 | p::r=>by
  rw [d7]
  by_cases e:p.1=k
  ·simp only [Kp e,decide_eq_true e,gy,Option.isSome_some]
  ·rw [Ko e,decide_eq_false e,eR];exact Ql k r
theorem G3 (kvs:List (κ×V)) (k:κ) (v:V):(Kz kvs k v).length<=kvs.length+1:=by
 unfold Kz
 split
 ·rw [aH];omega
 ·rw [aq,ax,List.length_nil];omega
theorem RelO.isSome_eq {o:Option V} {u:Option Value} (r:RelO o u):o.isSome=u.isSome:=by
 cases o with
 | none=>cases u with
  | none=>rfl
  | some _=>exact (show False from r).elim
 | some _=>cases u with
  | none=>exact (show False from r).elim
  | some _=>rfl
theorem KV.val {kvs:List (κ×V)} {vs:List (κ×Value)} (r:KV kvs vs) (k:κ):RelO (Eb kvs k) (ie vs k):=by
 unfold KV at r
 induction r with
 | nil=>exact bn
 | @cons p q ps qs h t ih=>
  obtain⟨h1,h2⟩:=h
  by_cases e:p.1=k
  ·have e':q.1=k:=h1.symm.trans e
   have b:ie (q::qs) k=some q.2:=by simp [ie,dq,e']
   rw [Kp e,b];exact h2
  ·have e':¬ q.1=k:=fun z=>e (h1.trans z)
   have b:ie (q::qs) k=ie qs k:=by simp [ie,dq,e']
   rw [Ko e,b];exact ih
theorem KV.any {kvs:List (κ×V)} {vs:List (κ×Value)} (r:KV kvs vs) (k:κ):(kvs.any fun kv=>decide (kv.1=k))=vs.any fun kv=>decide (kv.1=k):=by
 unfold KV at r
 induction r with
 | nil=>rfl
 | cons h t ih=>rw [d7,d7,ih,h.1]
theorem KV.repl {kvs:List (κ×V)} {vs:List (κ×Value)} (r:KV kvs vs) (k:κ) {y:V} {u:Value} (ry:RelV y u) :
  KV (kvs.map fun kv=>if kv.1=k then (kv.1,y) else kv) (vs.map fun kv=>if kv.1=k then (kv.1,u) else kv):=by
 unfold KV at r ⊢
 induction r with
 | nil=>exact .nil
 | @cons p q ps qs h t ih=>
  rw [ba,ba]
  refine .cons ?_ ih
  obtain⟨h1,h2⟩:=h
  by_cases e:p.1=k
  ·rw [if_pos e,if_pos (h1.symm.trans e)];exact⟨h1,ry⟩
  ·rw [if_neg e,if_neg (fun z=>e (h1.trans z))];exact⟨h1,h2⟩
theorem KV.put {kvs:List (κ×V)} {vs:List (κ×Value)} (r:KV kvs vs) (k:κ) {y:V} {u:Value} (ry:RelV y u):KV (Kz kvs k y) (stored vs k u):=by
 unfold Kz stored
 rw [r.any k]
 by_cases e:(vs.any fun kv=>decide (kv.1=k))=true
 ·rw [if_pos e,if_pos e];exact r.repl k ry
 ·rw [if_neg e,if_neg e];exact Paired.snoc r ⟨rfl,ry⟩
theorem KV.length {kvs:List (κ×V)} {vs:List (κ×Value)} (r:KV kvs vs):kvs.length=vs.length:=fS r
end
theorem G1 {P:aI} {w:bq} {k:Key} {u:Value} (r:RelV (kV k) u):(A9 P w).is k u=true:=by
 cases k with
 | inl i=>obtain⟨t,e⟩:=(show ∃ t,u=ip i t from r);subst e;exact P0 P w i t
 | inr x=>obtain⟨t,e⟩:=(show ∃ t,u=fg x t from r);subst e;exact En P w x t
theorem Lo {P:aI} {w:bq}:∀ {ks:List Key} {us:List Value},Vals (ks.map kV) us->ItemsAre (A9 P w) ks us
 | [],_,r=>by rw [eI] at r;cases r;exact .nil
 | k::ks,_,r=>by
  rw [ba] at r
  cases r with
  | cons h t=>exact .cons (G1 h) (Lo t)
noncomputable abbrev KT (H:Hp):List (List Key×V)->List (List Key×Addr×Value)->Prop:=eY fun p q=>p.1=q.1/\H q.2.1=some (.tup (p.1.map kV))/\RelV p.2 q.2.2
theorem KT.val {H:Hp} {kvs:List (List Key×V)} {xs:List (List Key×Addr×Value)} (r:KT H kvs xs) (k:List Key):RelO (Eb kvs k) ((jg xs k).map (·.2)):=by
 induction r with
 | nil=>exact bn
 | @cons p q ps qs h t ih=>
  obtain⟨h1,_,h2⟩:=h
  by_cases e:p.1=k
  ·have e':q.1=k:=h1.symm.trans e
   have b:jg (q::qs) k=some q.2:=by simp [jg,dq,e']
   rw [Kp e,b];exact h2
  ·have e':¬ q.1=k:=fun z=>e (h1.trans z)
   have b:jg (q::qs) k=jg qs k:=by simp [jg,dq,e']
   rw [Ko e,b];exact ih
theorem KT.repl {H:Hp} {kvs:List (List Key×V)} {xs:List (List Key×Addr×Value)} (r:KT H kvs xs) (k:List Key) {y:V} {u:Value} (ry:RelV y u) :
  KT H (kvs.map fun kv=>if kv.1=k then (kv.1,y) else kv) (xs.map (putAt k u)):=by
 induction r with
 | nil=>exact .nil
 | @cons p q ps qs h t ih=>
  rw [ba,ba]
  refine .cons ?_ ih
  obtain⟨h1,h2,h3⟩:=h
  unfold putAt
  by_cases e:p.1=k
  ·rw [if_pos e,if_pos (h1.symm.trans e)];exact⟨h1,h2,ry⟩
  ·rw [if_neg e,if_neg (fun z=>e (h1.trans z))];exact⟨h1,h2,h3⟩
theorem KT.put {H:Hp} {kvs:List (List Key×V)} {xs:List (List Key×Addr×Value)} (r:KT H kvs xs) (k:List Key) {b:Addr} {y:V} {u:Value} (hb:H b=some (.tup (k.map kV))) (ry:RelV y u) :
  KT H (Kz kvs k y) (storedH xs k b u):=by
 have e:(kvs.any fun kv=>decide (kv.1=k))=(jg xs k).isSome:=by
  rw [Ql,(r.val k).isSome_eq,fK]
 unfold Kz storedH
 rw [e]
 by_cases q:(jg xs k).isSome=true
 ·rw [if_pos q,if_pos q];exact r.repl k ry
 ·rw [if_neg q,if_neg q];exact Paired.snoc r ⟨rfl,hb,ry⟩
theorem KT.keeps {H H':Hp} {kvs:List (List Key×V)} {xs:List (List Key×Addr×Value)} (r:KT H kvs xs) (ht:∀ b ys,H b=some (.tup ys)->H' b=some (.tup ys)):KT H' kvs xs:=
 Paired.mapP r fun _ _ z=>⟨z.1,ht _ _ z.2.1,z.2.2⟩
section
variable {P:aI} {w:bq} {H:Hp} {h:Heap} {a:Addr}
theorem aw2 {u:HO} (ok:HOk P w H h) (e:Rd H a u):ObjOk P w H h a u:=e.ok ok
theorem Gy {kvs:List (Key×V)} (ok:HOk P w H h) (e:Rd H a (.dK kvs)):kvs.length<=sizeLine/\(a==cf)=false /\ ∃ vs,KV kvs vs/\h.DictOf (A9 P w) a vs:=
 show ObjOk P w H h a (.dK kvs) from aw2 ok e
theorem bw4 {kvs:List (Key×V)} (ok:HOk P w H h) (e:H a=some (.dK kvs)):kvs.length<=sizeLine/\(a==cf)=false /\ ∃ vs,KV kvs vs/\h.DictOf (A9 P w) a vs:=Gy ok (.inl e)
theorem Il {ks:List Key} (ok:HOk P w H h) (e:H a=some (.tup (ks.map kV))):(iy (A9 P w)).is h ks a:=by
 obtain⟨_,its,r,o,h1,h2,n,h3⟩:=(show ObjOk P w H h a (.tup (ks.map kV)) from ok a _ e)
 exact⟨o,its.toArray,n,h1,h2,h3,by simpa using Lo r⟩
theorem Pg {kvs:List (List Key×V)} (ok:HOk P w H h) (e:Rd H a (.dT kvs)):kvs.length<=sizeLine/\(a==cf)=false /\
  ∃ xs,KT H kvs xs/\h.DictOfH (iy (A9 P w)) a xs:=by
 obtain⟨z,y,xs,r,o,es,ep,h1,h2,h3,h4,h5⟩:=(show ObjOk P w H h a (.dT kvs) from aw2 ok e)
 refine⟨z,y,xs,r,o,es,ep,h1,h2,h3,h4,fun x hx=>?_,h5⟩
 have all:∀ {l:List (List Key×V)} {m:List (List Key×Addr×Value)},KT H l m -> ∀ x∈m,(iy (A9 P w)).is h x.1 x.2.1:=by
  intro l m q
  induction q with
  | nil=>intro x hx;exact nomatch hx
  | @cons p q ps qs hq t ih=>
   intro x hx
   rcases List.mem_cons.mp hx with e|hx
   ·subst e
    exact Il ok (by rw [<- hq.1];exact hq.2.1)
   ·exact ih x hx
 exact all r x hx
theorem bw5 {kvs:List (List Key×V)} (ok:HOk P w H h) (e:H a=some (.dT kvs)):kvs.length<=sizeLine/\(a==cf)=false /\
  ∃ xs,KT H kvs xs/\h.DictOfH (iy (A9 P w)) a xs:=Pg ok (.inl e)
end
noncomputable def L6 (H:Hp) (a:Addr) (y:V) (r:Option V):Prop:=
 (∃ kvs k,Rd H a (.dK kvs)/\y=kV k/\r=Eb kvs k) \/ ∃ kvs k b,Rd H a (.dT kvs)/\y=.ref b/\H b=some (.tup (k.map kV))/\r=Eb kvs k
noncomputable def aj7 (H:Hp) (a:Addr) (y v:V) (H':Hp):Prop:=
 (∃ kvs k,H a=some (.dK kvs)/\y=kV k/\kvs.length<sizeLine/\H'=upd H a (.dK (Kz kvs k v))) \/
 ∃ kvs k b,H a=some (.dT kvs)/\y=.ref b/\H b=some (.tup (k.map kV))/\kvs.length<sizeLine/\H'=upd H a (.dT (Kz kvs k v))
section
variable {X:Cx} {pins:List (Addr×Obj)} {σ:St} {H:Hp} {s:ah} {a:Addr} {y v:V} {u r:Value} {o:Option V} {A:bt} {E:Value->ah->Prop}
theorem Inv.big (I:Inv X pins σ H s):cf<s.heap.objs.size:=by
 have h:aw<s.heap.objs.size:=(I.mod.glob.keeps I.bk).lt
 exact Nat.lt_trans (by decide) h
theorem V1 {Q:Value->ah->Prop} (hu:A.units+1<cLine) (I:Inv X pins σ H s) (g:L6 H a y (some v)) (ry:RelV y u) (h:∀ w' s',Inv X pins σ H s'->RelV v w'->Q w' s') :
  aS (model X.prog X.w) A (ib (.ref a) u) Q E s:=by
 rcases g with ⟨kvs,k,e,ey,l⟩|⟨kvs,k,b,e,ey,eb,l⟩
 ·subst ey
  obtain⟨z,hd,vs,rel,dd⟩:=Gy I.hok e
  obtain⟨w',hw,rw'⟩:=RelO.some_of (v:=v) (o:=ie vs k) (by rw [l];exact rel.val k)
  exact wpAny_getItem_of (G1 ry) dd.mapOf hw (h w' _ (I.tok _) rw')
 ·subst ey
  cases (show u=aC b from ry)
  obtain⟨z,hd,xs,rel,dd⟩:=Pg I.hok e
  obtain⟨w',hw,rw'⟩:=RelO.some_of (v:=v) (o:=(jg xs k).map (·.2)) (by rw [l];exact rel.val k)
  obtain⟨p,hp,hp2⟩:=Option.map_eq_some_iff.mp hw
  refine wpAny_getItem_heap (ej hu) (Il I.hok eb) dd hp ?_
  rw [hp2]
  exact h w' _ (I.tok _) rw'
theorem ci7 {Q:Value->ah->Prop} (hu:A.units+1<cLine) (I:Inv X pins σ H s) (g:L6 H a y o) (ry:RelV y u) (h:∀ s',Inv X pins σ H s'->Q (.bool o.isSome) s') :
  aS (model X.prog X.w) A (bJ .In u (.ref a)) Q E s:=by
 rcases g with ⟨kvs,k,e,ey,l⟩|⟨kvs,k,b,e,ey,eb,l⟩
 ·subst ey
  obtain⟨z,hd,vs,rel,dd⟩:=Gy I.hok e
  refine wpAny_in_of (G1 ry) hd dd.mapOf ?_
  rw [<- (rel.val k).isSome_eq,<- l]
  exact h _ (I.tok _)
 ·subst ey
  cases (show u=aC b from ry)
  obtain⟨z,hd,xs,rel,dd⟩:=Pg I.hok e
  refine wpAny_in_heap (ej hu) (Il I.hok eb) hd dd ?_
  have q:=(rel.val k).isSome_eq
  rw [fK] at q
  rw [<- q,<- l]
  exact h _ (I.tok _)
theorem ak8 {Q:Value->ah->Prop} (hu:A.units+1<cLine) (I:Inv X pins σ H s) (g:L6 H a y o) (ry:RelV y u) (h:∀ s',Inv X pins σ H s'->Q (.bool (!o.isSome)) s') :
  aS (model X.prog X.w) A (bJ .NotIn u (.ref a)) Q E s:=by
 rcases g with ⟨kvs,k,e,ey,l⟩|⟨kvs,k,b,e,ey,eb,l⟩
 ·subst ey
  obtain⟨z,hd,vs,rel,dd⟩:=Gy I.hok e
  refine wpAny_notIn_of (G1 ry) hd dd.mapOf ?_
  rw [<- (rel.val k).isSome_eq,<- l]
  exact h _ (I.tok _)
 ·subst ey
  cases (show u=aC b from ry)
  obtain⟨z,hd,xs,rel,dd⟩:=Pg I.hok e
  refine wpAny_notIn_heap (ej hu) (Il I.hok eb) hd dd ?_
  have q:=(rel.val k).isSome_eq
  rw [fK] at q
  rw [<- q,<- l]
  exact h _ (I.tok _)
theorem Ua {h':Heap} {t':Nat} {ob:HO} (I:Inv X pins σ H s) (mu:Mut (H a)) (hs:fq a s.heap h') (he:∃ q,h'.get? a=some q) (new:ObjOk X.prog X.w (upd H a ob) h' a ob) (ht:s.toks<=t':=by first|exact ae _|exact bh _ _|assumption|omega|(dsimp only;omega)) :
  Inv X pins σ (upd H a ob) { s with heap:=h',toks:=t' }:=
 I.write (x:=a) (e:=a) mu (.inl rfl) (fun b q hb z=>(hs.2 b hb).trans z) he new
theorem a30 {P:aI} {w:bq} {H':Hp} {h':Heap} {kvs:List (Key×V)} {vs:List (Key×Value)} (z:kvs.length<=sizeLine) (hd:(a==cf)=false) (rel:KV kvs vs) (dd:h'.DictOf (A9 P w) a vs) :
  ObjOk P w H' h' a (.dK kvs):=⟨z,hd,vs,rel,dd⟩
theorem V2 {H':Hp} {Q:Unit->ah->Prop} (hu:A.units+1<cLine) (I:Inv X pins σ H s) (g:aj7 H a y v H') (ry:RelV y u) (rv:RelV v r) (h:∀ s',Inv X pins σ H' s'->Q () s') :
  aS (model X.prog X.w) A (setItem (.ref a) u r) Q E s:=by
 rcases g with ⟨kvs,k,e,ey,l,eH⟩|⟨kvs,k,b,e,ey,eb,l,eH⟩
 ·subst ey eH
  obtain⟨z,hd,vs,rel,dd⟩:=bw4 I.hok e
  have hz:vs.length<=sizeLine:=by rw [<- rel.length];exact z
  have hl:(Kz kvs k v).length<=sizeLine:=by have:=G3 kvs k v;omega
  refine wpAny_setItem_pairs (hsz:=hz) (G1 ry) dd fun h' dd' hs=>h _ ?_
  have he:∃ q,h'.get? a=some q:=let ⟨q,_,_,hq,_⟩:=dd';⟨q,hq⟩
  exact Ua I (by rw [e];exact bn) hs he (a30 hl hd (rel.put k rv) dd')
 ·subst ey eH
  cases (show u=aC b from ry)
  obtain⟨z,hd,xs,rel,dd⟩:=bw5 I.hok e
  have hz:xs.length<=sizeLine:=by rw [<- fS rel];exact z
  have hl:(Kz kvs k v).length<=sizeLine:=by have:=G3 kvs k v;omega
  refine wpAny_setItem_heap (hsz:=hz) (ej hu) (Il I.hok eb) dd fun h' dd' hs=>h _ ?_
  obtain⟨q,es,ep,hq,h2,h3,h4,_,h5⟩:=dd'
  refine Ua I (by rw [e];exact bn) hs ⟨q,hq⟩ ⟨hl,hd,_,(rel.put k eb rv).keeps fun c ys ec=>?_,q,es,ep,hq,h2,h3,h4,h5⟩
  rw [Ap (bz1 ec e (fun z=>nomatch z))]
  exact ec
end
section
variable {X:Cx} {pins:List (Addr×Obj)} {σ:St} {H:Hp} {s:ah} {a:Addr} {kvs:List (Key×V)} {k:Key} {u:Value} {A:bt} {E:Value->ah->Prop}
theorem bw3 {Q:Value->ah->Prop} (I:Inv X pins σ H s) (e:Rd H a (.dK kvs)) (h:∀ t s',Inv X pins σ H s'->Q (.int kvs.length t) s'):aS (model X.prog X.w) A (call (.builtin "len") [.ref a]) Q E s:=by
 obtain⟨z,hd,vs,rel,dd⟩:=Gy I.hok e
 refine call_len_dict hd dd (by rw [<- rel.length];rw [cr] at z;omega) ?_
 rw [<- rel.length]
 exact h _ _ (I.tok _)
end
theorem Pf {X:Cx} {pins:List (Addr×Obj)} {σ:St} {H:Hp} {s:ah} {a:Addr} {y:V} {o:Option V} (I:Inv X pins σ H s) (g:L6 H a y o):s.TypeIs (.ref a) "dict" := by
 rcases g with ⟨kvs,k,e,_,_⟩|⟨kvs,k,b,e,_,_,_⟩
 ·obtain⟨_,_,vs,_,dd⟩:=Gy I.hok e
  exact dd.typeIs
 ·obtain⟨_,_,xs,_,dd⟩:=Pg I.hok e
  exact dd.typeIs
section
variable {X:Cx} {o i e value:Expr} {pos pos' tpos:Pos} {td ty tv:TE}
end
theorem Zb {P:aI} {w:bq} {H:Hp} (h:Heap) (hb:cf<h.objs.size):ObjOk P w H (h.push { cls:=.type "dict", data:=.dict #[] }) h.objs.size (.dK []):=
 ⟨cY _,beq_eq_false_iff_ne.mpr (dj (bi hb)),[],.nil,Heap.DictOf.new h⟩
theorem Zc {P:aI} {w:bq} {H:Hp} (h:Heap) (hb:cf<h.objs.size):ObjOk P w H (h.push { cls:=.type "dict", data:=.dict #[] }) h.objs.size (.dT []):=
 ⟨cY _,beq_eq_false_iff_ne.mpr (dj (bi hb)),[],.nil,_,#[],0,aL _ rfl,⟨rfl,rfl,rfl⟩,rfl,rfl,List.nodup_nil⟩
section
variable {X:Cx} {pos:Pos}
end
section
variable {X:Cx} {pins:List (Addr×Obj)} {σ:St} {H:Hp} {s:ah} {a:Addr} {y d:V} {u r:Value} {o:Option V} {A:bt} {E:Value->ah->Prop}
end
section
variable {X:Cx} {o e f:Expr} {apos cpos:Pos} {td ty tx:TE}
end
section
variable {X:Cx} {pins:List (Addr×Obj)} {σ:St} {H:Hp} {s:ah} {a:Addr} {kvs:List (Key×V)} {A:bt} {E:Value->ah->Prop}
end
section
variable {X:Cx} {pins:List (Addr×Obj)} {σ:St} {H:Hp} {s:ah} {a:Addr} {y:V} {u:Value} {A:bt} {E:Value->ah->Prop}
end
noncomputable abbrev EK:=Addr->Hp->Prop
noncomputable abbrev DE:=St->Hp->VK->EK->Prop
noncomputable abbrev DT:=St->Hp->(Bool->Hp->Prop)->EK->Prop
noncomputable abbrev DA:=St->Hp->(List V->Hp->Prop)->EK->Prop
structure Cy where
 nx:St->Hp->Prop
 rt:VK
 bk:St->Hp->Prop
 ct:St->Hp->Prop
 ex:St->EK
noncomputable abbrev DS:=Cy->St->Hp->Prop
noncomputable abbrev Au (C:Addr) (dx:Option Addr) (vs:Array Value):Obj:={ cls:=.ref C,dict:=dx,data:=.fields vs }
noncomputable def E2 (a C:Addr) (dx:Option Addr):HO:=.ext fun h=>∃ vs:Array Value,h.get? a=some (Au C dx vs)/\vs.size=6/\vs[1]? = some .none/\vs[2]? = some .none
noncomputable def flO (a C:Addr) (dx:Option Addr):HO:=.ext fun h=>∃ vs:Array Value,h.get? a=some (Au C dx vs)/\vs.size=6/\vs[2]? = some .none
noncomputable def fcO (a C:Addr) (dx:Option Addr):HO:=.ext fun h=>∃ vs:Array Value,h.get? a=some (Au C dx vs)/\vs.size=6
noncomputable def FlO (H:Hp) (a C:Addr) (dx:Option Addr):Prop:=H a=some (flO a C dx)\/H a=some (fcO a C dx)
noncomputable def xdO (dx:Addr) (fs:List (Str×V)):HO:=.ext fun h=>fs.length<=1000 /\ ∃ mA,h.Ns1 dx mA/\(∀ f,RelO (fs.lookup f) (mA f))/\cT mA (fs.map (·.1))
noncomputable def E5 (X:Cx) (pins:List (Addr×Obj)) (H:Hp) (a:Addr) (s:ah):Prop:=
 ∃ (C:Addr) (dx:Option Addr) (vs:Array Value),FlO H a C dx/\s.heap.get? a=some (Au C dx vs)/\vs.size=6 /\
  (vs[1]? = some .none \/ ∃ (T:Addr) (oT:Obj) (ts:Array Value),vs[1]? = some (.ref T)/\T≠a/\s.heap.get? T=some oT/\oT.data=.fields ts/\(∃ z,ts[3]? = some z)/\Do X pins H T)
noncomputable def Meets (X:Cx) (Ex:St->EK):Prop:=
 ∀ (pins:List (Addr×Obj)) (σ:St) (H:Hp) (s:ah) (a:Addr),Inv X pins σ H s->E5 X pins H a s->Ex σ a H->X.xe (.ref a) s
noncomputable def QE (X:Cx) (e:Expr) (t:DE):Prop:=∀ Ex,Meets X Ex->PE X e (fun σ H Q=>t σ H Q (Ex σ))
noncomputable def QT (X:Cx) (e:Expr) (t:DT):Prop:=∀ Ex,Meets X Ex->PT X e (fun σ H Q=>t σ H Q (Ex σ))
noncomputable def QW (X:Cx) (e:Expr) (t:DT):Prop:=∀ Ex,Meets X Ex->PW X e (fun σ H Q=>t σ H Q (Ex σ))
noncomputable def QA (X:Cx) (es:List Expr) (t:DA):Prop:=∀ Ex,Meets X Ex->PA X es (fun σ H Q=>t σ H Q (Ex σ))
noncomputable def an6 (Ex:St->EK) (D:Kr):Cy:=⟨D.nx,D.rt,D.bk,D.ct,Ex⟩
noncomputable def QS (X:Cx) (st:Stmt) (t:DS):Prop:=∀ Ex,Meets X Ex->PS X st (fun D σ H=>t (an6 Ex D) σ H)
noncomputable def QSs (X:Cx) (st:List Stmt) (t:DS):Prop:=∀ Ex,Meets X Ex->PSs X st (fun D σ H=>t (an6 Ex D) σ H)
noncomputable def dNo:DE:=fun _ _ _ _=>False
noncomputable def Ac (i:Nat):DE:=fun σ H Q _=>match σ[i]? with
 | some (some v)=>Q v H
 | _=>False
noncomputable def dC (v:V):DE:=fun _ H Q _=>Q v H
noncomputable def Ad (r:R2) (a b:DE):DE:=fun σ H Q E=>a σ H (fun x H1=>b σ H1 (fun y H2=>r x y H2 Q) E) E
noncomputable def dUn (r:V->Hp->VK->Prop) (a:DE):DE:=fun σ H Q E=>a σ H (fun x H1=>r x H1 Q) E
noncomputable def Bx (r r':R2) (a b c:DE):DE:=fun σ H Q E=>a σ H (fun x H1=>b σ H1 (fun y H2=>r x y H2 fun z H3=>match z with
 | .bl k=>if k=true then c σ H3 (fun w H4=>r' y w H4 Q) E else Q (.bl false) H3
 | _=>False) E) E
noncomputable def Gb (a b:DT):DT:=fun σ H Q E=>a σ H (fun k H1=>if k=true then b σ H1 Q E else Q false H1) E
noncomputable def dOr (a b:DT):DT:=fun σ H Q E=>a σ H (fun k H1=>if k=true then Q true H1 else b σ H1 Q E) E
noncomputable def Cj (a:DT):DT:=fun σ H Q E=>a σ H (fun k H1=>Q (!k) H1) E
noncomputable def bw2 (t:DT) (a b:DE):DE:=fun σ H Q E=>t σ H (fun k H1=>if k=true then a σ H1 Q E else b σ H1 Q E) E
noncomputable def Gw (K:aa) (x:V) (H:Hp) (Q:Bool->Hp->Prop):Prop:=match x with
 | .bl k=>Q k H
 | .non=>Q false H
 | .int i=>Q (i != 0) H
 | .str y=>y.length<=sizeLine/\Q ((y.length:Int) != 0) H
 | .ref p=>∃ k,bv8 K (.ref p) H k/\Q k H
 | _=>False
noncomputable def Bh (K:aa) (a b:DE):DE:=fun σ H Q E=>a σ H (fun x H1=>Gw K x H1 fun k H2=>if k=true then b σ H2 Q E else Q x H2) E
noncomputable def Qu (K:aa) (a b:DE):DE:=fun σ H Q E=>a σ H (fun x H1=>Gw K x H1 fun k H2=>if k=true then Q x H2 else b σ H2 Q E) E
noncomputable def Tz (K:aa) (a:DE):DE:=fun σ H Q E=>a σ H (fun x H1=>Gw K x H1 fun k H2=>Q (.bl (!k)) H2) E
noncomputable def B8 (K:aa) (a:DE):DT:=fun σ H Q E=>a σ H (fun x H1=>Gw K x H1 Q) E
noncomputable def Az (a:DE):DT:=fun σ H Q E=>a σ H (fun x H1=>match x with
 | .bl k=>Q k H1
 | _=>False) E
noncomputable def Ae:DA:=fun _ H Q _=>Q [] H
noncomputable def Aa (a:DE) (r:DA):DA:=fun σ H Q E=>a σ H (fun x H1=>r σ H1 (fun xs H2=>Q (x::xs) H2) E) E
noncomputable def A6 (t:DA):DE:=fun σ H Q E=>t σ H (fun xs H1=>xs.length<=sizeLine /\ ∀ p,H1 p=none->Q (.ref p) (upd H1 p (.tup xs))) E
noncomputable def Bm (t:DA):DE:=fun σ H Q E=>t σ H (fun xs H1=>xs.length<=sizeLine /\ ∀ p,H1 p=none->Q (.ref p) (upd H1 p (.lst xs))) E
noncomputable def dFn (r:List V->Hp->VK->EK->Prop) (t:DA):DE:=fun σ H Q E=>t σ H (fun vs H1=>r vs H1 Q E) E
noncomputable def dMt (r:V->Hp->(Hp->(List V->Hp->Prop)->Prop)->VK->Prop) (o:DE) (t:DA):DE:=fun σ H Q E=>o σ H (fun x H1=>r x H1 (fun H2 R=>t σ H2 R E) Q) E
noncomputable def Ah:DS:=fun D σ H=>D.nx σ H
noncomputable def B7:DS:=fun _ _ _=>False
noncomputable def Ag (t u:DS):DS:=fun D σ H=>t { D with nx:=u D } σ H
noncomputable def Am (e:DE):DS:=fun D σ H=>e σ H D.rt (D.ex σ)
noncomputable def as4:DS:=fun D _ H=>D.rt .non H
noncomputable def Bo (e:DE):DS:=fun D σ H=>e σ H (fun _ H1=>D.nx σ H1) (D.ex σ)
noncomputable def dIf (c:DT) (t u:DS):DS:=fun D σ H=>c σ H (fun b H1=>if b=true then t D σ H1 else u D σ H1) (D.ex σ)
noncomputable def bw0:DS:=fun D σ H=>D.bk σ H
noncomputable def bw1:DS:=fun D σ H=>D.ct σ H
noncomputable def A1 (i:Nat) (e:DE):DS:=fun D σ H=>e σ H (fun v H1=>D.nx (σ.set i (some v)) H1) (D.ex σ)
noncomputable abbrev DG:=TG
noncomputable def V0 (e:DE) (g:DG):DS:=fun D σ H=>e σ H (fun v H1=>g v σ H1 D.nx) (D.ex σ)
noncomputable abbrev DI:=St->Hp->(It->Hp->Prop)->EK->Prop
noncomputable def bv4 (J:It) (g:DG) (tb:DS) (D:Cy) (σ:St) (H:Hp):Prop:=∃ W:Nat->Nat->St->Hp->Prop,(∃ m,W 0 m σ H) /\ ∀ i m σ H,W i m σ H ->
 (J.stop i H/\D.nx σ H)\/(J.go i H /\ ∃ N:St->Hp->Prop,(∀ σ' H',N σ' H' -> ∃ m',m'<m/\W (i+1) m' σ' H') /\ ∀ x H',J.yld i H x H'->g x σ H' (fun σ2 H2=>tb { D with nx:=N,ct:=N,bk:=D.nx } σ2 H2))
noncomputable def Thaw (H0 H:Hp) (P:Hp->Prop):Prop:=P H \/ ∃ p o kvs,H0 p=some (.dK kvs)/\H p=some (.frz o (.dK kvs))/\P (upd H p (.dK kvs))
noncomputable def Mm (wi:DI) (g:DG) (tb:DS):DS:=fun D σ H=>wi σ H (fun J H1=>bv4 J g tb { D with nx:=fun σ' H'=>Thaw H H' (D.nx σ') } σ H1) (D.ex σ)
noncomputable def Vh (J:It) (g:DG) (tc:DT) (te:DE) (D:Addr) (R:Hp->Prop) (σ:St) (H:Hp) (E:EK):Prop:=
 ∃ W:Nat->Nat->St->Hp->Prop,(∃ m,W 0 m σ H) /\ ∀ i m σ' H',W i m σ' H' ->
  (J.stop i H'/\R H')\/(J.go i H' /\ ∃ N:St->Hp->Prop,(∀ σ2 H2,N σ2 H2 -> ∃ m',m'<m/\W (i+1) m' σ2 H2) /\ ∀ x H2,J.yld i H' x H2->g x σ' H2 (fun σ3 H3=>tc σ3 H3 (fun b H4=>if b=true then
    te σ3 H4 (fun v H5=>∃ ys,H5 D=some (.lst ys)/\ys.length<sizeLine/\N σ3 (upd H5 D (.lst (ys++[v])))) E
   else N σ3 H4) E))
noncomputable def C5 (srcs:List (Option Nat)) (wi:DI) (g:DG) (tc:DT) (te:DE):DE:=fun σ H Q E=>wi σ H (fun J H1=>∀ D,H1 D=none->Vh J g tc te D (fun H'=>Q (.ref D) H') (Vw srcs σ) (upd H1 D (.lst [])) E) E
noncomputable def Fn:DT:=fun _ H Q _=>Q true H
noncomputable def gdN (i:Nat):DG:=fun v σ H Q=>Q (σ.set i (some v)) H
end L2
namespace L2
open PySem PySem.Spec PyProof.Rows PySem.W
section
variable {prog:aI} {w:bq} {A:bt} {E:Value->ah->Prop} {s:ah} {K:aa} {x C:Addr} {ox:Obj} {od:Option Obj} {name:Str} {expr:Bool} {Q:Value->ah->Prop}
theorem Pa (self:Value):fX (.builtin "BaseException.__getattribute__") self=pure (.builtin "BaseException.__getattribute__", [self]):=by
 have hop:withoutEnding? "BaseException.__getattribute__" "#opaque" = none:=by decide +kernel
 have hdat:withoutEnding? "BaseException.__getattribute__" "#data" = none:=by decide +kernel
 have hk:builtinKind "BaseException.__getattribute__" = some .slot:=by decide +kernel
 simp only [fX,typeOf,builtinType,hop,hdat,hk];rfl
theorem al3 {v:Value} (X:K.In s.heap) (I:dN s.heap x ox C od) (hga:ac K (.ref C) "__getattribute__" = some (some (.builtin "BaseException.__getattribute__"))) (hgt:ac K (.ref C) "__getattr__" = some none)
  (hB:cZ K C (.type "BaseException")=some true) (hf:PySem.W.findObj K C od name=some (.value v)) (hh:dO v=true) (h:Q v { s with toks:=s.toks+1 }) :
  aS (model prog w) A (iD (.ref x) name expr) Q E s:=by
 obtain⟨hp,g,d,t,os⟩:=s
 have L0:=I.type (M:=model prog w)
 have L1:=ci (M:=model prog w) X hga
 have L2:=ci (M:=model prog w) X hgt
 have L3:=ik (M:=model prog w) X I hf
 have L4:=hX (M:=model prog w) X hB
 unfold iD getAttrBy
 refine af (wpAny_mkText (bR (af (L0.at (af (L1.at ?_))))))
 have hx2:(ck "BaseException.__getattribute__" == ck "object.__getattribute__")=false:=by decide +kernel
 have hx1:(iY (aC C)&&ck "BaseException.__getattribute__" == ck "object.__getattribute__")=false:=by rw [hx2];rfl
 dsimp only
 rw [hx1,if_neg ak]
 unfold getAttrByItsOwn
 refine af (show aS _ _ (dZ (.ref C) "__getattr__") _ _ _ from L2.at ?_)
 refine af (iz (bR ?_))
 have hx0:(expr&&iY (ck "BaseException.__getattribute__"))=false:=by cases expr <;> rfl
 unfold callGetattribute
 rw [hx0,if_neg ak]
 unfold boundAndCalled
 rw [Pa]
 refine af (al ?_)
 refine dE (cI (by decide +kernel) F.entry_bexc_ga (check_slot (i := "BaseException.__getattribute__") (owner := "BaseException") (n := "__getattribute__") (by decide +kernel) (by decide +kernel) (L0.andThen L4) (F.args_bexc_ga _ _) ?_))
 unfold aY.«object.__getattribute__»
 refine af (al (af (al (af (L0.at (af (L3.at ?_)))))))
 refine al ?_
 show aS _ _ (handedOut v) _ _ _
 rw [g7 hh]
 exact al h
end
end L2
namespace L2
open PySem PySem.Spec PyProof.Rows PySem.W Builtin Builtin.ObjectAttr
noncomputable def A4:List Value->Bool
 | [.type a,.type b,.type c,.type d]=>a == "ValueError" && b == "Exception" && c == "BaseException" && d == "object"
 | .ref _::r=>A4 r
 | _=>false
noncomputable def valTail:List Value:=[.type "ValueError", .type "Exception", .type "BaseException", .type "object"]
theorem Rp (self:Value):refuseLoop self "__setattr__" valTail=pure ():=by kernel_rfl
theorem C7:∀ {l:List Value},A4 l=true -> ∃ rs:List Addr,l=rs.map aC++valTail
 | [.type a,.type b,.type c,.type d],e=>by
  have e:(a == "ValueError" && b == "Exception" && c == "BaseException" && d == "object")=true:=e
  simp only [am,beq_iff_eq] at e
  obtain⟨⟨⟨rfl,rfl⟩,rfl⟩,rfl⟩:=e
  exact⟨[],rfl⟩
 | .ref a::r,e=>by
  have e:A4 r=true:=by cases r <;> first|exact e|cases e
  obtain⟨rs,h⟩:=C7 e
  exact⟨a::rs,by rw [h];rfl⟩
theorem Ro (self:Value) (rs:List Addr):refuseLoop self "__setattr__" (rs.map aC++valTail)=pure ():=by
 induction rs with
 | nil=>exact Rp self
 | cons a r ih=>rw [ba,gc,refuseLoop_ref];exact ih
theorem Qj (rs:List Addr) {T:String} (h:valTail.contains (.type T)=true):(rs.map aC++valTail).contains (.type T)=true:=by
 induction rs with
 | nil=>exact h
 | cons a r ih=>rw [ba,gc,a0,ih,cR]
section
variable {prog:aI} {w:bq} {A:bt} {s:ah} {K:aa} {x C:Addr} {R:iJ->ah->Prop}
theorem Ls {ox:Obj} {od:Option Obj} {name:Str} {tk:Tok} {v:Value} {cd:ClassData} (X:K.In s.heap) (I:dN s.heap x ox C od) (hc:iX K C=some cd) (hp:A4 cd.mro=true) (ht:findIn K (.ref C) name=some none)
  (h:aS (model prog w) A.in1 (storeInOwnDict (.ref x) (.ref C) (.str name tk) name v false)
   (fun fin s'=>match fin with | .done f=>R (.ok f) s' | .again c'=>c'.quiet=true/\dJ (model prog w) A c' R s') (fun e s'=>R (.error e) s') s) :
  dJ (model prog w) A (.call (.builtin "object.__setattr__") ⟨[.ref x,.str name tk,v],[]⟩) R s:=by
 have SF:=PySem.F.store_object
 obtain⟨rs,hm⟩:=C7 hp
 have ne:cd.mro.isEmpty=false:=by rw [hm];cases rs <;> rfl
 have sub:Looks (model prog w) s.heap (isInstance (.ref x) (.type "object")) true:=I.type.andThen (looks_mroIn X (by unfold mroIn;rw [hc,c7,if_neg (by rw [ne];decide),hm,Qj rs (by decide +kernel)]))
 refine cI SF.slot.plain SF.entry (@check_slot (model prog w) _ _ s "object.__setattr__" "object" "__setattr__" (.ref x) [.str name tk,v] [] _ SF.kind SF.split sub (SF.args (.ref x) (.str name tk) v) ?_)
 have hmr:Looks (model prog w) s.heap (mroOf (.ref C)) cd.mro:=(looks_clsIn X hc).andThen .now
 rw [osa_eq,refuse_eq]
 refine af (af (I.type.here (af (hmr.here ?_))))
 rw [hm,Ro]
 refine al (af (I.type.here (af ((looks_findIn X ht).here (af (al ?_))))))
 exact h
end
section
variable {prog:aI} {w:bq} {A:bt} {E:Value->ah->Prop} {s:ah} {K:aa} {x dx C f:Addr} {mA:Str->Option Value} {name:Str} {v:Value} {vs:Array Value}
theorem aq8 {ns:List Str} {Q:Unit->ah->Prop} {cd:ClassData} (X:K.In s.heap) (hx:s.heap.get? x=some (Au C (some dx) vs)) (hn:s.heap.Ns1 dx mA) (hne:dx≠x)
  (hs:findIn K (.ref C) "__setattr__" = some (some (.builtin "object.__setattr__"))) (hc:iX K C=some cd) (hp:A4 cd.mro=true) (hd':cd.hasDict=true) (ht:findIn K (.ref C) name=some none)
  (hw:cT mA ns) (hsz:ns.length<=sizeLine)
  (h:∀ h',h'.get? x=some (Au C (some dx) vs)->h'.Ns1 dx (fun y=>if y=name then some v else mA y)->fq dx s.heap h'->Q () { s with heap:=h',toks:=s.toks+2 }) :
  aS (model prog w) A (i5 (.ref x) name v) Q E s:=by
 obtain⟨od,ho,hl⟩:=Gj hn
 have J:dN s.heap x (Au C (some dx) vs) C (some od):=⟨hx,rfl,rfl,ho⟩
 refine set_plain X J hs (Ls (s:={ s with toks:=s.toks+1 }) X J hc hp ht ?_)
 refine af (al (af (af (fF hx (af (Looks.here (s:={ s with toks:=s.toks+1 }) (looks_clsIn X hc) ?_))))))
 rw [hd']
 refine al (a:=some dx) (af (al (af ?_)))
 refine iO (s:={ s with toks:=s.toks+1 }) hn fun h' hn2 hs2=>?_
 obtain⟨oD,esD,epD,hoD,hdD,hcD⟩:=hn2.count (PySem.Within.cons name v hw)
 refine af (gk hoD (by rw [hdD];exact gi (aM hcD (by rw [ax];omega))) ?_)
 exact al (h _ ((hs2.2 _ (dj hne)).trans hx) hn2 hs2)
theorem ag0 {Q:Unit->ah->Prop} {cd:ClassData} (X:K.In s.heap) (hx:s.heap.get? x=some (Au C none vs))
  (hs:findIn K (.ref C) "__setattr__" = some (some (.builtin "object.__setattr__"))) (hc:iX K C=some cd) (hp:A4 cd.mro=true) (hd':cd.hasDict=true) (ht:findIn K (.ref C) name=some none)
  (h:∀ h',h'.get? x=some (Au C (some s.heap.objs.size) vs)->h'.Ns1 s.heap.objs.size (fun y=>if y=name then some v else none)->(∀ b o,b≠x->s.heap.get? b=some o->h'.get? b=some o)->Q () { s with heap:=h',toks:=s.toks+2 }) :
  aS (model prog w) A (i5 (.ref x) name v) Q E s:=by
 have J:dN s.heap x (Au C none vs) C none:=⟨hx,rfl,rfl,bn⟩
 refine set_plain X J hs (Ls (s:={ s with toks:=s.toks+1 }) X J hc hp ht ?_)
 refine af (al (af (af (fF hx (af (Looks.here (s:={ s with toks:=s.toks+1 }) (looks_clsIn X hc) ?_))))))
 rw [hd']
 rw [if_neg (by decide)]
 refine af (wpAny_alloc (af (wpAny_update (ag _ hx) ?_)))
 refine al (a:=some s.heap.objs.size) (af (al (af ?_)))
 have e1:(s.heap.push emptyDict).get? s.heap.objs.size=some emptyDict:=aL s.heap rfl
 have hne:x≠s.heap.objs.size:=bi (aJ hx)
 have e2:((s.heap.push emptyDict).update x fun o=>{ o with dict:=some s.heap.objs.size }).get? s.heap.objs.size=some emptyDict:=by rw [bb _ _ hne];exact e1
 have e3:((s.heap.push emptyDict).update x fun o=>{ o with dict:=some s.heap.objs.size }).get? x=some (Au C (some s.heap.objs.size) vs):=bN _ (ag _ hx) rfl
 have n0:((s.heap.push emptyDict).update x fun o=>{ o with dict:=some s.heap.objs.size }).Ns s.heap.objs.size (fun _=>none):=⟨emptyDict,#[],_,e2,rfl,(fun e he=>absurd he (by simp)),fun _=>rfl⟩
 refine iO (s:={ s with heap:=(s.heap.push emptyDict).update x fun o=>{ o with dict:=some s.heap.objs.size },toks:=s.toks+1 }) (Heap.Ns1.of_empty n0) fun h' hn2 hs2=>?_
 obtain⟨oD,esD,epD,hoD,hdD,hcD⟩:=hn2.count (ns:=[name]) (fun y hy=>by
  by_cases e:y=name
  ·rw [e];simp
  ·exact absurd (by rw [if_neg e]) hy)
 refine af (gk hoD (by rw [hdD];exact gi (aM hcD (by show 1<=sizeLine+1;decide))) ?_)
 refine al (h _ ((hs2.2 _ hne).trans e3) hn2 fun b o hb e=>?_)
 have hbs:b≠s.heap.objs.size:=bi (aJ e)
 refine (hs2.2 b hbs).trans ?_
 show ((s.heap.push emptyDict).update x _).get? b=some o
 rw [bb _ _ (dj hb)]
 exact ag _ e
end
end L2
namespace L2
open PySem PySem.Spec PySem.W Builtin Builtin.ObjectAttr
open Sem (wp)
structure ECls (K:aa) (C:Addr):Prop where
 obj:∃ nm q N bs bm hdct sn sub ab col dd k0 k1 k2 k3 k5,K.lookup C=some (c5 nm q C N bs bm hdct sn sub ab col dd k0 k1 k2 k3 k5 "ValueError.__new__")/\A4 bm=true/\hdct=true
 sa:findIn K (.ref C) "__setattr__" = some (some (.builtin "object.__setattr__"))
 ga:findIn K (.ref C) "__getattribute__" = some (some (.builtin "BaseException.__getattribute__"))
 gt:findIn K (.ref C) "__getattr__" = some none
 ca:findIn K (.ref C) "__class__" = some (some (.builtin "object.__class__"))
 hn:specialIn K (.builtin "object.__class__") "__get__" = some (some (.builtin "getset_descriptor.__get__"))
 htk:takesIn K (.builtin "object.__class__")=some true
theorem Bp {bm:List Value} (h:A4 bm=true) {T:String} {b:Bool} (hb:valTail.contains (.type T)=b):bm.contains (.type T)=b:=by
 obtain⟨rs,rfl⟩:=C7 h
 induction rs with
 | nil=>exact hb
 | cons a r ih=>
  have h':A4 (r.map aC++valTail)=true:=by
   cases r <;> exact h
  rw [ba,gc,a0,ih h']
  rfl
section
variable {M:Model} {A:bt} {E:Value->ah->Prop} {h:Heap} {g:Array iP} {d:Drawn} {t:Nat} {os:OsState}
variable {nm q:Str} {C N:Addr} {bs bm:List Value} {hdct:Bool} {sn:List Str} {sub:List Value} {ab:Bool} {col:Option Bool} {dd:Option Addr} {k0 k1 k2 k3 k5:Option Value}
theorem Dj (T:A4 bm=true) {rest:List Value} {Q:Unit->ah->Prop} (hC:h.get? C=some (c5 nm q C N bs bm hdct sn sub ab col dd k0 k1 k2 k3 k5 "ValueError.__new__"))
  (hq:Q () ⟨h,g,d,t,os⟩):aS M A (eP "ValueError.__new__" ⟨.ref C::rest,[]⟩) Q E ⟨h,g,d,t,os⟩:=by
 have F:=cw
 have hcont:(aC C::bm).contains (.type "ValueError")=true:=by rw [a0,Bp T (show valTail.contains (.type "ValueError")=true by decide +kernel),cR]
 have hstar:=F.noStar
 simp only [eP,F.newKind,F.newSplit,F.newRow]
 repeat (first|refine a_ hC ?_|(refine bQ hC ?_;rw [hcont])|refine wpAny_staticBase_exc hC ?_|refine gm hC ?_|simp only [bne_self_eq_false,ii,if_false] | wp_step)
 exact hq
end
section
variable {prog:aI} {w:bq} {A:bt} {R:iJ->ah->Prop} {h:Heap} {g:Array iP} {d:Drawn} {t:Nat} {os:OsState}
variable {nm q:Str} {C N:Addr} {bs bm:List Value} {hdct:Bool} {sn:List Str} {sub:List Value} {ab:Bool} {col:Option Bool} {dd:Option Addr} {k0 k1 k2 k3 k5:Option Value}
theorem De (T:A4 bm=true) {rest:List Value} (hC:h.get? C=some (c5 nm q C N bs bm hdct sn sub ab col dd k0 k1 k2 k3 k5 "ValueError.__new__"))
  (hq:R (.ok (.ret (.ref (h.objs.size+1)))) ⟨(h.push { cls:=.type "tuple", data:=.seq rest.toArray }).push
   {cls:=.ref C,data:=.fields #[.ref h.objs.size,.none,.none,.none,.bool false,.none] },g,d,t,os⟩) (hrest:rest.length<=sizeLine) :
  dJ (model prog w) A (.builtin "ValueError.__new__" ⟨.ref C::rest,[]⟩) R ⟨h,g,d,t,os⟩:=by
 have F:=cw
 have hends:=F.ends
 have hcB:(aC C::bm).contains (.type "ValueError")=true:=by rw [a0,Bp T (show valTail.contains (.type "ValueError")=true by decide +kernel),cR]
 have hcA:(aC C::bm).contains (.type "AttributeError")=false:=by rw [a0,Bp T (show valTail.contains (.type "AttributeError")=false by decide +kernel)];rfl
 have hcN:(aC C::bm).contains (.type "NameError")=false:=by rw [a0,Bp T (show valTail.contains (.type "NameError")=false by decide +kernel)];rfl
 refine codeAny_builtinAt F.entry ?_
 unfold aY.«BaseException.__new__»
 refine wpAt_bind ?_
 show wpAt _ _ _ (stack >>= _) _ _ _
 refine wpAt_bind (wpAt_stack fun p below=>wpAt_of_wpAny ?_)
 wp_walk
 refine wpAt_of_wpAny ?_
 rw [F.owner]
 repeat (first|with_reducible refine wpAny_madeHere_exc F.canon hC ?_|with_reducible refine a_ hC ?_|(with_reducible refine bQ hC ?_;first|rw [hcB] | rw [hcA] | rw [hcN])|wp_step)
 show R _ _
 rw [cH]
 exact hq
end
end L2
namespace L2
open PySem PySem.Spec PySem.W Builtin Builtin.ObjectAttr
open Sem (wp)
section
variable {prog:aI} {w:bq} {A:bt} {E:Value->ah->Prop} {h:Heap} {g:Array iP} {d:Drawn} {t:Nat} {os:OsState}
variable {nm q:Str} {C N f:Addr} {bs bm:List Value} {hdct:Bool} {sn:List Str} {sub:List Value} {ab:Bool} {col:Option Bool} {dd:Option Addr} {k0 k1 k2 k3 k5:Option Value}
noncomputable abbrev Ca (h:Heap) (C:Addr) (rest:List Value):Heap:=(h.push { cls:=.type "tuple", data:=.seq rest.toArray }).push { cls:=.ref C,data:=.fields #[.ref h.objs.size,.none,.none,.none,.bool false,.none] }
theorem F7 (T:A4 bm=true) {rest:List Value} {Q:Fin->ah->Prop}
  (hC:h.get? C=some (c5 nm q C N bs bm hdct sn sub ab col dd k0 k1 k2 k3 k5 "ValueError.__new__"))
  (hi:Looks (model prog w) h (dZ (.ref C) "__init__") (some (.ref f))) (hb:∀ self,Looks (model prog w) h (fX (.ref f) self) (.ref f,[self]))
  (hq:aS (model prog w) A (call (.ref f) (.ref (h.objs.size+1)::rest)) (fun v s'=>v=.none/\Q (.done (.ret (.ref (h.objs.size+1)))) s') E ⟨Ca h C rest,g,d,t,os⟩) (hrest:rest.length<=sizeLine) :
  aS (model prog w) A (aY.«type.__call__» ⟨.ref C::rest,[]⟩) Q E ⟨h,g,d,t,os⟩:=by
 have F:=cw
 repeat (first|with_reducible refine a_ hC ?_|with_reducible refine gm hC ?_|wp_step)
 refine fA (d6 _ F.quiet) (Dj T hC ?_)
 refine De T hC ?_ hrest
 show aS _ _ _ _ _ _
 have kp:∀ b o,h.get? b=some o->(Ca h C rest).get? b=some o:=fun b o e=>ag _ (ag _ e)
 have hC₁:=kp _ _ hC
 have hget:(Ca h C rest).get? (h.objs.size+1)=some { cls:=.ref C,data:=.fields #[.ref h.objs.size,.none,.none,.none,.bool false,.none] }:=by heap_get
 have hcC:(aC C::bm).contains (.ref C)=true:=by simp
 unfold isInstance
 repeat (first|with_reducible refine a_ hget ?_|(with_reducible refine bQ hC₁ ?_;rw [hcC])|wp_step)
 show aS _ _ (dZ (.ref C) _) _ _ _
 refine (hi.keeps kp).at ?_
 refine bR (af (((hb _).keeps kp).at ?_))
 refine af (cg hq (fun v s' z=>?_) fun _ _ z=>z)
 obtain⟨rfl,z⟩:=z
 exact al (al z)
theorem ab1 (T:A4 bm=true) {rest:List Value} {R:iJ->ah->Prop}
  (hC:h.get? C=some (c5 nm q C N bs bm hdct sn sub ab col dd k0 k1 k2 k3 k5 "ValueError.__new__"))
  (hi:Looks (model prog w) h (dZ (.ref C) "__init__") (some (.ref f))) (hb:∀ self,Looks (model prog w) h (fX (.ref f) self) (.ref f,[self]))
  (hq:dJ (model prog w) (A.under (.builtin "type.__call__" ⟨.ref C::rest,[]⟩)) (.call (.ref f) ⟨.ref (h.objs.size+1)::rest,[]⟩) (InitBack (h.objs.size+1) R) ⟨Ca h C rest,g,d,t,os⟩) (hrest:rest.length<=sizeLine) :
  dJ (model prog w) A (.call (.ref C) ⟨rest,[]⟩) R ⟨h,g,d,t,os⟩:=by
 have f1:=tc_lookup
 have f2:=tc_bind (.ref C)
 have hT:(⟨h,g,d,t,os⟩:ah).TypeIs (.ref C) "type" := ⟨_,hC,rfl⟩
 refine codeAny_of_tree ?_
 show aS _ _ (callAny (.ref C) _) _ _ _
 repeat (any_goals (first|assumption|with_reducible refine a_ hC ?_|wp_step))
 refine⟨rfl,?_⟩
 refine fY (d6 _ (by decide +kernel)) entry_typeCall (fE hC (F7 T hC hi hb (dE (eK hq fun r s' z=>?_)) hrest))
 rcases r with e|(v|_|_|_) <;> first|exact z|exact z.elim
theorem Ff (T:A4 bm=true) {rest:List Value} {Q:Fin->ah->Prop}
  (hC:h.get? C=some (c5 nm q C N bs bm hdct sn sub ab col dd k0 k1 k2 k3 k5 "ValueError.__new__"))
  (hi:Looks (model prog w) h (dZ (.ref C) "__init__") (some (.builtin "ValueError.__init__")))
  (hq:∀ h' e,Heap.MadeExcOf h h' e (.ref C) rest->e=h.objs.size+1->Q (.done (.ret (.ref e))) ⟨h',g,d,t,os⟩) (hrest:rest.length<=sizeLine) :
  aS (model prog w) A (aY.«type.__call__» ⟨.ref C::rest,[]⟩) Q E ⟨h,g,d,t,os⟩:=by
 have F:=cw
 repeat (first|with_reducible refine a_ hC ?_|with_reducible refine gm hC ?_|wp_step)
 refine fA (d6 _ F.quiet) (Dj T hC ?_)
 refine De T hC ?_ hrest
 show aS _ _ _ _ _ _
 have kp:∀ b o,h.get? b=some o->(Ca h C rest).get? b=some o:=fun b o e=>ag _ (ag _ e)
 have hC₁:=kp _ _ hC
 have hget:(Ca h C rest).get? (h.objs.size+1)=some { cls:=.ref C,data:=.fields #[.ref h.objs.size,.none,.none,.none,.bool false,.none] }:=by heap_get
 have hcC:(aC C::bm).contains (.ref C)=true:=by simp
 have hcB:(aC C::bm).contains (.type "ValueError")=true:=by rw [a0,Bp T (show valTail.contains (.type "ValueError")=true by decide +kernel),cR]
 unfold isInstance
 repeat (first|with_reducible refine a_ hget ?_|(with_reducible refine bQ hC₁ ?_;rw [hcC])|wp_step)
 show aS _ _ (dZ (.ref C) _) _ _ _
 refine (hi.keeps kp).at ?_
 refine bR (af (wpAny_of_eq (F.init.bind _) ?_))
 have chk:∀ {Q':Unit->ah->Prop} {E':Value->ah->Prop} {A':bt},Q' () ⟨Ca h C rest,g,d,t,os⟩->aS (model prog w) A' (eP "ValueError.__init__" ⟨.ref (h.objs.size+1)::rest,[]⟩) Q' E' ⟨Ca h C rest,g,d,t,os⟩:=fun {Q' E' A'} hq'=>by
  have hshort:=F.noStar
  simp only [eP,F.initKind,F.initSplit,F.initRow]
  repeat (first|with_reducible refine a_ hget ?_|with_reducible refine a_ hC₁ ?_|(with_reducible refine bQ hC₁ ?_;rw [hcB])|wp_step)
  refine wpAny_onRaise ?_
  rw [show ∀ (a b:String) (n:Nat),Bind.check ⟨.positional, "*", "ValueError", .self,[⟨"args", .varPos,false⟩]⟩ a b n (iQ (fun x=>x.fst) ({ pos:=aC (h.objs.size+1)::rest }:Args).kw)=pure () from
   fun a b n=>check_star_args _ _ _ _ _ _]
  exact al hq'
 refine af (dE (cI F.init.plain F.initEntry (chk ?_)))
 wp_walk
 refine hq _ _ ⟨fun b o hb=>?_,eQ (du _),h.objs.size+2,?_,eQ (by omega),?_⟩ rfl
 ·rw [bb _ _ (gG (Nat.lt_succ_of_lt (aJ hb)))]
  exact ag _ (ag _ (ag _ hb))
 ·rw [bN _ (ag _ hget) rfl]
  simp only [cH]
  rfl
 ·rw [bb _ _ (show h.objs.size+1≠h.objs.size+2 by omega)]
  exact Heap.get?_push_at (by simp only [cH]) rfl
theorem We (T:A4 bm=true) {rest:List Value} {R:iJ->ah->Prop}
  (hC:h.get? C=some (c5 nm q C N bs bm hdct sn sub ab col dd k0 k1 k2 k3 k5 "ValueError.__new__"))
  (hi:Looks (model prog w) h (dZ (.ref C) "__init__") (some (.builtin "ValueError.__init__")))
  (hq:∀ h' e,Heap.MadeExcOf h h' e (.ref C) rest->e=h.objs.size+1->R (.ok (.ret (.ref e))) ⟨h',g,d,t,os⟩) (hrest:rest.length<=sizeLine) :
  dJ (model prog w) A (.call (.ref C) ⟨rest,[]⟩) R ⟨h,g,d,t,os⟩:=by
 have f1:=tc_lookup
 have f2:=tc_bind (.ref C)
 have hT:(⟨h,g,d,t,os⟩:ah).TypeIs (.ref C) "type" := ⟨_,hC,rfl⟩
 refine codeAny_of_tree ?_
 show aS _ _ (callAny (.ref C) _) _ _ _
 repeat (any_goals (first|assumption|with_reducible refine a_ hC ?_|wp_step))
 refine⟨rfl,?_⟩
 exact fY (d6 _ (by decide +kernel)) entry_typeCall (fE hC (Ff T hC hi hq hrest))
end
end L2
namespace L2
open PySem PySem.Spec PySem.W PyProof.Rows
theorem ECls.cls {K:aa} {C:Addr} (c:ECls K C):∃ cd,iX K C=some cd/\A4 cd.mro=true/\cd.hasDict=true:=by
 obtain⟨nm,q,N,bs,bm,hdct,sn,sub,ab,col,dd,k0,k1,k2,k3,k5,hl,ht,hd⟩:=c.obj
 refine⟨_,by unfold iX;rw [hl],?_,hd⟩
 obtain⟨rs,e⟩:=C7 ht
 show A4 (aC C::bm)=true
 rw [e]
 clear e
 show A4 (iQ aC (C::rs)++valTail)=true
 have:∀ l:List Addr,A4 (iQ aC l++valTail)=true:=fun l=>by
  induction l with
  | nil=>decide +kernel
  | cons a r ih=>cases r <;> exact ih
 exact this _
theorem ECls.sub {K:aa} {C:Addr} (c:ECls K C) {T:String} (h:valTail.contains (.type T)=true):mroIn K C (.type T)=some true:=by
 obtain⟨cd,h1,h2,_⟩:=c.cls
 obtain⟨rs,e⟩:=C7 h2
 unfold mroIn
 rw [h1,c7,e,Qj rs h,if_neg]
 cases rs <;> exact ak
section
variable {prog:aI} {w:bq} {A:bt} {E:Value->ah->Prop} {s:ah} {K:aa} {x C:Addr} {ox:Obj} {od:Option Obj} {name:Str}
theorem Zt {g a v:Value} {Q:Option Value->ah->Prop} (X:K.In s.heap) (I:dN s.heap x ox C od) (hga:ac K (.ref C) "__getattribute__" = some (some (.builtin "BaseException.__getattribute__"))) (hgt:ac K (.ref C) "__getattr__" = some none)
  (hB:cZ K C (.type "BaseException")=some true) (hf:PySem.W.findObj K C od name=some (.bind g a)) (hh:dO v=true)
  (h:∀ {A':bt} {R:iJ->ah->Prop},R (.ok (.ret v)) { s with toks:=s.toks+1 }->dJ (model prog w) A' (.call g ⟨[a,.ref x,.ref C],[]⟩) R { s with toks:=s.toks+1 }) (hq:Q (some v) { s with toks:=s.toks+1 }) :
  aS (model prog w) A (getAttr? (.ref x) name) Q E s:=by
 obtain⟨hp,gg,d,t,os⟩:=s
 have L0:=I.type (M:=model prog w)
 have L1:=ci (M:=model prog w) X hga
 have L2:=ci (M:=model prog w) X hgt
 have L3:=ik (M:=model prog w) X I hf
 have L4:=hX (M:=model prog w) X hB
 unfold getAttr? getAttrBy? getAttrBy
 refine af (wpAny_mkText (af (iz (bR (af (L0.at (af (L1.at ?_))))))))
 have hx2:(ck "BaseException.__getattribute__" == ck "object.__getattribute__")=false:=by decide +kernel
 have hx1:(iY (aC C)&&ck "BaseException.__getattribute__" == ck "object.__getattribute__")=false:=by rw [hx2];rfl
 dsimp only
 rw [hx1,if_neg ak]
 unfold getAttrByItsOwn
 refine af (show aS _ _ (dZ (.ref C) "__getattr__") _ _ _ from L2.at ?_)
 refine af (iz (bR ?_))
 have hx0:(false&&iY (ck "BaseException.__getattribute__"))=false:=rfl
 unfold callGetattribute
 rw [hx0,if_neg ak]
 unfold boundAndCalled
 rw [Pa]
 refine af (al ?_)
 refine dE (cI (by decide +kernel) F.entry_bexc_ga (check_slot (i := "BaseException.__getattribute__") (owner := "BaseException") (n := "__getattribute__") (by decide +kernel) (by decide +kernel) (L0.andThen L4) (F.args_bexc_ga _ _) ?_))
 unfold aY.«object.__getattribute__»
 refine af (al (af (al (af (L0.at (af (L3.at ?_)))))))
 refine af (bR (dE (h ?_)))
 refine al ?_
 show aS _ _ (handedOut v) _ _ _
 rw [g7 hh]
 exact al (al hq)
theorem Kw {a g:Value} (hc:(iX K C).isSome=true) (ha:findIn K (.ref C) name=some (some a)) (hg:specialIn K a "__get__" = some (some g)) (ht:takesIn K a=some true):findObj K C od name=some (.bind g a):=by
 obtain⟨cd,hc⟩:=Option.isSome_iff_exists.mp hc
 unfold findObj
 rw [hc,c7,ha,c7]
 simp [hg,ht]
theorem V3 {Q:Option Value->ah->Prop} (c:ECls K C) (X:K.In s.heap) (I:InstAt s.heap x ox C od) (h:Q (some (.ref C)) { s with toks:=s.toks+1 }):aS (model prog w) A (getAttr? (.ref x) "__class__") Q E s:=by
 have hf:findObj K C od "__class__" = some (.bind (.builtin "getset_descriptor.__get__") (.builtin "object.__class__")):=Kw (by obtain⟨cd,hc,_⟩:=c.cls;rw [hc];rfl) c.ca c.hn c.htk
 exact Zt (v:=.ref C) X I c.ga c.gt (c.sub (by decide +kernel)) hf rfl (fun q=>class_get (s:={ s with toks:=s.toks+1 }) (ox:=ox) (od:=od) X I (c.sub (by decide +kernel)) q) h
end
theorem Px {K:aa} {x D:Addr} (c:ECls K D):KitX K (.ref x) (.ref D) (fun h=>∃ ox od,InstAt h x ox D od) where
 ty:=fun _ _ _ ⟨_,_,I⟩=>I.type
 it:=fun _ _ X _=>by
  obtain⟨cdD,hcD,_⟩:=c.cls
  unfold iX at hcD
  split at hcD
  ·rename_i c' d' cd' sl' ho
   intro A' Q' E' s' k q
   unfold isType loadHead
   exact af (fF (k _ _ (X _ _ ho)) (al q))
  ·cases hcD
 ne:=fun h tp dd its n sl X htp=>by
  obtain⟨cdD,hcD,_⟩:=c.cls
  refine Bool.eq_false_iff.mpr fun q=>?_
  have e:D=tp:=Value.ref.inj (beq_iff_eq.mp q)
  subst e
  unfold iX at hcD
  split at hcD
  ·rename_i c' d' cd' sl' ho
   have z:=(X _ _ ho).symm.trans htp
   cases z
  ·cases hcD
 ca:=fun X ⟨_,_,I⟩ k=>V3 c X I k
noncomputable def ExcAt (H:Hp) (a C:Addr) (fs:List (Str×V)):Prop:=(fs=[]/\(H a=some (E2 a C none)\/FlO H a C none)) \/ ∃ dx,dx≠a/\(H a=some (E2 a C (some dx))\/FlO H a C (some dx))/\H dx=some (xdO dx fs)
inductive TyX (K:aa) (H:Hp) (x:V) (t:Value):Prop where
 | of (h:TyOf K H x t)
 | exc {a C:Addr} {fs:List (Str×V)} (ex:x=.ref a) (e:ExcAt H a C fs) (c:ECls K C) (et:t=.ref C)
 | sqT {a:Addr} {xs:List V} (ex:x=.ref a) (e:SqT K H a xs) (et:t=.type "tuple")
 | sqL {a:Addr} {xs:List V} (ex:x=.ref a) (e:SqL K H a xs) (et:t=.type "list")
section
variable {X:Cx} {pins:List (Addr×Obj)} {σ:St} {H:Hp} {s:ah} {A:bt} {E:Value->ah->Prop} {a C:Addr} {fs:List (Str×V)}
theorem Ic {dx:Option Addr} (I:Inv X pins σ H s) (e:H a=some (E2 a C dx)):∃ vs:Array Value,s.heap.get? a=some (Au C dx vs)/\vs.size=6/\vs[1]? = some .none/\vs[2]? = some .none:=(I.hok a _ e).1
theorem Zl {dx:Option Addr} (I:Inv X pins σ H s) (e:H a=some (flO a C dx)):∃ vs:Array Value,s.heap.get? a=some (Au C dx vs)/\vs.size=6/\vs[2]? = some .none:=(I.hok a _ e).1
theorem Ue {dx:Option Addr} (I:Inv X pins σ H s) (e:H a=some (E2 a C dx)\/FlO H a C dx):∃ vs:Array Value,s.heap.get? a=some (Au C dx vs)/\vs.size=6:=by
 rcases e with e|e|e
 ·obtain⟨vs,h1,h2,_⟩:=Ic I e;exact⟨vs,h1,h2⟩
 ·obtain⟨vs,h1,h2,_⟩:=Zl I e;exact⟨vs,h1,h2⟩
 ·exact (I.hok a _ e).1
theorem ay6 {dx:Addr} (I:Inv X pins σ H s) (e:H dx=some (xdO dx fs)):fs.length<=1000 /\ ∃ mA,s.heap.Ns1 dx mA/\(∀ f,RelO (fs.lookup f) (mA f))/\cT mA (fs.map (·.1)):=(I.hok dx _ e).1
theorem ExcAt.inst (I:Inv X pins σ H s) (e:ExcAt H a C fs):∃ vs dx od,InstAt s.heap a (Au C dx vs) C od/\(∀ o,od=some o -> ∀ name,∃ v,lookIn name o=some v/\RelO (fs.lookup name) v)/\(od=none->fs=[]):=by
 rcases e with ⟨rfl,e⟩|⟨dx,ne,e,ed⟩
 ·obtain⟨vs,h1,_⟩:=Ue I e
  exact⟨vs,none,none,⟨h1,rfl,rfl,bn⟩,fun o z=>(nomatch z),fun _=>rfl⟩
 ·obtain⟨vs,h1,_⟩:=Ue I e
  obtain⟨_,mA,hn,hr,_⟩:=ay6 I ed
  obtain⟨od,ho,hl⟩:=Gj hn
  refine⟨vs,some dx,some od,⟨h1,rfl,rfl,ho⟩,fun o z name=>?_,fun z=>nomatch z⟩
  cases z
  exact⟨_,hl name,hr name⟩
theorem Ij {Q:Value->ah->Prop} {c:Value} {b:Bool} {x:V} {u t:Value} (I:Inv X pins σ H s) (rx:RelV x u) (ty:TyX X.K H x t) (e:bV X.K t c=some b) (h:∀ tk,Q (.bool b) { s with toks:=tk }) :
  aS (model X.prog X.w) A (call (.builtin "isinstance") [u,c]) Q E s:=by
 cases ty with
 | of ty=>exact Ln I rx ty e h
 | @exc a C fs ex ea cl et=>
  subst ex et
  cases (show u=aC a from rx)
  obtain⟨vs,dx,od,J,_⟩:=ea.inst I
  exact bH (Px cl) I.kIn ⟨_,_,J⟩ e (fun z=>nomatch z) h
 | @sqT a xs ex q et=>
  subst ex et
  cases (show u=aC a from rx)
  obtain⟨_,_,⟨o,h1,h2,_⟩,_⟩:=I.tuple q
  exact bH ft I.kIn ⟨o,h1,h2⟩ e (fun z=>nomatch z) h
 | @sqL a xs ex q et=>
  subst ex et
  cases (show u=aC a from rx)
  obtain⟨_,_,⟨o,_,h1,h2,_⟩,_⟩:=I.list q
  exact bH eE I.kIn ⟨o,h1,h2⟩ e (fun z=>nomatch z) h
theorem V7 {b:Bool} {f:Str} {v:V} {Q:Value->ah->Prop} (I:Inv X pins σ H s) (e:ExcAt H a C fs) (c:ECls X.K C) (n:NoAttr X.K C f) (l:fs.lookup f=some v)
  (h:∀ u s',Inv X pins σ H s'->RelV v u->Q u s'):aS (model X.prog X.w) A (iD (.ref a) f b) Q E s:=by
 obtain⟨vs,dx,od,J,hl,hn⟩:=e.inst I
 obtain⟨cd,hc,_,hd⟩:=c.cls
 cases od with
 | none=>rw [hn rfl] at l;cases l
 | some o=>
  obtain⟨u?,h1,h2⟩:=hl o rfl f
  rw [l] at h2
  obtain⟨u,hu,ru⟩:=RelO.some_of h2
  subst hu
  refine al3 I.kIn J c.ga c.gt (c.sub (by decide +kernel)) (hW (by unfold hasDictIn;rw [hc];exact hd) n rfl h1) (Lk ru) (h u _ (I.tok _) ru)
noncomputable def bv6 (H:Hp) (a C:Addr) (f:Str) (y:V) (N:Hp->Prop):Prop:=
 (H a=some (E2 a C none) /\ ∀ dx,H dx=none->dx≠a->N (upd (upd H dx (xdO dx [(f,y)])) a (E2 a C (some dx)))) \/
 ∃ dx fs,dx≠a/\H a=some (E2 a C (some dx))/\H dx=some (xdO dx fs)/\fs.length<1000/\N (upd H dx (xdO dx (Ea f y fs)))
theorem Mr {P:aI} {w:bq} {H:Hp} {h:Heap} {dx:Option Addr} {vs:Array Value} (h1:h.get? a=some (Au C dx vs)) (h2:vs.size=6) (h3:vs[1]? = some .none) (h4:vs[2]? = some .none):ObjOk P w H h a (E2 a C dx):=
 ⟨⟨vs,h1,h2,h3,h4⟩,⟨_,h1⟩,fun _ _ ⟨vs',q1,q2⟩ k=>⟨vs',k _ q1,q2⟩⟩
theorem Zk {P:aI} {w:bq} {H:Hp} {h:Heap} {dx:Option Addr} {vs:Array Value} (h1:h.get? a=some (Au C dx vs)) (h2:vs.size=6) (h4:vs[2]? = some .none):ObjOk P w H h a (flO a C dx):=
 ⟨⟨vs,h1,h2,h4⟩,⟨_,h1⟩,fun _ _ ⟨vs',q1,q2⟩ k=>⟨vs',k _ q1,q2⟩⟩
theorem Zg {P:aI} {w:bq} {H:Hp} {h:Heap} {dx:Option Addr} {vs:Array Value} (h1:h.get? a=some (Au C dx vs)) (h2:vs.size=6):ObjOk P w H h a (fcO a C dx):=
 ⟨⟨vs,h1,h2⟩,⟨_,h1⟩,fun _ _ ⟨vs',q1,q2⟩ k=>⟨vs',k _ q1,q2⟩⟩
theorem aj6 {P:aI} {w:bq} {H:Hp} {h:Heap} {dx:Addr} {mA:Str->Option Value} (z:fs.length<=1000) (h1:h.Ns1 dx mA) (h2:∀ f,RelO (fs.lookup f) (mA f)) (h3:cT mA (fs.map (·.1))):ObjOk P w H h dx (xdO dx fs):=
 ⟨⟨z,mA,h1,h2,h3⟩,(let ⟨o,_,_,e,_⟩:=h1;⟨o,e⟩),fun _ _ ⟨z',mB,q1,q2,q3⟩ k=>⟨z',mB,q1.at k,q2,q3⟩⟩
theorem Wv {f:Str} {y:V} {u:Value} {Q:Unit->ah->Prop} {N:Hp->Prop} (I:Inv X pins σ H s) (c:ECls X.K C) (n:NoAttr X.K C f) (ry:RelV y u) (h0:bv6 H a C f y N)
  (h:∀ H' s',Inv X pins σ H' s'->N H'->Q () s'):aS (model X.prog X.w) A (i5 (.ref a) f u) Q E s:=by
 obtain⟨cd,hc,hp,hd⟩:=c.cls
 rcases h0 with ⟨e,hN⟩|⟨dx,fs,ne,e,ed,hz,hN⟩
 ·obtain⟨vs,h1,h2,h3,h4⟩:=Ic I e
  refine ag0 I.kIn h1 c.sa hc hp hd n fun h' q1 q2 q3=>?_
  have fr:H s.heap.objs.size=none:=I.hok.fresh (ae _)
  have ane:s.heap.objs.size≠a:=fun z=>by rw [z,e] at fr;cases fr
  refine h _ _ ?_ (hN _ fr ane)
  obtain⟨o,es,ep,eo,hrest⟩:=id q2
  have eo1:(s.heap.push o).get? s.heap.objs.size=some o:=aL s.heap (Heap.get?_some_iff.mp eo).2
  have I1:=I.laid (a:=s.heap.objs.size) (o:=xdO s.heap.objs.size [(f,y)]) (h':=s.heap.push o) (t':=s.toks+2) (fun b u e=>ag _ e) (ae _)
   (aj6 (by simp) (q2.at fun o' e'=>by rw [eo] at e';cases e';exact eo1) (fun g=>by
    show RelO (cW g [(f,y)]) (if g=f then some u else none)
    by_cases q:g=f
    ·rw [if_pos q,q];simp only [cW,beq_self_eq_true];exact ry
    ·rw [if_neg q];simp only [cW,beq_eq_false_iff_ne.mpr q];exact bn) (fun g hg=>by
    by_cases q:g=f
    ·rw [q];simp
    ·exact absurd (by show (if g=f then some u else none)=none;rw [if_neg q]) hg))
  exact I1.write (x:=a) (e:=a) (t':=s.toks+2) (by rw [Ap (dj ane),e];exact bn) (.inl rfl) (fun b u hb eb=>by
   by_cases hs:b=s.heap.objs.size
   ·rw [hs] at eb ⊢
    rw [eo1] at eb
    cases eb
    exact eo
   ·refine q3 b u hb ?_
    rcases Heap.get?_push_cases eb with z|z
    ·exact absurd z.1 hs
    ·exact z) ⟨_,q1⟩ (Mr q1 h2 h3 h4)
 ·obtain⟨vs,h1,h2,h3⟩:=Ic I e
  obtain⟨z,mA,hn,hr,wi⟩:=ay6 I ed
  refine aq8 (ns:=fs.map (·.1)) I.kIn h1 hn ne c.sa hc hp hd n wi (by rw [aH,cr];omega) fun h' q1 q2 q3=>?_
  refine h _ _ ?_ hN
  refine I.write (x:=dx) (e:=dx) (by rw [ed];exact bn) (.inl rfl) (fun b q hb z=>(q3.2 b hb).trans z) (let ⟨o,_,_,e',_⟩:=q2;⟨o,e'⟩) ?_
  refine aj6 ?_ q2 (fun g=>?_) (fun g hg=>?_)
  ·have:=Ej f y fs;omega
  ·show RelO ((Ea f y fs).lookup g) (if g=f then some u else mA g)
   rw [Ek]
   by_cases q:g=f
   ·rw [if_pos q,if_pos q];exact ry
   ·rw [if_neg q,if_neg q];exact hr g
  ·by_cases q:g=f
   ·rw [q];exact (Dr f y fs).1
   ·refine (Dr f y fs).2 g (wi g fun z=>hg ?_)
    show (if g=f then some u else mA g)=none
    rw [if_neg q];exact z
theorem Inv.madeX (I:Inv X pins σ H s) (C:Addr) (rest:List Value):Inv X pins σ (upd H (s.heap.objs.size+1) (E2 (s.heap.objs.size+1) C none)) { s with heap:=Ca s.heap C rest }:=by
 have hget:(Ca s.heap C rest).get? (s.heap.objs.size+1)=some (Au C none #[.ref s.heap.objs.size,.none,.none,.none,.bool false,.none]):=by heap_get
 exact I.laid (t':=s.toks) (fun b u e=>ag _ (ag _ e)) (du _) (Mr hget rfl rfl rfl)
variable {CX:CXT} {k:Nat} {f:Addr} {fd:ai} {ps:List Str} {sp:Sp} {dvs:List V} {ds us:List Value} {vs:List V} {Q:VK}
theorem Rr (c:ECls X.K C) (hi:findIn X.K (.ref C) "__init__" = some (some (.builtin "ValueError.__init__"))) (I:Inv X pins σ H s) (r:Vals vs us) (hl:vs.length<=1000) (h:∀ a,H a=none->Q (.ref a) (upd H a (E2 a C none))) :
  aS (model X.prog X.w) X.A (call (.ref C) us) (EP X pins σ Q) X.xe s:=by
 obtain⟨nm,q,N,bs,bm,hdct,sn,sub,ab,col,dd,k0,k1,k2,k3,k5,hC,ht,_⟩:=c.obj
 obtain⟨hh,g,d,t,os⟩:=s
 refine dE (We ht (I.kIn _ _ hC) (looks_findIn I.kIn hi) (fun h' e M ee=>?_) (by rw [<- r.length,cr];omega))
 subst ee
 obtain⟨kp,_,t0,q1,_,_⟩:=M
 refine⟨.ref (hh.objs.size+1),upd H (hh.objs.size+1) (E2 (hh.objs.size+1) C none),?_,rfl,h _ (I.hok.fresh (du _))⟩
 exact I.laid (t':=t) kp (du _) (Mr q1 rfl rfl rfl)
theorem Wt (c:ECls X.K C) (hi:findIn X.K (.ref C) "__init__" = some (some (.ref f))) (hf:isFn X.K (.ref f)=true) (F:FnOk X.prog X.w X.K X.mg X.base CX k f fd ps sp) (hr:Room (k+1) X.A) (hb:Binds X.K fd ps ds) (hd:Vals dvs ds)
  (I:Inv X pins σ H s) (r:Vals vs us) (hl:vs.length<=1000) {EX:XK} (hx:∀ e s1 s' H1,Inv X pins σ H1 s1->CX X.stack H1 s1 EX e s'->X.xe e s')
  (h:∀ a,H a=none->sp (.ref a::(vs++dvs)) (upd H a (E2 a C none)) (fun v H2=>v=.non/\Q (.ref a) H2) EX) :
  aS (model X.prog X.w) X.A (call (.ref C) us) (EP X pins σ Q) X.xe s:=by
 obtain⟨nm,q,N,bs,bm,hdct,sn,sub,ab,col,dd,k0,k1,k2,k3,k5,hC,ht,_⟩:=c.obj
 have hq:=h (s.heap.objs.size+1) (I.hok.fresh (du _))
 have I2:=I.madeX C us
 have r2:Vals (V.ref (s.heap.objs.size+1)::(vs++dvs)) (aC (s.heap.objs.size+1)::(us++ds)):=.cons rfl (r.append hd)
 have hlen:(aC (s.heap.objs.size+1)::us++ds).length=ps.length:=by
  have e:=r2.length
  rw [F.len _ _ _ _ hq] at e
  exact e.symm
 refine dE (ab1 (f:=f) ht (I.kIn _ _ hC) (looks_findIn I.kIn hi) (fun self=>PySem.W.bind_fn I.kIn self (beq_iff_eq.mp hf)) (eK (F.run _ X.stack { s with heap:=Ca s.heap C us } _ ⟨aC (s.heap.objs.size+1)::us,[]⟩ (aC (s.heap.objs.size+1)::(us++ds)) _ _ EX (hr.make C us [])
  (I2.env0.make C us []) (hb _ (aC (s.heap.objs.size+1)::us) I2.kIn hlen) r2 hq) fun r s' hq'=>?_) (by rw [<- r.length,cr];omega))
 cases r with
 | error e=>exact hx e _ s' _ I2 hq'
 | ok fl=>
  cases fl with
  | ret u=>
   obtain⟨v,H',I3,rv,ev,q3⟩:=I2.after hq'
   subst ev
   exact⟨rv,⟨V.ref (s.heap.objs.size+1),H',I3,rfl,q3⟩⟩
  | next=>exact b3 hq'
  | brk=>exact b3 hq'
  | cont=>exact b3 hq'
end
end L2
namespace L2
open PySem PySem.Spec PyProof.Rows
section
variable {X:Cx} {pins:List (Addr×Obj)} {σ σ0:St} {H H0:Hp} {s s0:ah} {p:Addr} {kvs:List (Key×V)} {o:Obj}
noncomputable def Vi (o:Obj) (ep:Nat):Prop:=∃ es,o.data=.dict es ep
theorem Inv.froze (I:Inv X pins σ H s) (h:H p=some (.dK kvs)):∃ ob ep,s.heap.get? p=some ob/\Vi ob ep/\Inv X pins σ (upd H p (.frz ob (.dK kvs))) s:=by
 have K:=I.hok p _ h
 obtain⟨z,y,vs,r,ob,es,ep,e,c,d,q⟩:=id K
 refine⟨ob,ep,e,⟨es,d⟩,?_⟩
 exact I.write (x:=p) (e:=p) (t':=s.toks) (h':=s.heap) (by rw [h];trivial) (.inl rfl) (fun b u _ q=>q) ⟨ob,e⟩ ⟨e,K⟩
theorem Inv.thaw (I0:Inv X pins σ0 H0 s0) (h0:H0 p=some (.dK kvs)) (I:Inv X pins σ H s) (h:H p=some (.frz o (.dK kvs))):Inv X pins σ (upd H p (.dK kvs)) s:=by
 have ne:∀ b,H b=none->b≠p:=fun b e z=>by rw [z,h] at e;cases e
 have ntup:∀ b xs,H b=some (.tup xs)->b≠p:=fun b xs e z=>by rw [z,h] at e;cases e
 have nown:∀ b c,H b=some (.own c)->b≠p:=fun b c e z=>by rw [z,h] at e;cases e
 refine⟨I.ok,I.os,I.bare,⟨I.base.keep,I.base.slot,fun b ob e n hx=>?_,I.base.there,fun b xs e=>?_,fun b ob u e=>?_,fun b ps e=>?_⟩,I.loc,I.cell,?_,fun x c e=>?_,fun q hq=>?_,fun b u e=>?_,I.len⟩
 ·have q:=I.base.free b ob e n hx
  rw [Ap (ne b q)];exact q
 ·have q:=I.base.tups b xs e
  rw [Ap (ntup b xs q)];exact q
 ·have q:=I.base.frzs b ob u e
  have n:b≠p:=fun z=>by
   have q0:=I0.base.frzs b ob u e
   rw [z,h0] at q0;cases q0
  rw [Ap n];exact q
 ·obtain⟨more,q⟩:=I.base.tbls b ps e
  have n:b≠p:=fun z=>by rw [z,h] at q;cases q
  exact⟨more,by rw [Ap n];exact q⟩
 ·rw [Ap (ne _ I.free)];exact I.free
 ·have q:=I.freeC x c e
  rw [Ap (ne _ q)];exact q
 ·obtain⟨a,b,c⟩:=I.pin q hq
  exact⟨a,by rw [Ap (ne _ b)];exact b,c⟩
 ·by_cases z:b=p
  ·subst z
   rw [Af] at e
   cases e
   exact (I.hok b _ h).2
  ·rw [Ap z] at e
   exact (I.hok b u e).stay (fun _ _ _ q=>q) (fun c q=>by rw [Ap (nown c b q)];exact q) fun c xs q=>by rw [Ap (ntup c xs q)];exact q
theorem Thaw.inv {P:Hp->Prop} (I0:Inv X pins σ0 H0 s0) (I:Inv X pins σ H s) (t:Thaw H0 H P):∃ H',Inv X pins σ H' s/\P H':=by
 rcases t with t|⟨p,o,kvs,h0,h,t⟩
 ·exact⟨H,I,t⟩
 ·exact⟨_,I0.thaw h0 I h,t⟩
theorem Inv.kdict (I:Inv X pins σ H s) (h:H p=some (.frz o (.dK kvs))) {ep:Nat} (he:Vi o ep):∃ vs,KV kvs vs/\s.heap.DictAt (A9 X.prog X.w) p vs ep/\(p==cf)=false:=by
 obtain⟨e1,z,y,vs,r,ob,es,ep',e,c,d,q⟩:=I.hok p _ h
 obtain⟨es',d'⟩:=he
 rw [e1] at e
 cases e
 have d2:=d
 rw [d'] at d2
 cases d2
 exact⟨vs,r,⟨o,_,e1,c,d,q⟩,y⟩
end
noncomputable def Itd (p:Addr) (o:Obj) (kvs:List (Key×V)):It:=
 ⟨fun i H=>H p=some (.frz o (.dK kvs))/\i<kvs.length,fun i H x H'=>H'=H /\ ∃ k v,kvs[i]? = some (k,v)/\x=kV k,fun i H=>H p=some (.frz o (.dK kvs))/\kvs.length<=i⟩
theorem aa9:∀ {kvs:List (Key×V)} {vs:List (Key×Value)} {i:Nat} {k:Key} {v:V},KV kvs vs->kvs[i]? = some (k,v) -> ∃ u,vs[i]? = some (k,u)/\RelV v u
 | _,_,0,k,v,.cons (b:=q) r _,e=>by
  simp only [fR,Option.some.injEq] at e
  subst e
  exact⟨q.2,congrArg some (Prod.ext r.1.symm rfl),r.2⟩
 | _,_,i+1,k,v,.cons r t,e=>by
  simp only [cV] at e ⊢
  exact aa9 t e
theorem av0 {P:aI} {w:bq} {k:Key} {u:Value} (h:(A9 P w).is k u=true):RelV (kV k) u:=by
 cases k with
 | inl i=>obtain⟨t,rfl⟩:=Value.isInt_shape (show iW i u=true from h);exact⟨t,rfl⟩
 | inr z=>obtain⟨t,rfl⟩:=ia (show iq z u=true from h);exact⟨t,rfl⟩
theorem Wz {P:aI} {w:bq} {K:aa} {tg:Expr} (p it:Addr) (o:Obj) (kvs:List (Key×V)) {ep:Nat} (he:Vi o ep):O6 P w K tg (Itd p o kvs) [it] it (fun i h=>h.IsKeyIter it p i kvs.length ep) where
 mem:=by simp
 obj:=fun i h st b hb=>by
  have e:b=it:=by simpa using hb
  subst e
  obtain⟨o,e,c,d⟩:=st
  exact⟨o,e,fun v z=>by rw [d] at z;cases z⟩
 keep:=fun i h h' st k=>st.at fun o e=>k it (by simp) o e
 item:=by
  intro X hP hw hK hc i pins s σ H E I hf st hg
  subst hP hw hK
  obtain⟨hH,hi⟩:=hg
  obtain⟨vs,rel,hd,hm⟩:=I.kdict hH he
  obtain⟨f0,f1,f2,f3,f4,f5⟩:=hf it (by simp)
  obtain⟨⟨k,v⟩,hx⟩:∃ q,kvs[i]? = some q:=⟨kvs[i],by simp [hi]⟩
  obtain⟨u,hu,_⟩:=aa9 rel hx
  have hl:kvs.length=vs.length:=rel.length
  rw [hl] at st
  refine wpAny_pyNext_dict_item st hd hu fun key h' hk st' sb=>?_
  have I1:Inv X pins σ H { s with heap:=h' }:=I.turned (t':=s.toks) (fun b o hb e=>sb.extBut b o hb e) f0 f1 f3 f4 f5
  obtain⟨o1,e,c,d⟩:=id st'
  exact⟨key,rfl,Lh (s:={ s with heap:=h' }) e c d (by decide) ⟨kV k,H,I1,av0 hk,⟨rfl,k,v,hx,rfl⟩,by rw [hl];exact st',fun b hb=>(hf b hb).1⟩⟩
 done:=by
  intro X hP hw hK hc i pins s σ H E I hf st hg
  subst hP hw hK
  obtain⟨hH,hi⟩:=hg
  obtain⟨vs,rel,hd,hm⟩:=I.kdict hH he
  obtain⟨f0,f1,f2,f3,f4,f5⟩:=hf it (by simp)
  have hl:kvs.length=vs.length:=rel.length
  rw [hl] at st
  exact wpAny_pyNext_dict_end (I.ok.hd hc) st hd (by simp;omega) fun h' eb=>⟨rfl,I.turned (t':=s.toks) (fun b o hb e=>eb b o hb e) f0 f1 f3 f4 f5⟩
 self:=fun _ _ _ _ _ st h=>wpAny_pyIter_keyiter st h
theorem al0 {X:Cx} {tg:Expr} {pins:List (Addr×Obj)} {σ:St} {H:Hp} {s:ah} {R:It->Hp->Prop} {E:Value->ah->Prop} {p:Addr} {o:Obj} {kvs:List (Key×V)} (I:Inv X pins σ H s) (h:H p=some (.frz o (.dK kvs)))
  (q:R (Itd p o kvs) H):aS (model X.prog X.w) X.A (pyIter (.ref p)) (PIE X pins σ tg R) E s:=by
 have he:∃ ep,Vi o ep:=by
  obtain⟨e1,z,y,vs,r,ob,es,ep,e,c,d,_⟩:=I.hok p _ h
  rw [e1] at e;cases e
  exact⟨ep,es,d⟩
 obtain⟨ep,he⟩:=he
 obtain⟨vs,rel,hd,hm⟩:=I.kdict h he
 refine wpAny_pyIter_dict hm hd ?_
 refine⟨s.heap.objs.size,[s.heap.objs.size],_,_,H,rfl,I.kept (t':=s.toks) fun b o e=>ag _ e,Wz p _ o kvs he,⟨_,aL _ rfl,rfl,by rw [rel.length];rfl⟩,fun b hb=>?_,q⟩
 have e:b=s.heap.objs.size:=by simpa using hb
 subst e
 exact I.fpOk (ae _) (I.hok.fresh (ae _))
section
variable {X:Cx}
noncomputable def av6 (K:aa):R2:=fun x y H Q=>∃ a b ys,x=.ref a/\y=.ref b/\SqT K H a []/\SqT K H b ys/\Q (.ref b) H
theorem an0:OpR X (c4 .Add) (av6 X.K):=by
 intro pins s σ H x y v u Q I rx ry h
 obtain⟨a,b,ys,rfl,rfl,ha,hb,q⟩:=h
 cases rx
 cases ry
 obtain⟨its,r1,p1,_⟩:=I.tuple ha
 obtain⟨its2,r2,p2,_⟩:=I.tuple hb
 cases r1
 obtain⟨⟨c1,d1,da1,s1⟩,ho,hc,n,hd⟩:=id p1
 obtain⟨⟨c2,d2,da2,s2⟩,ho2,hc2,n2,hd2⟩:=id p2
 simp only at hc hd hc2 hd2
 subst hc hd hc2 hd2
 exact iL ⟨_,ho,rfl⟩ ⟨_,ho2,rfl⟩ gh iu eD ei (dW _ _)
   (tuple_addW0 a b _ _ n n2 d1 d2 s1 s2 rfl) ⟨ho,ho2,⟨.ref b,H,I,rfl,q⟩⟩
noncomputable def a59 (T:String):Bool:=["int", "bool", "str", "list", "tuple", "dict"].contains T
theorem M0 {K:aa} {t:String} (ht:t = "list" \/ t = "tuple"):∀ {Ts:List String},Ts.all a59=true->df K (.type t) (Ts.map fN)=some (Ts.any fun T=>T==t)
 | [],_=>rfl
 | T::Ts,h=>by
  rw [bw,am] at h
  have hT:T = "int" \/ T = "bool" \/ T = "str" \/ T = "list" \/ T = "tuple" \/ T = "dict" := by
   have:=h.1
   unfold a59 at this
   simpa using this
  have one:bV K (.type t) (.type T)=some (T==t):=by
   rcases ht with rfl|rfl <;> rcases hT with rfl|rfl|rfl|rfl|rfl|rfl <;> rfl
  rw [ba]
  unfold df
  rw [one,d7]
  cases (T==t) with
  | true=>rfl
  | false=>exact M0 ht h.2
theorem Vg:∀ {Ts:List String} {us:List Value},Vals (Ts.map V.ty) us->us=Ts.map fN
 | [],_,r=>by rw [eI] at r;cases r;rfl
 | T::Ts,_,r=>by
  rw [ba] at r
  cases r with
  | cons a b=>rw [Vg b,ba,show _=fN T from a]
theorem Qm:∀ {Cs:List Addr} {us:List Value},Vals (Cs.map V.ref) us->us=Cs.map aC
 | [],_,r=>by rw [eI] at r;cases r;rfl
 | T::Ts,_,r=>by
  rw [ba] at r
  cases r with
  | cons a b=>rw [Qm b,ba,show _=aC T from a]
noncomputable def av8 (K:aa):V->V->Hp->VK->Prop:=fun x y H Q=>match x,y with
 | .ref a,.ref b=>(∃ Ts:List String,SqT K H b (Ts.map V.ty)/\Ts.all a59=true/\(((∃ xs,SqL K H a xs)/\Q (.bl (Ts.any fun T=>T == "list")) H)\/((∃ xs,SqT K H a xs)/\Q (.bl (Ts.any fun T=>T == "tuple")) H))) \/
   ∃ (Cs:List Addr) (C:Addr) (fs:List (Str×V)) (t:Bool),SqT K H b (Cs.map V.ref)/\ExcAt H a C fs/\ECls K C/\df K (.ref C) (Cs.map aC)=some t/\Q (.bl t) H
 | _,_=>False
theorem Vn {pins:List (Addr×Obj)} {σ:St} {H:Hp} {s:ah} {x y:V} {u v:Value} {Q:VK} (I:Inv X pins σ H s) (rx:RelV x u) (ry:RelV y v) (h:av8 X.K x y H Q):aS (model X.prog X.w) X.A (call (.builtin "isinstance") [u,v]) (EP X pins σ Q) X.xe s:=by
  cases x <;> cases y <;> first
    | exact (show False from h).elim
    | (cases rx;cases ry
       rcases h with ⟨Ts,hT,ok,h⟩|⟨Cs,C,fs,t,hT,ex,ec,e,q⟩
       rotate_left
       . obtain⟨its,r,p,_⟩:=I.tuple hT
         obtain⟨⟨c1,d1,da1,s1⟩,ho,hc,n,hd⟩:=id p
         simp only at hc hd
         subst hc hd
         have e2:=Qm r
         subst e2
         obtain⟨vs,dx,od,J,_⟩:=ex.inst I
         exact bu (ae _) (gJ (Px ec) I.kIn ⟨_,_,J⟩ ho e (fun z=>nomatch z) fun tk htk=>⟨.bl _,H,I.tok tk htk,rfl,q⟩)
       obtain⟨its,r,p,_⟩:=I.tuple hT
       obtain⟨⟨c1,d1,da1,s1⟩,ho,hc,n,hd⟩:=id p
       simp only at hc hd
       subst hc hd
       have e:=Vg r
       subst e
       rcases h with ⟨⟨xs,hq⟩,q⟩|⟨⟨xs,hq⟩,q⟩
       . obtain⟨_,_,⟨o,_,h1,h2,_⟩,_⟩:=I.list hq
         exact bu (ae _) (gJ eE I.kIn ⟨o,h1,h2⟩ ho (M0 (.inl rfl) ok) (fun z=>nomatch z) fun tk htk=>⟨.bl _,H,I.tok tk htk,rfl,q⟩)
       . obtain⟨_,_,⟨o,h1,h2,_⟩,_⟩:=I.tuple hq
         exact bu (ae _) (gJ ft I.kIn ⟨o,h1,h2⟩ ho (M0 (.inr rfl) ok) (fun z=>nomatch z) fun tk htk=>⟨.bl _,H,I.tok tk htk,rfl,q⟩))
theorem Uo (hu:X.A.units+64<cLine):IxR X (fun x y H Q=>∃ a v,x=.ref a/\L6 H a y (some v)/\Q v H):=by
 intro value slice pins s σ H x y v u Q I rx ry h hs
 obtain⟨a,w',rfl,g,q⟩:=h
 cases rx
 exact jd (Pf I g) PySem.F.slot_dict_getitem.lookup (V1 (by omega) I g ry fun w1 s' I' r'=>⟨w',H,I',r',q⟩) hs
end
open Sem (wp)
section
variable {M:Model} {A:bt} {E:Value->ah->Prop} {env:Env}
variable {nm q:Str} {C N:Addr} {bs bm:List Value} {hdct:Bool} {sn:List Str} {sub:List Value} {ab:Bool} {col:Option Bool} {dd:Option Addr} {k0 k1 k2 k3 k5:Option Value} {newId:String}
end
section
variable {X:Cx} {e:Expr} {te:TE} {pos:Pos}
noncomputable def Rn (K:aa) (R:EK):VK:=fun x H=>match x with
 | .ref a=>∃ C dx,H a=some (E2 a C dx)/\ECls K C/\R a (upd H a (flO a C dx))
 | _=>False
theorem ad5 {Ex:St->EK} (m:Meets X Ex) (hh:X.A.handled=none) (he:PE X e te):PS X (.Raise (some e) none pos) (fun _ σ H=>te σ H (Rn X.K (Ex σ))):=by
 intro pins s σ H D I h
 rw [arm_exec_Raise]
 show aS _ _ (do iF pos;iZ X.env (some (do let v <- eval e X.env;iF pos;pure v)) none) _ _ s
 refine af (c6 ?_)
 unfold iZ
 refine af (af (thn (he pins s σ H _ I h) fun v s1 ⟨x,H1,I1,r1,q1⟩=>af (c6 (al ?_))))
 cases x with
 | ref a=>
  cases r1
  obtain⟨C,dx,ea,c,q⟩:=q1
  obtain⟨vs,g1,g2,g3,g4⟩:=Ic I1 ea
  obtain⟨nm,qn,N,bs,bm,hdct,sn,sub,ab,col,dd,k0,k1,k2,k3,k5,hl,ht,hd⟩:=c.obj
  have hC:=I1.kIn _ _ hl
  have hb:bm.contains (.type "BaseException")=true:=Bp ht (by decide +kernel)
  have I2:Inv X pins σ (upd H1 a (flO a C dx)) s1:=by
   have:=I1.write (x:=a) (e:=a) (h':=s1.heap) (t':=s1.toks) (o:=flO a C dx) (by rw [ea];exact bn) (.inl rfl) (fun b u _ z=>z) ⟨_,g1⟩ (Zk g1 g2 g4)
   exact this
  have hx:=m pins σ _ s1 a I2 ⟨C,dx,vs,.inl Af,g1,g2,.inl g3⟩ q
  have hcB:(aC C::bm).contains (.type "BaseException")=true:=by rw [a0,hb,cR]
  obtain⟨hp,g,d,tk,os⟩:=s1
  repeat (first|with_reducible refine b8 g1 rfl g3 ?_|with_reducible refine a_ g1 ?_|with_reducible refine a_ hC ?_|(with_reducible refine bQ hC ?_;rw [hcB])|wp_step)
  exact wpAny_raiseNew_none hh hx
 | _=>exact (show False from q1).elim
end
end L2
namespace L2
open PySem PySem.Spec PyProof.Rows
inductive Dt where
 | at_ (v:V)
 | lst (l:List Dt)
 | tup (l:List Dt)
mutual
noncomputable def deq:Dt->Dt->Bool
 | .at_ v,.at_ w=>eqV v w
 | .lst xs,.lst ys=>Gc xs ys
 | .tup xs,.tup ys=>Gc xs ys
 | _,_=>false
noncomputable def Gc:List Dt->List Dt->Bool
 | [],[]=>true
 | x::xs,y::ys=>deq x y&&Gc xs ys
 | _,_=>false
end
mutual
noncomputable def dep:Dt->Nat
 | .at_ _=>0
 | .lst l=>Dd l+1
 | .tup l=>Dd l+1
noncomputable def Dd:List Dt->Nat
 | []=>0
 | x::xs=>Nat.max (dep x) (Dd xs)
end
mutual
noncomputable def At (K:aa) (H:Hp):Dt->V->Prop
 | .at_ v,x=>x=v/\Bn v=true
 | .lst ds,x=>∃ a xs,x=.ref a/\SqL K H a xs/\AtL K H ds xs
 | .tup ds,x=>∃ a xs,x=.ref a/\SqT K H a xs/\AtL K H ds xs
noncomputable def AtL (K:aa) (H:Hp):List Dt->List V->Prop
 | [],xs=>xs=[]
 | d::ds,xs=>∃ y ys,xs=y::ys/\At K H d y/\AtL K H ds ys
end
theorem AtL.length {K:aa} {H:Hp}:∀ {ds:List Dt} {xs:List V},AtL K H ds xs->xs.length=ds.length
 | [],xs,h=>by unfold AtL at h;subst h;rfl
 | d::ds,xs,h=>by
  unfold AtL at h
  obtain⟨y,ys,rfl,_,h2⟩:=h
  rw [ax,ax,AtL.length h2]
theorem Zf {v:V} (h:Bn v=true):eqV v v=true:=by
 cases v <;> first|rfl|(exact beq_self_eq_true _)|exact absurd (show false=true from h) ak
mutual
theorem Fo {K:aa} {H:Hp}:∀ {d:Dt} {x:V},At K H d x->deq d d=true
 | .at_ v,x,h=>by unfold At at h;unfold deq;exact Zf h.2
 | .lst l,x,h=>by unfold At at h;obtain⟨a,xs,_,_,h⟩:=h;unfold deq;exact Gd h
 | .tup l,x,h=>by unfold At at h;obtain⟨a,xs,_,_,h⟩:=h;unfold deq;exact Gd h
theorem Gd {K:aa} {H:Hp}:∀ {ds:List Dt} {xs:List V},AtL K H ds xs->Gc ds ds=true
 | [],xs,h=>by unfold Gc;rfl
 | d::ds,xs,h=>by
  unfold AtL at h
  obtain⟨y,ys,rfl,h1,h2⟩:=h
  unfold Gc
  rw [Fo h1,Gd h2]
  rfl
end
theorem Ef:∀ {xs ys:List Dt},xs.length≠ys.length->Gc xs ys=false
 | [],[],h=>absurd rfl h
 | [],_::_,_=>by unfold Gc;rfl
 | _::_,[],_=>by unfold Gc;rfl
 | x::xs,y::ys,h=>by
  unfold Gc
  rw [Ef (xs:=xs) (ys:=ys) (fun e=>h (by rw [ax,ax,e])),b9]
theorem C6 (z:Dt):∀ {xs ys:List Dt},xs.length=ys.length->Gc xs ys=(c9 xs.length).all fun j=>deq (xs.getD j z) (ys.getD j z)
 | [],[],_=>by unfold Gc;rfl
 | [],_::_,h=>by simp at h
 | _::_,[],h=>by simp at h
 | x::xs,y::ys,h=>by
  unfold Gc
  rw [ax,List.range_succ_eq_map,bw,List.all_map,C6 z (xs:=xs) (ys:=ys) (by simpa using h)]
  rfl
section
variable {X:Cx} {pins:List (Addr×Obj)} {σ:St} {H:Hp} {s:ah}
theorem P2 {a:Addr} {xs ys:List V} (I:Inv X pins σ H s) (h:SqL X.K H a xs) (h':SqT X.K H a ys):False:=by
 obtain⟨its,r,⟨o,n,e,c,_,d⟩,_⟩:=I.list h
 obtain⟨its',r',⟨o',e',c',n',d'⟩,_⟩:=I.tuple h'
 rw [e] at e';cases e'
 rw [c] at c'
 injection c' with c'
 exact absurd c' (by decide)
mutual
theorem Qr (I:Inv X pins σ H s):∀ {d d':Dt} {x:V},At X.K H d x->At X.K H d' x->d=d'
 | .at_ v,.at_ w,x,h,h'=>by unfold At at h h';rw [<- h.1,<- h'.1]
 | .at_ v,.lst l,x,h,h'=>by
  unfold At at h h'
  obtain⟨a,xs,rfl,_⟩:=h'
  rw [<- h.1] at h
  exact absurd (show false=true from h.2) ak
 | .at_ v,.tup l,x,h,h'=>by
  unfold At at h h'
  obtain⟨a,xs,rfl,_⟩:=h'
  rw [<- h.1] at h
  exact absurd (show false=true from h.2) ak
 | .lst l,.at_ v,x,h,h'=>by
  unfold At at h h'
  obtain⟨a,xs,rfl,_⟩:=h
  rw [<- h'.1] at h'
  exact absurd (show false=true from h'.2) ak
 | .tup l,.at_ v,x,h,h'=>by
  unfold At at h h'
  obtain⟨a,xs,rfl,_⟩:=h
  rw [<- h'.1] at h'
  exact absurd (show false=true from h'.2) ak
 | .lst l,.lst l',x,h,h'=>by
  unfold At at h h'
  obtain⟨a,xs,rfl,q,h⟩:=h
  obtain⟨a',xs',e,q',h'⟩:=h'
  cases e
  rw [I.list_inj q q'] at h
  rw [Mb I h h']
 | .tup l,.tup l',x,h,h'=>by
  unfold At at h h'
  obtain⟨a,xs,rfl,q,h⟩:=h
  obtain⟨a',xs',e,q',h'⟩:=h'
  cases e
  rw [I.tuple_inj q q'] at h
  rw [Mb I h h']
 | .lst l,.tup l',x,h,h'=>by
  unfold At at h h'
  obtain⟨a,xs,rfl,q,h⟩:=h
  obtain⟨a',xs',e,q',h'⟩:=h'
  cases e
  exact (P2 I q q').elim
 | .tup l,.lst l',x,h,h'=>by
  unfold At at h h'
  obtain⟨a,xs,rfl,q,h⟩:=h
  obtain⟨a',xs',e,q',h'⟩:=h'
  cases e
  exact (P2 I q' q).elim
theorem Mb (I:Inv X pins σ H s):∀ {ds ds':List Dt} {xs:List V},AtL X.K H ds xs->AtL X.K H ds' xs->ds=ds'
 | [],[],_,_,_=>rfl
 | [],_::_,_,h,h'=>by unfold AtL at h h';obtain⟨y,ys,e,_⟩:=h';rw [h] at e;cases e
 | _::_,[],_,h,h'=>by unfold AtL at h h';obtain⟨y,ys,e,_⟩:=h;rw [h'] at e;cases e
 | d::ds,d'::ds',xs,h,h'=>by
  unfold AtL at h h'
  obtain⟨y,ys,rfl,h1,h2⟩:=h
  obtain⟨y',ys',e,h1',h2'⟩:=h'
  cases e
  rw [Qr I h1 h1',Mb I h2 h2']
end
theorem Le {A:bt} {v:V} {u:Value} {a:Addr} {its:Array Value} (f:Bn v=true) (r:RelV v u) (hl:s.heap.IsList a its) (hu:A.units<cLine):bv A s u (.ref a) false/\bv A s (.ref a) u false:=by
 cases v with
 | non=>cases r;exact⟨.none_list hl hu,.list_none hl hu⟩
 | bl b=>cases r;exact⟨.bool_list b hl hu,.list_bool b hl hu⟩
 | int i=>obtain⟨t,rfl⟩:=r;exact⟨.int_list i t hl hu,.list_int i t hl hu⟩
 | str i=>obtain⟨t,rfl⟩:=r;exact⟨.str_list i t hl hu,.list_str i t hl hu⟩
 | _=>exact absurd (show false=true from f) ak
theorem Id {A:bt} {v:V} {u:Value} {a:Addr} {its:Array Value} (f:Bn v=true) (r:RelV v u) (hl:s.heap.IsTuple a its) (hu:A.units<cLine):bv A s u (.ref a) false/\bv A s (.ref a) u false:=by
 cases v with
 | non=>cases r;exact⟨.none_tuple hl hu,.tuple_none hl hu⟩
 | bl b=>cases r;exact⟨.bool_tuple b hl hu,.tuple_bool b hl hu⟩
 | int i=>obtain⟨t,rfl⟩:=r;exact⟨.int_tuple i t hl hu,.tuple_int i t hl hu⟩
 | str i=>obtain⟨t,rfl⟩:=r;exact⟨.str_tuple i t hl hu,.tuple_str i t hl hu⟩
 | _=>exact absurd (show false=true from f) ak
mutual
theorem a33 (I:Inv X pins σ H s):∀ (d d':Dt) (A:bt) (x y:V) (u v:Value),At X.K H d x->At X.K H d' y->RelV x u->RelV y v->A.units+dep d<cLine->bv A s u v (deq d d')
 | .at_ p,.at_ q,A,x,y,u,v,h,h',r,r',hu=>by
  unfold At at h h';unfold deq
  obtain⟨rfl,f⟩:=h
  obtain⟨rfl,f'⟩:=h'
  exact Q3 r r' f f'
 | .at_ p,.lst l,A,x,y,u,v,h,h',r,r',hu=>by
  unfold At at h h';unfold deq
  obtain⟨rfl,f⟩:=h
  obtain⟨a,xs,rfl,q,_⟩:=h'
  obtain⟨its,_,pl,_⟩:=I.list q
  cases r'
  exact (Le f r pl.isList (by omega)).1
 | .at_ p,.tup l,A,x,y,u,v,h,h',r,r',hu=>by
  unfold At at h h';unfold deq
  obtain⟨rfl,f⟩:=h
  obtain⟨a,xs,rfl,q,_⟩:=h'
  obtain⟨its,_,pl,_⟩:=I.tuple q
  cases r'
  exact (Id f r pl (by omega)).1
 | .lst l,.at_ p,A,x,y,u,v,h,h',r,r',hu=>by
  unfold At at h h';unfold deq
  obtain⟨rfl,f⟩:=h'
  obtain⟨a,xs,rfl,q,_⟩:=h
  obtain⟨its,_,pl,_⟩:=I.list q
  cases r
  exact (Le f r' pl.isList (by omega)).2
 | .tup l,.at_ p,A,x,y,u,v,h,h',r,r',hu=>by
  unfold At at h h';unfold deq
  obtain⟨rfl,f⟩:=h'
  obtain⟨a,xs,rfl,q,_⟩:=h
  obtain⟨its,_,pl,_⟩:=I.tuple q
  cases r
  exact (Id f r' pl (by omega)).2
 | .lst l,.tup l',A,x,y,u,v,h,h',r,r',hu=>by
  unfold At at h h';unfold deq
  obtain⟨a,xs,rfl,q,_⟩:=h
  obtain⟨b,ys,rfl,q',_⟩:=h'
  obtain⟨its,_,pl,_⟩:=I.list q
  obtain⟨its',_,pl',_⟩:=I.tuple q'
  cases r;cases r'
  exact .list_tuple pl.isList pl' (by omega)
 | .tup l,.lst l',A,x,y,u,v,h,h',r,r',hu=>by
  unfold At at h h';unfold deq
  obtain⟨a,xs,rfl,q,_⟩:=h
  obtain⟨b,ys,rfl,q',_⟩:=h'
  obtain⟨its,_,pl,_⟩:=I.tuple q
  obtain⟨its',_,pl',_⟩:=I.list q'
  cases r;cases r'
  exact .tuple_list pl pl'.isList (by omega)
 | .lst l,.lst l',A,x,y,u,v,h,h',r,r',hu=>by
  by_cases e:x=y
  ·subst e
   have:=Qr I h h'
   rw [<- this,Fo h]
   have hx:∃ a,x=.ref a:=by unfold At at h;obtain⟨a,_,e,_⟩:=h;exact⟨a,e⟩
   obtain⟨a,rfl⟩:=hx
   cases r;cases r'
   exact .same _
  ·unfold At at h h';unfold deq
   unfold dep at hu
   obtain⟨a,xs,rfl,q,h⟩:=h
   obtain⟨b,ys,rfl,q',h'⟩:=h'
   obtain⟨its,ri,pl,_⟩:=I.list q
   obtain⟨its',ri',pl',_⟩:=I.list q'
   cases r;cases r'
   have ne:a≠b:=fun z=>e (by rw [z])
   have e1:=h.length
   have e2:=h'.length
   have e3:=ri.length
   have e4:=ri'.length
   refine .of_refs ne ?_
   by_cases hl:l.length=l'.length
   ·rw [C6 (.lst []) hl]
    have hsz:its.toArray.size=l.length:=by simp;omega
    rw [<- hsz]
    exact .lists pl.isList pl'.isList (by simp;omega) (by omega) fun j h1 h2=>by
     have:=Fp I l l' A.in1 xs ys its its' h h' ri ri' (by show A.units+1+Dd l<cLine;omega) j (by simpa using h1) (by simpa using h2)
     simpa using this
   ·rw [Ef hl]
    exact .lists_lengths pl.isList pl'.isList (by simp;omega) (by omega)
 | .tup l,.tup l',A,x,y,u,v,h,h',r,r',hu=>by
  by_cases e:x=y
  ·subst e
   have:=Qr I h h'
   rw [<- this,Fo h]
   have hx:∃ a,x=.ref a:=by unfold At at h;obtain⟨a,_,e,_⟩:=h;exact⟨a,e⟩
   obtain⟨a,rfl⟩:=hx
   cases r;cases r'
   exact .same _
  ·unfold At at h h';unfold deq
   unfold dep at hu
   obtain⟨a,xs,rfl,q,h⟩:=h
   obtain⟨b,ys,rfl,q',h'⟩:=h'
   obtain⟨its,ri,pl,_⟩:=I.tuple q
   obtain⟨its',ri',pl',_⟩:=I.tuple q'
   cases r;cases r'
   have ne:a≠b:=fun z=>e (by rw [z])
   have e1:=h.length
   have e2:=h'.length
   have e3:=ri.length
   have e4:=ri'.length
   refine .of_refs ne ?_
   have T:=SeqAt.RcAt.tuples (A:=A) (s:=s) (e:=fun j=>deq (l.getD j (.lst [])) (l'.getD j (.lst []))) pl pl' (by omega) fun j h1 h2=>by
     have:=Fp I l l' A.in1 xs ys its its' h h' ri ri' (by show A.units+1+Dd l<cLine;omega) j (by simpa using h1) (by simpa using h2)
     simpa using this
   by_cases hl:l.length=l'.length
   ·rw [C6 (.lst []) hl]
    have hsz:its.toArray.size=l.length:=by simp;omega
    have hsz':its'.toArray.size=l.length:=by simp;omega
    rw [hsz,hsz',Nat.min_self,beq_self_eq_true,Bool.and_true] at T
    exact T
   ·rw [Ef hl]
    have hne:(its.toArray.size==its'.toArray.size)=false:=by
     rw [beq_eq_false_iff_ne];simp;omega
    rw [hne,b9] at T
    exact T
theorem Fp (I:Inv X pins σ H s):∀ (ds ds':List Dt) (A:bt) (xs ys:List V) (us vs:List Value),AtL X.K H ds xs->AtL X.K H ds' ys->Vals xs us->Vals ys vs->A.units+Dd ds<cLine ->
  ∀ (j:Nat) (h1:j<us.length) (h2:j<vs.length),bv A s us[j] vs[j] (deq (ds.getD j (.lst [])) (ds'.getD j (.lst [])))
 | [],_,A,xs,ys,us,vs,h,h',r,r',hu=>fun j h1 h2=>by
  unfold AtL at h
  subst h
  cases r
  cases h1
 | _::_,[],A,xs,ys,us,vs,h,h',r,r',hu=>fun j h1 h2=>by
  unfold AtL at h'
  subst h'
  cases r'
  cases h2
 | d::ds,d'::ds',A,xs,ys,us,vs,h,h',r,r',hu=>fun j h1 h2=>by
  unfold AtL at h h'
  obtain⟨y,ys,rfl,q1,q2⟩:=h
  obtain⟨z,zs,rfl,q1',q2'⟩:=h'
  cases r with
  | cons r1 r2=>
   cases r' with
   | cons r1' r2'=>
    unfold Dd at hu
    have m1:dep d<=Nat.max (dep d) (Dd ds):=Nat.le_max_left _ _
    have m2:Dd ds<=Nat.max (dep d) (Dd ds):=Nat.le_max_right _ _
    cases j with
    | zero=>exact a33 I d d' A _ _ _ _ q1 q1' r1 r1' (by omega)
    | succ j=>exact Fp I ds ds' A _ _ _ _ q2 q2' r2 r2' (by omega) j (by simpa using h1) (by simpa using h2)
end
theorem Eu {K:aa} {d:Dt} {a:Addr} (h:At K H d (.ref a)):(∃ l xs,d=.lst l/\SqL K H a xs/\AtL K H l xs)\/(∃ l xs,d=.tup l/\SqT K H a xs/\AtL K H l xs):=by
 cases d with
 | at_ v=>
  unfold At at h
  rw [<- h.1] at h
  exact absurd (show false=true from h.2) ak
 | lst l=>unfold At at h;obtain⟨b,xs,e,q,h⟩:=h;cases e;exact .inl ⟨l,xs,rfl,q,h⟩
 | tup l=>unfold At at h;obtain⟨b,xs,e,q,h⟩:=h;cases e;exact .inr ⟨l,xs,rfl,q,h⟩
theorem P1 {K:aa} {d:Dt} {x:V} (h:At K H d x) (f:∀ a,x≠.ref a):d=.at_ x/\Bn x=true:=by
 cases d with
 | at_ v=>unfold At at h;rw [h.1];exact⟨rfl,h.2⟩
 | lst l=>unfold At at h;obtain⟨b,xs,e,_⟩:=h;exact absurd e (f b)
 | tup l=>unfold At at h;obtain⟨b,xs,e,_⟩:=h;exact absurd e (f b)
theorem ck4 (I:Inv X pins σ H s) {A:bt} {d d':Dt} {a b:Addr} (h:At X.K H d (.ref a)) (h':At X.K H d' (.ref b)) (hu:A.units+dep d<cLine):fM A s (.ref a) (.ref b) (deq d d')/\dX A s (.ref a) (.ref b) (!deq d d'):=by
 rcases Eu h with ⟨l,xs,rfl,q,h⟩|⟨l,xs,rfl,q,h⟩
 ·rcases Eu h' with ⟨l',ys,rfl,q',h'⟩|⟨l',ys,rfl,q',h'⟩
  ·unfold deq
   unfold dep at hu
   obtain⟨its,ri,pl,_⟩:=I.list q
   obtain⟨its',ri',pl',_⟩:=I.list q'
   have e1:=h.length
   have e2:=h'.length
   have e3:=ri.length
   have e4:=ri'.length
   have it:∀ j (h1:j<its.toArray.size) (h2:j<its'.toArray.size),bv A.in1 s its.toArray[j] its'.toArray[j] (deq (l.getD j (.lst [])) (l'.getD j (.lst []))):=fun j h1 h2=>by
    have:=Fp I l l' A.in1 xs ys its its' h h' ri ri' (by show A.units+1+Dd l<cLine;omega) j (by simpa using h1) (by simpa using h2)
    simpa using this
   by_cases hl:l.length=l'.length
   ·rw [C6 (.lst []) hl]
    have hsz:its.toArray.size=l.length:=by simp;omega
    rw [<- hsz]
    exact⟨.lists pl.isList pl'.isList (by simp;omega) (by omega) it,.lists pl.isList pl'.isList (by simp;omega) (by omega) it⟩
   ·rw [Ef hl]
    exact⟨.lists_lengths pl.isList pl'.isList (by simp;omega) (by omega),.lists_lengths pl.isList pl'.isList (by simp;omega) (by omega)⟩
  ·unfold deq
   obtain⟨its,ri,pl,_⟩:=I.list q
   obtain⟨its',ri',pl',_⟩:=I.tuple q'
   exact⟨.list_tuple pl.isList pl' (by omega),.list_tuple pl.isList pl' (by omega)⟩
 ·rcases Eu h' with ⟨l',ys,rfl,q',h'⟩|⟨l',ys,rfl,q',h'⟩
  ·unfold deq
   obtain⟨its,ri,pl,_⟩:=I.tuple q
   obtain⟨its',ri',pl',_⟩:=I.list q'
   exact⟨.tuple_list pl pl'.isList (by omega),.tuple_list pl pl'.isList (by omega)⟩
  ·unfold deq
   unfold dep at hu
   obtain⟨its,ri,pl,_⟩:=I.tuple q
   obtain⟨its',ri',pl',_⟩:=I.tuple q'
   have e1:=h.length
   have e2:=h'.length
   have e3:=ri.length
   have e4:=ri'.length
   have it:∀ j (h1:j<its.toArray.size) (h2:j<its'.toArray.size),bv A.in1 s its.toArray[j] its'.toArray[j] (deq (l.getD j (.lst [])) (l'.getD j (.lst []))):=fun j h1 h2=>by
    have:=Fp I l l' A.in1 xs ys its its' h h' ri ri' (by show A.units+1+Dd l<cLine;omega) j (by simpa using h1) (by simpa using h2)
    simpa using this
   have T:=SeqAt.RcAt.tuples pl pl' (by omega) it
   have T':=SeqAt.RcNeAt.tuples pl pl' (by omega) it
   by_cases hl:l.length=l'.length
   ·rw [C6 (.lst []) hl]
    have hsz:its.toArray.size=l.length:=by simp;omega
    have hsz':its'.toArray.size=l.length:=by simp;omega
    rw [hsz,hsz',Nat.min_self,beq_self_eq_true,Bool.and_true] at T T'
    exact⟨T,T'⟩
   ·rw [Ef hl]
    have hne:(its.toArray.size==its'.toArray.size)=false:=by
     rw [beq_eq_false_iff_ne];simp;omega
    rw [hne,b9] at T T'
    exact⟨T,T'⟩
theorem Uz (I:Inv X pins σ H s) {A:bt} {d:Dt} {a:Addr} {v:V} {u:Value} (h:At X.K H d (.ref a)) (f:Bn v=true) (r:RelV v u) (hu:A.units<cLine) :
  fM A s (.ref a) u false/\dX A s (.ref a) u true/\fM A s u (.ref a) false/\dX A s u (.ref a) true:=by
 rcases Eu h with ⟨l,xs,rfl,q,h⟩|⟨l,xs,rfl,q,h⟩
 ·obtain⟨its,ri,pl,_⟩:=I.list q
  cases v with
  | non=>cases r;exact⟨.list_none pl.isList hu,.list_none pl.isList hu,.none_list pl.isList hu,.none_list pl.isList hu⟩
  | bl b=>cases r;exact⟨.list_bool b pl.isList hu,.list_bool b pl.isList hu,.bool_list b pl.isList hu,.bool_list b pl.isList hu⟩
  | int b=>obtain⟨t,rfl⟩:=r;exact⟨.list_int b t pl.isList hu,.list_int b t pl.isList hu,.int_list b t pl.isList hu,.int_list b t pl.isList hu⟩
  | str b=>obtain⟨t,rfl⟩:=r;exact⟨.list_str b t pl.isList hu,.list_str b t pl.isList hu,.str_list b t pl.isList hu,.str_list b t pl.isList hu⟩
  | _=>exact absurd (show false=true from f) ak
 ·obtain⟨its,ri,pl,_⟩:=I.tuple q
  cases v with
  | non=>cases r;exact⟨.tuple_none pl hu,.tuple_none pl hu,.none_tuple pl hu,.none_tuple pl hu⟩
  | bl b=>cases r;exact⟨.tuple_bool b pl hu,.tuple_bool b pl hu,.bool_tuple b pl hu,.bool_tuple b pl hu⟩
  | int b=>obtain⟨t,rfl⟩:=r;exact⟨.tuple_int b t pl hu,.tuple_int b t pl hu,.int_tuple b t pl hu,.int_tuple b t pl hu⟩
  | str b=>obtain⟨t,rfl⟩:=r;exact⟨.tuple_str b t pl hu,.tuple_str b t pl hu,.str_tuple b t pl hu,.str_tuple b t pl hu⟩
  | _=>exact absurd (show false=true from f) ak
noncomputable def af0 (K:aa) (neg:Bool):R2:=fun x y H Q=>∃ d d',At K H d x/\At K H d' y/\dep d<=40/\Q (.bl (if neg then !deq d d' else deq d d')) H
theorem af6 (I:Inv X pins σ H s) {A:bt} {d d':Dt} {x y:V} {u v:Value} (h:At X.K H d x) (h':At X.K H d' y) (r:RelV x u) (r':RelV y v) (hr:(∃ a,x=.ref a) \/ ∃ b,y=.ref b) (hu:A.units+dep d<cLine) :
  fM A s u v (deq d d')/\dX A s u v (!deq d d'):=by
 by_cases hx:∃ a,x=.ref a
 ·obtain⟨a,rfl⟩:=hx
  cases r
  by_cases hy:∃ b,y=.ref b
  ·obtain⟨b,rfl⟩:=hy
   cases r'
   exact ck4 I h h' hu
  ·obtain⟨rfl,f⟩:=P1 h' (fun b e=>hy ⟨b,e⟩)
   obtain⟨q1,q2,_⟩:=Uz I h f r' (show A.units<cLine by omega)
   have e:deq d (.at_ y)=false:=by
    rcases Eu h with ⟨l,xs,rfl,_⟩|⟨l,xs,rfl,_⟩ <;> (unfold deq;rfl)
   rw [e]
   exact⟨q1,q2⟩
 ·have hy:∃ b,y=.ref b:=hr.resolve_left hx
  obtain⟨b,rfl⟩:=hy
  cases r'
  obtain⟨rfl,f⟩:=P1 h (fun b e=>hx ⟨b,e⟩)
  obtain⟨_,_,q1,q2⟩:=Uz I h' f r (show A.units<cLine by omega)
  have e:deq (.at_ x) d'=false:=by
   rcases Eu h' with ⟨l,xs,rfl,_⟩|⟨l,xs,rfl,_⟩ <;> (unfold deq;rfl)
  rw [e]
  exact⟨q1,q2⟩
theorem Ri (hu:X.A.units+64<cLine) {x y:V} {u v:Value} {Q:VK} (I:Inv X pins σ H s) (rx:RelV x u) (ry:RelV y v) (hr:(∃ a,x=.ref a) \/ ∃ b,y=.ref b) (h:af0 X.K false x y H Q):aS (model X.prog X.w) X.A (bJ .Eq u v) (EP X pins σ Q) X.xe s:=by
 obtain⟨d,d',h1,h2,hd,q⟩:=h
 exact (af6 I h1 h2 rx ry hr (A:=X.A) (by omega)).1 _ _ _ _ ⟨.bl _,H,I,rfl,q⟩
theorem Rj (hu:X.A.units+64<cLine) {x y:V} {u v:Value} {Q:VK} (I:Inv X pins σ H s) (rx:RelV x u) (ry:RelV y v) (hr:(∃ a,x=.ref a) \/ ∃ b,y=.ref b) (h:af0 X.K true x y H Q):aS (model X.prog X.w) X.A (bJ .NotEq u v) (EP X pins σ Q) X.xe s:=by
 obtain⟨d,d',h1,h2,hd,q⟩:=h
 exact (af6 I h1 h2 rx ry hr (A:=X.A) (by omega)).2 _ _ _ _ ⟨.bl _,H,I,rfl,q⟩
end
end L2
namespace L2
open PySem PySem.Spec PyProof.Rows PySem.SeqAt
theorem Df {nm:String} (hn:nm = "__eq__" \/ nm = "__ne__") (l:Addr) (b:Str) (u:Tok):hV ((if nm = "__eq__" then aY.«dict.__eq__» else aY.«dict.__ne__») { pos:=[.ref l,.str b u] }) fun _ R s=>R (.ok (.ret .notImplemented)) s:=by
 intro prog w A R s r
 have e2:isSubtype (.type "str") (.type "dict")=pure false:=by rfl
 rcases hn with rfl|rfl
 ·rw [if_pos rfl]
  refine af (m:=cF "__eq__" { pos:=[.ref l,.str b u] }) ?_
  have e:cF "__eq__" { pos:=[.ref l,.str b u] }=pure (.ref l,.str b u):=by rfl
  rw [e]
  refine al ?_
  refine af (m:=eO (.str b u) (.type "dict")) ?_
  unfold eO
  refine af (fu (T := "str") (by trivial) ?_)
  rw [e2]
  exact al (af (gS (al r)))
 ·rw [if_neg (by decide)]
  refine af (m:=cF "__ne__" { pos:=[.ref l,.str b u] }) ?_
  have e:cF "__ne__" { pos:=[.ref l,.str b u] }=pure (.ref l,.str b u):=by rfl
  rw [e]
  refine al ?_
  refine af (m:=eO (.str b u) (.type "dict")) ?_
  unfold eO
  refine af (fu (T := "str") (by trivial) ?_)
  rw [e2]
  exact al (af (gS (al r)))
theorem Di {nm:String} (hn:nm = "__eq__" \/ nm = "__ne__") (l:Addr) (b:Str) (u:Tok):hV ((if nm = "__eq__" then aY.«str.__eq__» else aY.«str.__ne__») { pos:=[.str b u,.ref l] }) fun _ R s=>(∃ o es n,s.heap.get? l=some o/\o.data=.dict es n)/\R (.ok (.ret .notImplemented)) s:=by
 intro prog w A R s ⟨⟨o,es,n,ho,hd⟩,r⟩
 rcases hn with rfl|rfl
 ·rw [if_pos rfl]
  refine af (m:=dQ "__eq__" 1 { pos:=[.str b u,.ref l] }) ?_
  have e:dQ "__eq__" 1 { pos:=[.str b u,.ref l] }=pure (.str b u,b,[.ref l]):=by rfl
  rw [e]
  refine al ?_
  refine af (m:=asStr? (.ref l)) ?_
  unfold asStr?
  refine af (wpAny_load ho ?_)
  rw [hd]
  exact al (af (gS (al r)))
 ·rw [if_neg (by decide)]
  refine af (m:=dQ "__ne__" 1 { pos:=[.str b u,.ref l] }) ?_
  have e:dQ "__ne__" 1 { pos:=[.str b u,.ref l] }=pure (.str b u,b,[.ref l]):=by rfl
  rw [e]
  refine al ?_
  refine af (m:=asStr? (.ref l)) ?_
  unfold asStr?
  refine af (wpAny_load ho ?_)
  rw [hd]
  exact al (af (gS (al r)))
theorem Qe {A:bt} {s:ah} {l:Addr} (b:Str) (u:Tok) (ht:s.TypeIs (.ref l) "dict") (ho:∃ o es n,s.heap.get? l=some o/\o.data=.dict es n) (hu:A.units<cLine):RcAt A s (.ref l) (.str b u) false/\RcNeAt A s (.ref l) (.str b u) true:=by
 have e2:isSubtype (.type "str") (.type "dict")=pure false:=by rfl
 have hs:s.TypeIs (.str b u) "str" := by trivial
 refine⟨fun prog w E Q q=>?_,fun prog w E Q q=>?_⟩
 ·exact rc_eq_decline_or (k:=false) ht hs (by decide) e2 gY hR
   (fun Q' q'=>dY gY ht PySem.F.entry_dict_eq (PySem.F.args_dict_eq_2 _ _) (Df (.inl rfl) l b u) q')
   (fun Q' q'=>dY hR hs PySem.F.entry_str_eq (PySem.F.args_str_eq_2 _ _) (Di (.inl rfl) l b u) ⟨ho,q'⟩)
   (fun Q' q'=>al q') (.inr hu) q
 ·exact rc_ne_decline_or (k:=false) ht hs (by decide) e2 gZ hU
   (fun Q' q'=>dY gZ ht PySem.F.entry_dict_ne (PySem.F.args_dict_ne_2 _ _) (Df (.inr rfl) l b u) q')
   (fun Q' q'=>dY hU hs PySem.F.entry_str_ne (PySem.F.args_str_ne_2 _ _) (Di (.inr rfl) l b u) ⟨ho,q'⟩)
   (fun Q' q'=>al q') (.inr hu) q
section
variable {X:Cx} {pins:List (Addr×Obj)} {σ:St} {H:Hp} {s:ah}
noncomputable def bg5 (neg:Bool):R2:=fun x y H Q=>∃ a kvs z,x=.ref a/\Rd H a (.dK kvs)/\y=.str z/\Q (.bl neg) H
theorem rcS (I:Inv X pins σ H s) {a:Addr} {kvs:List (Key×V)} {z:Str} {t:Tok} (hu:X.A.units+64<cLine) (h:Rd H a (.dK kvs)):RcAt X.A s (.ref a) (.str z t) false/\RcNeAt X.A s (.ref a) (.str z t) true:=by
 obtain⟨_,_,vs,_,dd⟩:=Gy I.hok h
 obtain⟨o,es,ep,h1,h2,h3,_⟩:=id dd
 exact Qe z t dd.typeIs ⟨o,es,ep,h1,h3⟩ (by omega)
theorem ba5 (hu:X.A.units+64<cLine) {x y:V} {u v:Value} {Q:VK} (I:Inv X pins σ H s) (rx:RelV x u) (ry:RelV y v) (h:bg5 false x y H Q):aS (model X.prog X.w) X.A (bJ .Eq u v) (EP X pins σ Q) X.xe s:=by
 obtain⟨a,kvs,z,rfl,h,rfl,q⟩:=h
 cases rx
 obtain⟨t,rfl⟩:=ry
 exact (rcS I hu h).1 _ _ _ _ ⟨.bl false,H,I,rfl,q⟩
theorem bb1 (hu:X.A.units+64<cLine) {x y:V} {u v:Value} {Q:VK} (I:Inv X pins σ H s) (rx:RelV x u) (ry:RelV y v) (h:bg5 true x y H Q):aS (model X.prog X.w) X.A (bJ .NotEq u v) (EP X pins σ Q) X.xe s:=by
 obtain⟨a,kvs,z,rfl,h,rfl,q⟩:=h
 cases rx
 obtain⟨t,rfl⟩:=ry
 exact (rcS I hu h).2 _ _ _ _ ⟨.bl true,H,I,rfl,q⟩
noncomputable def bg3 (K:aa) (neg:Bool):R2:=fun x y H Q=>∃ a b xs,x=.ref a/\y=.ref b/\SqT K H a xs/\SqT K H b []/\Q (.bl (if neg then !xs.isEmpty else xs.isEmpty)) H
theorem rcE (I:Inv X pins σ H s) {a b:Addr} {xs:List V} (hu:X.A.units+64<cLine) (h:SqT X.K H a xs) (h2:SqT X.K H b []):RcAt X.A s (.ref a) (.ref b) xs.isEmpty/\RcNeAt X.A s (.ref a) (.ref b) (!xs.isEmpty):=by
 obtain⟨its,ri,pl,_⟩:=I.tuple h
 obtain⟨its2,ri2,pl2,_⟩:=I.tuple h2
 cases ri2
 have e:((c9 (min its.toArray.size ([]:List Value).toArray.size)).all (fun _=>true)&&its.toArray.size==([]:List Value).toArray.size)=xs.isEmpty:=by
  have:=ri.length
  cases xs with
  | nil=>cases its with
   | nil=>rfl
   | cons y ys=>cases this
  | cons x xs=>cases its with
   | nil=>cases this
   | cons y ys=>simp
 have t1:=RcAt.tuples (A:=X.A) (s:=s) (e:=fun _=>true) pl pl2 (by omega) (fun j _ h2=>by simp at h2)
 have t2:=RcNeAt.tuples (A:=X.A) (s:=s) (e:=fun _=>true) pl pl2 (by omega) (fun j _ h2=>by simp at h2)
 rw [e] at t1 t2
 exact⟨t1,t2⟩
theorem ba3 (hu:X.A.units+64<cLine) {x y:V} {u v:Value} {Q:VK} (I:Inv X pins σ H s) (rx:RelV x u) (ry:RelV y v) (h:bg3 X.K false x y H Q):aS (model X.prog X.w) X.A (bJ .Eq u v) (EP X pins σ Q) X.xe s:=by
 obtain⟨a,b,xs,rfl,rfl,h,h2,q⟩:=h
 cases rx
 cases ry
 exact (rcE I hu h h2).1 _ _ _ _ ⟨.bl _,H,I,rfl,q⟩
theorem ba9 (hu:X.A.units+64<cLine) {x y:V} {u v:Value} {Q:VK} (I:Inv X pins σ H s) (rx:RelV x u) (ry:RelV y v) (h:bg3 X.K true x y H Q):aS (model X.prog X.w) X.A (bJ .NotEq u v) (EP X pins σ Q) X.xe s:=by
 obtain⟨a,b,xs,rfl,rfl,h,h2,q⟩:=h
 cases rx
 cases ry
 exact (rcE I hu h h2).2 _ _ _ _ ⟨.bl _,H,I,rfl,q⟩
end
end L2
namespace L2
open PySem PySem.Spec PyProof.Rows
open AutoSeq1 (wpAny_loadPart')
open MeetsSeq MeetsSeq2 MeetsSeq3 SeqRoads2
section
variable {P:aI} {w:bq} {l b:Addr} {items items2:Array Value} {n n2:Nat} {dd dd2:Option Addr} {sl sl2:Array (Option Value)}
end
section
variable {P:aI} {w:bq}
end
theorem Pd:∀ {ds:List Dt} {i:Nat} {d:Dt},ds[i]? = some d->dep d<=Dd ds
 | [],_,_,h=>by simp at h
 | x::ds,0,d,h=>by
  simp at h
  subst h
  exact Nat.le_max_left _ _
 | x::ds,i+1,d,h=>aM (Pd (ds:=ds) (i:=i) (by simpa using h)) (Nat.le_max_right _ _)
section
variable {X:Cx} {pins:List (Addr×Obj)} {σ:St} {H:Hp} {s:ah}
end
end L2
namespace L2
open PySem PySem.Spec PyProof.Rows
section
variable {X:Cx} {pins:List (Addr×Obj)} {σ:St} {H:Hp} {s:ah}
noncomputable def aq3 (a:Str) (k:Nat):Str:=⟨(aX k a.cps).foldl (· ++ ·) #[]⟩
noncomputable def af4:R2:=fun x y H Q=>match x,y with
 | .str a,.int k=>0<a.length/\2<=k/\k<=1000/\a.length * k.toNat<=16777216/\(aq3 a k.toNat).length<=16777216/\Q (.str (aq3 a k.toNat)) H
 | _,_=>False
theorem an2:OpR X (c4 .Mult) af4:=by
 intro pins s σ H x y v u Q I rx ry h
 unfold af4 at h
 split at h
 ·rename_i a k
  obtain⟨h1,h2,h3,h4,h5,q⟩:=h
  obtain⟨t,rfl⟩:=rx
  obtain⟨t',rfl⟩:=ry
  have e1:¬ k<1:=by omega
  have e2:(k==1||a.length==0)=false:=by
   rw [gU,beq_eq_false_iff_ne,beq_eq_false_iff_ne];omega
  refine PySem.P.mul_str ?_ (fun _ _=>?_) (fun _ _=>?_) ?_
  ·rw [gU,decide_eq_false_iff_not,decide_eq_false_iff_not];constructor <;> omega
  ·intro z
   have ek:((k.toNat:Nat):Int)=k:=cU (by omega)
   have z3:(a.length:Int) * k<=16777216:=by rw [<- ek,<- Int.natCast_mul];exact Int.ofNat_le.mpr h4
   have z4:(a.length:Int) * 1<=(a.length:Int) * k:=eL (by omega) (Int.natCast_nonneg _)
   have z5:(2 ^ 63 - 1:Int) / 1000<=(2 ^ 63 - 1) / k:=Int.le_ediv_of_mul_le (by omega) (Int.le_trans (eL h3 (by decide)) (by decide))
   have z6:(16777216:Int)<=(2 ^ 63 - 1:Int) / 1000:=by decide
   omega
  ·show decide _=false;rw [cr];exact decide_eq_false (by omega)
  ·rw [if_neg e1,e2]
   exact⟨by rw [cr];exact h5,.str _,H,I.tok _,⟨_,rfl⟩,q⟩
 ·exact h.elim
theorem Gn:fillsNumberSlot (.type "tuple") "mul" = pure false:=
 PySem.fillsNumberSlot_seq (id := "tuple.__mul__") (r:=some (.builtin "tuple.__rmul__")) F.slot_tuple_mul.lookup (by decide +kernel) F.slot_tuple_rmul.lookup (by decide +kernel)
theorem Nh:seqRepeat? (.type "tuple")=pure (some (.builtin "tuple.__mul__")):=by
 unfold seqRepeat?
 rw [PySem.seqSlot_of (T := "tuple") (name := "__mul__") (id := "tuple.__mul__") F.slot_tuple_mul.lookup (by decide +kernel),PySem.seqSlot_of (T := "tuple") (name := "__rmul__") (id := "tuple.__rmul__") F.slot_tuple_rmul.lookup (by decide +kernel)]
 rfl
theorem Ix (a:Int) (t:Tok) (l:Addr) (its:Array Value) (n:Nat) (dd:Option Addr) (sl:Array (Option Value)) :
  hV (aY.«int.__rmul__» ⟨[.int a t,.ref l],[]⟩) (fun _ R s=>s.heap.get? l=some { cls:=.type "tuple", dict:=dd,data:=.seq its n,slots:=sl }/\R (.ok (.ret Value.notImplemented)) s):=
 .of_wp fun prog w A R s h=>by obtain⟨hp,g,d,tk,os⟩:=s;obtain⟨hl,h⟩:=h;wp_walk using ce hl;exact⟨_,rfl,h⟩
theorem Ky (l:Addr) (its:Array Value) (n:Nat) (dd:Option Addr) (sl:Array (Option Value)) (k:Int) (t:Tok) (h1:2<=k) (hk:k<=1000) (h2:its.size≠0) (h3:its.size<=1000) :
  hV (aY.«tuple.__mul__» ⟨[.ref l,.int k t],[]⟩) (fun _ R s=>s.heap.get? l=some { cls:=.type "tuple", dict:=dd,data:=.seq its n,slots:=sl }/\R (.ok (.ret (aC s.heap.objs.size))) { s with heap:=s.heap.push { cls:=fN "tuple", data:=Data.seq (fJ (fun x1 x2=>x1++x2) #[] (aX k.toNat its)) },toks:=s.toks }):=
 .of_wp fun prog w A R s h=>by
  obtain⟨hp,g,d,tk,os⟩:=s;obtain⟨hl,h⟩:=h
  have f1:=AutoSeq1.idx_int
  have e0:its.isEmpty=false:=by rw [Array.isEmpty,decide_eq_false_iff_not];exact h2
  have ek:((k.toNat:Nat):Int)=k:=cU (by omega)
  have hm:(its.size:Int) * k<=1000000:=by
   rw [<- ek,<- Int.natCast_mul]
   exact Int.ofNat_le.mpr (g_ h3 (show k.toNat<=1000 by omega))
  have hc0:¬ (decide (k < -2 ^ 63)||decide (k ≥ 2 ^ 63))=true:=by
   rw [cL,decide_eq_true_iff,decide_eq_true_iff];omega
  have hc1:¬ (its.isEmpty||k==1)=true:=by rw [e0,eR,beq_iff_eq];omega
  have hc2:¬ (decide (k<=0)||its.isEmpty)=true:=by rw [e0,fQ,decide_eq_true_iff];omega
  have hc3:¬ (its.size:Int) * k > (2 ^ 63 - 1) / 8:=by
   have:(1000000:Int)<=(2 ^ 63 - 1) / 8:=by decide
   omega
  have hc4:¬ Builtin.Tuple.tupleTooMany ((its.size:Int) * k)=true:=by
   show ¬ decide _=true
   rw [cr,decide_eq_true_iff];omega
  wp_walk using ce hl
  refine eu (decide_eq_false hc0) ?_
  wp_walk using ce hl
  refine eu (decide_eq_false hc1) ?_
  wp_walk using ce hl
  refine eu (decide_eq_false hc2) ?_
  wp_walk using ce hl
  refine eu (decide_eq_false hc3) ?_
  wp_walk using ce hl
  have hc5:¬ (fJ (fun x1 x2=>x1++x2) #[] (aX k.toNat its)).size > sizeLine:=by
   have e:=Et its.toList k.toNat []
   rw [gE] at e
   have e':its.toList.toArray=its:=by simp
   rw [e'] at e
   have e2:(#[]:Array Value)=([]:List Value).toArray:=rfl
   rw [e2,e,au,M3,cr,dP]
   have:=g_ (show k.toNat<=1000 by omega) h3
   omega
  refine eu (decide_eq_false hc5) ?_
  wp_walk using ce hl
  exact⟨_,rfl,h⟩
noncomputable def av9 (K:aa):R2:=fun x y H Q=>∃ l k xs,x=.ref l/\y=.int k/\SqT K H l xs/\2<=k/\k<=1000/\xs.length≠0/\xs.length<=1000 /\ 
 ∀ p,H p=none->Q (.ref p) (upd H p (.tup (aX k.toNat xs).flatten))
theorem an4:OpR X (c4 .Mult) (av9 X.K):=by
 intro pins s σ H x y v u Q I rx ry h
 obtain⟨l,k,xs,rfl,rfl,hH,h1,h2,h3,h4,q⟩:=h
 cases rx
 obtain⟨t,rfl⟩:=ry
 obtain⟨its,r,p1,_⟩:=I.tuple hH
 obtain⟨⟨cls,dd,data,sl⟩,ho,hc,n,hd⟩:=id p1
 simp only at hc hd
 subst hc hd
 have hnew:fJ (fun x1 x2=>x1++x2) #[] (aX k.toNat its.toArray)=(aX k.toNat its).flatten.toArray:=by
  have:=Et its k.toNat []
  rw [gE] at this
  exact this
 have hl:=r.length
 refine fD (T := "tuple") (U := "int") (by decide) ⟨_,ho,rfl⟩ (fun s'=>gR s' k t) Gn F.fills_int_mul eV Nh F.slot_int_index.lookup
  (dY eV (gR s k t) F.entry_int_rmul (F.args_int_rmul_2 _ _) (Ix k t l its.toArray n dd sl)
   ⟨ho,rfl,⟨_,ho,rfl⟩,dY f_ ⟨_,ho,rfl⟩ F.entry_tuple_mul (F.args_tuple_mul_2 _ _) (Ky l its.toArray n dd sl k t h1 h2 (by rw [au,<- hl];exact h3) (by rw [au,<- hl];exact h4)) ⟨ho,?_⟩⟩)
 rw [hnew]
 refine⟨.ref s.heap.objs.size,_,I.laid (t':=s.toks) (o:=.tup (aX k.toNat xs).flatten) (fun b ob q=>ag _ q) (ae _) ?_,rfl,q _ (I.hok.fresh (ae _))⟩
 exact⟨by rw [M3,cr];exact aM (g_ (show k.toNat<=1000 by omega) h4) (by decide),_,r.rep k.toNat,iT _ _⟩
end
noncomputable def rNo:R2:=fun _ _ _ _=>False
noncomputable def As (K:aa):R2:=fun x y H Q=>match x,y with
 | .int i,.int j=>Q (.int (i+j)) H
 | .str a,.str b=>a.length+b.length<=sizeLine/\Q (.str (a++b)) H
 | .ref a,.ref b=>b39 (.ref a) (.ref b) H Q\/av7 K (.ref a) (.ref b) H Q\/av6 K (.ref a) (.ref b) H Q
 | _,_=>False
noncomputable def G5:R2:=fun x y H Q=>match x,y with
 | .int i,.int j=>Q (.int (i - j)) H
 | _,_=>False
noncomputable def Ci (K:aa):R2:=fun x y H Q=>match x,y with
 | .int i,.int j=>CMul i j/\Q (.int (i * j)) H
 | .ref a,.int k=>b41 (.ref a) (.int k) H Q\/av9 K (.ref a) (.int k) H Q
 | .str a,.int k=>af4 (.str a) (.int k) H Q
 | _,_=>False
noncomputable def A5:R2:=fun x y H Q=>match x,y with
 | .int i,.int j=>bv1 i j/\Q (.int (i / j)) H
 | _,_=>False
noncomputable def Ar:R2:=fun x y H Q=>match x,y with
 | .int i,.int j=>0<j/\Q (.int (i % j)) H
 | _,_=>False
noncomputable def Dh:R2:=fun x y H Q=>match x,y with
 | .int i,.int j=>ay8 i j/\Q (.int (i ^ j.toNat)) H
 | _,_=>False
noncomputable def rOp (K:aa):i9->R2
 | .Add=>As K
 | .Sub=>G5
 | .Mult=>Ci K
 | .FloorDiv=>A5
 | .Mod=>Ar
 | .Pow=>Dh
 | _=>rNo
section
variable {X:Cx}
theorem cj5 (op:i9):OpR X (c4 op) (rOp X.K op):=by
 intro pins s σ H x y v u Q I rx ry h
 cases op with
 | Add=>
  cases x <;> cases y <;> first
   | exact (show False from h).elim
   | exact ba2 pins s σ H _ _ v u Q I rx ry ⟨_,_,rfl,rfl,h⟩
   | exact Rh pins s σ H _ _ v u Q I rx ry ⟨_,_,rfl,rfl,h⟩
   | exact (op_cat.or (op_catT.or an0)) pins s σ H _ _ v u Q I rx ry h
 | Sub=>cases x <;> cases y <;> first|exact (show False from h).elim|exact bb3 pins s σ H _ _ v u Q I rx ry ⟨_,_,rfl,rfl,h⟩
 | Mult=>cases x <;> cases y <;> first|exact (show False from h).elim|exact ba8 pins s σ H _ _ v u Q I rx ry ⟨_,_,rfl,rfl,h⟩|exact (op_rep.or an4) pins s σ H _ _ v u Q I rx ry h|exact an2 pins s σ H _ _ v u Q I rx ry h
 | FloorDiv=>cases x <;> cases y <;> first|exact (show False from h).elim|exact an1 pins s σ H _ _ v u Q I rx ry ⟨_,_,rfl,rfl,h⟩
 | Mod=>cases x <;> cases y <;> first|exact (show False from h).elim|exact ba7 pins s σ H _ _ v u Q I rx ry ⟨_,_,rfl,rfl,h⟩
 | Pow=>cases x <;> cases y <;> first|exact (show False from h).elim|exact bb2 pins s σ H _ _ v u Q I rx ry ⟨_,_,rfl,rfl,h⟩
 | _=>exact (show False from h).elim
end
noncomputable def Aw (K:aa) (neg:Bool):R2:=fun x y H Q=>match x,y with
 | .ref a,.ref b=>bg4 K neg (.ref a) (.ref b) H Q\/af0 K neg (.ref a) (.ref b) H Q\/False\/bg3 K neg (.ref a) (.ref b) H Q
 | .ref a,y=>af0 K neg (.ref a) y H Q\/bg5 neg (.ref a) y H Q
 | x,.ref b=>af0 K neg x (.ref b) H Q
 | .int i,.int j=>Q (.bl (if neg then !decide (i=j) else decide (i=j))) H
 | .str i,.str j=>Q (.bl (if neg then !decide (i=j) else decide (i=j))) H
 | .bl i,.bl j=>Q (.bl (if neg then !(i==j) else (i==j))) H
 | x,y=>bp5 x y=true/\Q (.bl (if neg then !decide (x=y) else decide (x=y))) H
noncomputable def bg8:R2:=fun x y H Q=>match x,y with
 | .int i,.int j=>Q (.bl (decide (i<j))) H
 | .str i,.str j=>Q (.bl (decide (i.cps.toList<j.cps.toList))) H
 | _,_=>False
noncomputable def Cr:R2:=fun x y H Q=>match x,y with
 | .int i,.int j=>Q (.bl (decide (i<=j))) H
 | .str i,.str j=>Q (.bl (!decide (j.cps.toList<i.cps.toList))) H
 | _,_=>False
noncomputable def b40:R2:=fun x y H Q=>match x,y with
 | .int i,.int j=>Q (.bl (decide (j<i))) H
 | _,_=>False
noncomputable def cj7:R2:=fun x y H Q=>match x,y with
 | .int i,.int j=>Q (.bl (decide (j<=i))) H
 | _,_=>False
noncomputable def bg6 (K:aa) (neg:Bool):R2:=fun x y H Q=>match x,y with
 | .str i,.str j=>Q (.bl (if neg then !(!(cj j i 0 j.length 1).isEmpty) else !(cj j i 0 j.length 1).isEmpty)) H
 | x,.ref p=>rIn K neg x (.ref p) H Q \/ ∃ o,L6 H p x o/\Q (.bl (if neg then !o.isSome else o.isSome)) H
 | _,_=>False
noncomputable def bg7 (neg:Bool):R2:=fun x y H Q=>match y with
 | .non=>Q (.bl (if neg then !decide (x=.non) else decide (x=.non))) H
 | .bl d=>(match x with
  | .bl c=>Q (.bl (if neg then !(c==d) else (c==d))) H
  | _=>False)
 | _=>False
noncomputable def K0 (K:aa):iS->R2
 | .Eq=>Aw K false
 | .NotEq=>Aw K true
 | .Lt=>bg8
 | .LtE=>Cr
 | .Gt=>b40
 | .GtE=>cj7
 | .In=>bg6 K false
 | .NotIn=>bg6 K true
 | .Is=>bg7 false
 | .IsNot=>bg7 true
section
variable {X:Cx}
theorem Lb (hu:X.A.units+64<cLine) (op:iS):OpR X (bJ op) (K0 X.K op):=by
  intro pins s σ H x y v u Q I rx ry h
  cases op with
  | Eq=>
    cases x <;> cases y <;> first
      | (rcases h with h|h|h|h
         . exact ba4 (by omega) pins s σ H _ _ v u Q I rx ry h
         . exact Ri hu I rx ry (.inl ⟨_,rfl⟩) h
         . exact h.elim
         . exact ba3 hu I rx ry h)
      | (rcases h with h|h
         . exact Ri hu I rx ry (.inl ⟨_,rfl⟩) h
         . exact ba5 hu I rx ry h)
      | exact Ri hu I rx ry (.inr ⟨_,rfl⟩) h
      | exact Ur pins s σ H _ _ v u Q I rx ry h
      | exact Ur pins s σ H _ _ v u Q I rx ry ⟨rfl,by rw [Hg,cx];exact h⟩
      | exact Ur pins s σ H _ _ v u Q I rx ry ⟨rfl,by rw [Hh,cx];exact h⟩
      | exact Ur pins s σ H _ _ v u Q I rx ry ⟨rfl,by rw [Mp];exact h⟩
  | NotEq=>
    cases x <;> cases y <;> first
      | (rcases h with h|h|h|h
         . exact bb0 (by omega) pins s σ H _ _ v u Q I rx ry h
         . exact Rj hu I rx ry (.inl ⟨_,rfl⟩) h
         . exact h.elim
         . exact ba9 hu I rx ry h)
      | (rcases h with h|h
         . exact Rj hu I rx ry (.inl ⟨_,rfl⟩) h
         . exact bb1 hu I rx ry h)
      | exact Rj hu I rx ry (.inr ⟨_,rfl⟩) h
      | exact Us pins s σ H _ _ v u Q I rx ry h
      | exact Us pins s σ H _ _ v u Q I rx ry ⟨rfl,by rw [Hg,cx];exact h⟩
      | exact Us pins s σ H _ _ v u Q I rx ry ⟨rfl,by rw [Hh,cx];exact h⟩
      | exact Us pins s σ H _ _ v u Q I rx ry ⟨rfl,by rw [Mp];exact h⟩
  | Lt=>cases x <;> cases y <;> first|exact (show False from h).elim|exact b23 pins s σ H _ _ v u Q I rx ry ⟨_,_,rfl,rfl,h⟩|exact Wm pins s σ H _ _ v u Q I rx ry ⟨_,_,rfl,rfl,h⟩
  | LtE=>cases x <;> cases y <;> first|exact (show False from h).elim|exact b22 pins s σ H _ _ v u Q I rx ry ⟨_,_,rfl,rfl,h⟩|exact Wl pins s σ H _ _ v u Q I rx ry ⟨_,_,rfl,rfl,h⟩
  | Gt=>cases x <;> cases y <;> first|exact (show False from h).elim|exact b21 pins s σ H _ _ v u Q I rx ry ⟨_,_,rfl,rfl,h⟩
  | GtE=>cases x <;> cases y <;> first|exact (show False from h).elim|exact b20 pins s σ H _ _ v u Q I rx ry ⟨_,_,rfl,rfl,h⟩
  | In=>cases x <;> cases y <;> first|exact (show False from h).elim|exact Wk pins s σ H _ _ v u Q I rx ry ⟨_,_,rfl,rfl,h⟩|exact h.elim (Wj pins s σ H _ _ v u Q I rx ry) fun⟨o,g,q⟩=>by cases ry;exact ci7 (by omega) I g rx fun s' I'=>⟨.bl _,H,I',rfl,q⟩
  | NotIn=>cases x <;> cases y <;> first|exact (show False from h).elim|exact M7 pins s σ H _ _ v u Q I rx ry ⟨_,_,rfl,rfl,h⟩|exact h.elim (M6 pins s σ H _ _ v u Q I rx ry) fun⟨o,g,q⟩=>by cases ry;exact ak8 (by omega) I g rx fun s' I'=>⟨.bl _,H,I',rfl,q⟩
  | Is=>cases y <;> first|exact (show False from h).elim|exact ba6 pins s σ H _ _ v u Q I rx ry ⟨rfl,h⟩|(cases x <;> first|exact (show False from h).elim|(cases rx;cases ry;exact is_bool ⟨.bl _,H,I,rfl,h⟩))
  | IsNot=>cases y <;> first|exact (show False from h).elim|exact an3 pins s σ H _ _ v u Q I rx ry ⟨rfl,h⟩|(cases x <;> first|exact (show False from h).elim|(cases rx;cases ry;exact isnot_bool ⟨.bl _,H,I,rfl,h⟩))
end
noncomputable def Fw:V->Hp->VK->Prop:=fun x H Q=>match x with
 | .int i=>Q (.int (-i)) H
 | _=>False
theorem cn8 {X:Cx}:UnR X (je .USub) Fw:=by
 intro pins s σ H x v Q I rx h
 cases x <;> first|exact (show False from h).elim|exact bq4 pins s σ H _ v Q I rx ⟨_,rfl,h⟩
noncomputable def af1:V->Hp->VK->Prop:=fun x H Q=>match x with
 | .int i=>Q (.int (Builtin.bitNot i)) H
 | _=>False
theorem by6 {X:Cx}:UnR X (je .Invert) af1:=by
 intro pins s σ H x v Q I rx h
 cases x <;> first|exact (show False from h).elim|exact bq3 pins s σ H _ v Q I rx ⟨_,rfl,h⟩
theorem Vf {X:Cx}:bv7 X (Gw X.K):=by
 intro pins s σ H x v Q I rx h
 cases x with
 | non=>exact Kn pins s σ H _ v Q I rx ⟨_,rfl,h⟩
 | bl b=>exact Kn pins s σ H _ v Q I rx ⟨_,rfl,h⟩
 | int i=>exact Kn pins s σ H _ v Q I rx ⟨_,rfl,h⟩
 | str y=>exact Kn pins s σ H _ v Q I rx ⟨_,⟨h.1,rfl⟩,h.2⟩
 | ref p=>exact Kn pins s σ H _ v Q I rx h
 | _=>exact (show False from h).elim
inductive SqX (K:aa) (H:Hp) (p:Addr) (i:Int) (xs:List V):Prop where
 | inl (h:SqL K H p xs)
 | inr (h:SqT K H p xs)
 | dk (h:∀ v,atI xs i=some v->L6 H p (.int i) (some v))
noncomputable def Ak (K:aa):R2:=fun x y H Q=>match x,y with
 | .str z,.int i=>z.length<=sizeLine /\ ∃ c,atI z.cps.toList i=some c/\Q (.str ⟨#[c]⟩) H
 | .ref p,.int i=>∃ xs v,SqX K H p i xs/\atI xs i=some v/\Q v H
 | .ref p,.str k=>∃ v,L6 H p (.str k) (some v)/\Q v H
 | .ref p,.ref b=>∃ v,L6 H p (.ref b) (some v)/\Q v H
 | _,_=>False
theorem cj2 {X:Cx} (hu:X.A.units+64<cLine):IxR X (Ak X.K):=by
  intro value slice pins s σ H x y v u Q I rx ry h hs
  cases x <;> cases y <;> first
    | exact (show False from h).elim
    | (obtain⟨h1,c,h2,h3⟩:=h;exact a51 value slice pins s σ H _ _ v u Q I rx ry ⟨_,_,c,rfl,rfl,h1,h2,h3⟩ hs)
    | (obtain⟨xs,w,h1|h1|h1,h2,h3⟩:=h
       . exact al8 value slice pins s σ H _ _ v u Q I rx ry ⟨_,_,_,_,rfl,rfl,h1,h2,h3⟩ hs
       . exact a52 value slice pins s σ H _ _ v u Q I rx ry ⟨_,_,_,_,rfl,rfl,h1,h2,h3⟩ hs
       . exact Uo hu value slice pins s σ H _ _ v u Q I rx ry ⟨_,w,rfl,h1 w h2,h3⟩ hs)
    | (obtain⟨w,h1,h2⟩:=h;exact Uo hu value slice pins s σ H _ _ v u Q I rx ry ⟨_,w,rfl,h1,h2⟩ hs)
noncomputable def aw1:V->V->V->Hp->(Hp->Prop)->Prop:=fun o i v H N=>match o,i with
 | .ref p,.int k=>(∃ xs j,H p=some (.lst xs)/\ixN xs.length k=some j/\N (upd H p (.lst (xs.set j v)))) \/ ∃ H',aj7 H p (.int k) v H'/\N H'
 | .ref p,i=>∃ H',aj7 H p i v H'/\N H'
 | _,_=>False
theorem ca4 {X:Cx} (hu:X.A.units+64<cLine):a17 X aw1:=by
 intro pins s σ H o i v ov iv u Q I ro ri rv h
 cases o with
 | ref p=>
  have dp:∀ {H'},aj7 H p i v H'->Q H'->aS (model X.prog X.w) X.A (setItem ov iv u) (fun _ s'=>∃ H',Inv X pins σ H' s'/\Q H') X.xe s:=fun {H'} g q=>by
   cases ro
   exact V2 (by omega) I g ri rv fun s' I'=>⟨H',I',q⟩
  cases i with
  | int k=>
   rcases h with ⟨xs,j,h1,h2,h3⟩|⟨H',g,q⟩
   ·exact ag1 pins s σ H _ _ v ov iv u Q I ro ri rv ⟨p,xs,k,j,rfl,rfl,h1,h2,h3⟩
   ·exact dp g q
  | _=>obtain⟨H',g,q⟩:=h;exact dp g q
 | _=>exact (show False from h).elim
noncomputable def Bf (K:aa) (f:Str):V->Hp->VK->Prop:=fun x H Q=>match x with
 | .ref a=>(∃ C dx fs v,H a=some (.ins C dx fs)/\Cls K C/\NoAttr K C f/\fs.lookup f=some v/\Q v H)\/(∃ C fs v,ExcAt H a C fs/\ECls K C/\NoAttr K C f/\fs.lookup f=some v/\Q v H)
 | _=>False
noncomputable def aw0 (K:aa) (f:Str):V->V->Hp->(Hp->Prop)->Prop:=fun x y H N=>match x with
 | .ref a=>(∃ C dx fs,H a=some (.ins C dx fs)/\Cls K C/\NoAttr K C f/\fs.length<1000/\N (upd H a (.ins C dx (Ea f y fs))))\/(∃ C,ECls K C/\NoAttr K C f/\bv6 H a C f y N)
 | _=>False
section
variable {X:Cx} {pins:List (Addr×Obj)} {σ:St} {H:Hp} {s:ah} {A:bt} {E:Value->ah->Prop}
theorem bw9 {f:Str} {x:V} {u:Value} {b:Bool} {Q:VK} (I:Inv X pins σ H s) (rx:RelV x u) (h:Bf X.K f x H Q):aS (model X.prog X.w) A (iD u f b) (EP X pins σ Q) E s:=by
 cases x with
 | ref a=>
  cases rx
  rcases h with ⟨C,dx,fs,v,ea,c,n,l,q⟩|⟨C,fs,v,ea,c,n,l,q⟩
  ·exact Q7 I ea c n l fun u' s2 I2 ru=>⟨v,H,I2,ru,q⟩
  ·exact V7 I ea c n l fun u' s2 I2 ru=>⟨v,H,I2,ru,q⟩
 | _=>exact (show False from h).elim
theorem b98 {f:Str} {x y:V} {u v:Value} {N:Hp->Prop} {Q:Unit->ah->Prop} (I:Inv X pins σ H s) (rx:RelV x u) (ry:RelV y v) (h:aw0 X.K f x y H N) (hQ:∀ H' s',Inv X pins σ H' s'->N H'->Q () s') :
  aS (model X.prog X.w) A (i5 u f v) Q E s:=by
 cases x with
 | ref a=>
  cases rx
  rcases h with ⟨C,dx,fs,ea,c,n,l,q⟩|⟨C,c,n,q⟩
  ·exact Sr I ea c n l ry fun s3 I3=>hQ _ _ I3 q
  ·exact Wv I c n ry q hQ
 | _=>exact (show False from h).elim
end
structure FI where
 f:Addr
 fd:ai
 ps:List Str
 k:Nat
 sp:Sp
 dfs:List V
 ds:List Value
structure MI where
 C:Addr
 i:FI
inductive GB where
 | fn (i:FI)
 | cls (C:Addr) (i:Option FI)
 | met (m:Str) (l:List MI)
 | val (v:V) (u:Value)
 | exc (C:Addr) (i:Option FI)
 | ini (C:Addr) (i:FI)
 | dic (a:Addr) (kvs:List (Key×V))
noncomputable def Pk (gb:List (Str×GB)):List FI:=gb.filterMap fun p=>match p.2 with
 | .fn i=>some i
 | _=>none
noncomputable def B2:List (Str×GB)->Str->Option (List MI)
 | [],_=>none
 | (_,.met m l)::r,x=>if m=x then some l else B2 r x
 | _::r,x=>B2 r x
theorem Bq:∀ {gb:List (Str×GB)} {x:Str} {l:List MI},B2 gb x=some l -> ∃ k,(k,GB.met x l)∈gb
 | (k,.met m l')::r,x,l,h=>by
  unfold B2 at h
  by_cases e:m=x
  ·rw [if_pos e] at h;cases h;subst e;exact⟨k,by simp⟩
  ·rw [if_neg e] at h;obtain⟨k,q⟩:=Bq h;exact⟨k,aQ _ q⟩
 | (_,.fn _)::r,x,l,h=>by unfold B2 at h;obtain⟨k,q⟩:=Bq h;exact⟨k,aQ _ q⟩
 | (_,.cls _ _)::r,x,l,h=>by unfold B2 at h;obtain⟨k,q⟩:=Bq h;exact⟨k,aQ _ q⟩
 | (_,.val _ _)::r,x,l,h=>by unfold B2 at h;obtain⟨k,q⟩:=Bq h;exact⟨k,aQ _ q⟩
 | (_,.dic _ _)::r,x,l,h=>by unfold B2 at h;obtain⟨k,q⟩:=Bq h;exact⟨k,aQ _ q⟩
 | (_,.ini _ _)::r,x,l,h=>by unfold B2 at h;obtain⟨k,q⟩:=Bq h;exact⟨k,aQ _ q⟩
 | (_,.exc _ _)::r,x,l,h=>by unfold B2 at h;obtain⟨k,q⟩:=Bq h;exact⟨k,aQ _ q⟩
structure Sg where
 K:aa
 N:List Str
 sc:List (Str×bT)
 gb:List (Str×GB)
 bl:List Str
 top:Bool
 calm:Bool
noncomputable def Bw:List Str->Str->Nat->Option Nat
 | [],_,_=>none
 | y::r,x,i=>if y=x then some i else Bw r x (i+1)
theorem Lw:∀ {N:List Str} {x:Str} {i j:Nat},Bw N x j=some i->j<=i/\N[i - j]? = some x
 | [],_,_,_,h=>by cases h
 | y::r,x,i,j,h=>by
  unfold Bw at h
  by_cases e:y=x
  ·rw [if_pos e] at h
   cases h
   refine⟨ae _,?_⟩
   rw [Nat.sub_self,e]
   rfl
  ·rw [if_neg e] at h
   obtain⟨h1,h2⟩:=Lw h
   refine⟨by omega,?_⟩
   have:i - j=(i - (j+1))+1:=by omega
   rw [this,cV]
   exact h2
theorem Dv {N:List Str} {x:Str} {i:Nat} (h:Bw N x 0=some i):N[i]? = some x:=(Lw h).2
noncomputable def Ds (x:Str):Bool:=!(x==("__debug__" : Str)) && !(x==("__classdict__" : Str)) && !(x==("__name__" : Str))
noncomputable def He (G:Sg) (x:Str):Bool:=(G.sc.lookup x==some .globalImplicit)&&Ds x
noncomputable def Tk (x:Str):Option String:=
 if x = "int" then some "int" else if x = "bool" then some "bool" else if x = "str" then some "str" else if x = "list" then some "list" else if x = "tuple" then some "tuple" else if x = "dict" then some "dict" else if x = "ValueError" then some "ValueError" else none
theorem ak5:cE "ValueError" = some (.type "ValueError"):=by decide +kernel
theorem W2 {x:Str} {T:String} (h:Tk x=some T):cE x=some (.type T):=by
 unfold Tk at h
 by_cases e1:x = "int"
 ·rw [if_pos e1] at h;cases h;rw [e1];exact gH
 rw [if_neg e1] at h
 by_cases e2:x = "bool"
 ·rw [if_pos e2] at h;cases h;rw [e2];exact PyProof.Rows.boot_bool
 rw [if_neg e2] at h
 by_cases e3:x = "str"
 ·rw [if_pos e3] at h;cases h;rw [e3];exact PyProof.Rows.boot_str
 rw [if_neg e3] at h
 by_cases e4:x = "list"
 ·rw [if_pos e4] at h;cases h;rw [e4];exact gp
 rw [if_neg e4] at h
 by_cases e5:x = "tuple"
 ·rw [if_pos e5] at h;cases h;rw [e5];exact fT
 rw [if_neg e5] at h
 by_cases e6:x = "dict"
 ·rw [if_pos e6] at h;cases h;rw [e6];exact PyProof.Rows.boot_dict
 rw [if_neg e6] at h
 by_cases e7:x = "ValueError"
 ·rw [if_pos e7] at h;cases h;rw [e7];exact ak5
 rw [if_neg e7] at h
 cases h
noncomputable def K2 (CX:CXT) (X:Cx):Prop:=∀ Ex,Meets X Ex -> ∀ (pins:List (Addr×Obj)) (σ:St) (H:Hp) (s:ah) (e:Value) (s':ah),Inv X pins σ H s->CX X.stack H s (fun v _ H'=>∃ a,v=.ref a/\Ex σ a H') e s'->X.xe e s'
structure D7 (X:Cx) (i:FI):Prop where
 kp:aj X.K (.ref i.f)=true
 ok:∃ CX,(∀ X':Cx,X'.prog=X.prog->X'.w=X.w->K2 CX X')/\FnOk X.prog X.w X.K X.mg X.base CX i.k i.f i.fd i.ps i.sp
 room:Room i.k X.A
 binds:∀ j,j<=i.dfs.length->Binds X.K i.fd i.ps (i.ds.drop j)
 vals:Vals i.dfs i.ds
noncomputable def E9 (X:Cx) (C:Addr):Option FI->Prop
 | none=>ac X.K (.ref C) "__init__" = some (some (.builtin "ValueError.__init__"))
 | some i=>ac X.K (.ref C) "__init__" = some (some (.ref i.f))/\cC X.K (.ref i.f)=true/\D7 X i/\Room (i.k+1) X.A
noncomputable def W6 (X:Cx) (C:Addr):Option FI->Prop
 | none=>aE X.K C=true/\ac X.K (.ref C) "__init__" = some (some (.builtin "object.__init__"))
 | some i=>aE X.K C=true/\ac X.K (.ref C) "__init__" = some (some (.ref i.f))/\cC X.K (.ref i.f)=true/\D7 X i/\Room (i.k+1) X.A
structure K3 (K:aa) (C f:Addr):Prop where
 ga:dy K (.ref C) "__getattribute__" = some (some (.builtin "type.__getattribute__"))
 rd:ff K C (.type "type")=true
 fc:e_ K (.ref C) (.type "type") "__init__" = some (.val (.ref f))
 hh:dO (.ref f)=true
noncomputable def Hs (P:aI) (w:bq) (K:aa) (a:Addr) (kvs:List (Key×V)):Prop:=(a==cf)=false /\ ∃ vs,KV kvs vs /\ ∀ h:Heap,K.In h->h.DictOf (A9 P w) a vs
noncomputable def GBOk (X:Cx) (x:Str):GB->Prop
 | .dic a kvs=>X.mg x=some (.ref a)/\Hs X.prog X.w X.K a kvs
 | .fn i=>X.mg x=some (.ref i.f)/\D7 X i
 | .val v u=>X.mg x=some u/\RelV v u
 | .exc C oi=>X.mg x=some (.ref C)/\aj X.K (.ref C)=true/\ECls X.K C/\E9 X C oi
 | .cls C oi=>X.mg x=some (.ref C)/\aj X.K (.ref C)=true/\W6 X C oi
 | .met m l=>∀ mi∈l,Cls X.K mi.C/\Dk X.K mi.C m mi.i.f/\D7 X mi.i
 | .ini C i=>X.mg x=some (.ref C)/\K3 X.K C i.f/\D7 X i
theorem GBOk.to {X X':Cx} (hm:X'.mg=X.mg) (hK:X'.K=X.K) (hP:X'.prog=X.prog) (hw:X'.w=X.w) (hA:∀ k,Room k X.A->Room k X'.A) (hf:∀ i,D7 X i->D7 X' i) {x:Str} {g:GB} (h:GBOk X x g):GBOk X' x g:=by
 cases g with
 | fn i=>exact⟨hm▸h.1,hf i h.2⟩
 | val v u=>exact⟨hm▸h.1,h.2⟩
 | exc C oi=>
  obtain⟨a,b,c,d⟩:=h
  refine⟨hm▸a,hK▸b,hK▸c,?_⟩
  cases oi with
  | none=>unfold E9 at d ⊢;rw [hK];exact d
  | some i=>obtain⟨d1,d2,d3,d4⟩:=d;exact⟨hK▸d1,hK▸d2,hf i d3,hA _ d4⟩
 | cls C oi=>
  obtain⟨a,b,d⟩:=h
  refine⟨hm▸a,hK▸b,?_⟩
  cases oi with
  | none=>unfold W6 at d ⊢;rw [hK];exact d
  | some i=>obtain⟨d1,d2,d3,d4,d5⟩:=d;exact⟨hK▸d1,hK▸d2,hK▸d3,hf i d4,hA _ d5⟩
 | met m l=>exact fun mi hi=>⟨hK▸(h mi hi).1,hK▸(h mi hi).2.1,hf _ (h mi hi).2.2⟩
 | ini C i=>exact⟨hm▸h.1,hK▸h.2.1,hf i h.2.2⟩
 | dic a kvs=>exact⟨hm▸h.1,by rw [hP,hw,hK];exact h.2⟩
noncomputable def FrH (X:Cx):Prop:=∃ (e0:Env) (o0:List Env) (L:Addr),X.stack=e0::o0/\e0.frame=some L/\X.env.frame=some L
structure GOk (X:Cx) (G:Sg):Prop where
 K:X.K=G.K
 kind:X.env.scope.kind=.function
 own:G.top=true->eZ (model X.prog X.w) X.A X.env X.xe
 N:X.N=G.N
 nd:G.N.Nodup
 sc:∀ x,X.env.scope.names.lookup x=G.sc.lookup x
 vis:∀ x∈G.N,Vis X.env.scope x
 top:G.top=true -> ∀ x,X.fn x=true
 calm:G.calm=X.calm
 hd:X.calm=true->X.A.handled=none
 units:X.A.units+64<cLine
 cel:∀ x,(X.env.scope.names.lookup x=some .cell\/X.env.scope.names.lookup x=some .free) -> ∃ c,X.env.cells.lookup x=some c
 gb:∀ x g,(x,g)∈G.gb->GBOk X x g
 bl:∀ x,G.bl.contains x=true->X.mg x=none
 frm:G.top=true->X.stack=X.env::X.outer/\X.env.frame=some X.env.locals
 fr:FrH X
section
variable {X:Cx} {G:Sg}
theorem GOk.at_ (O:GOk X G) (x:Str) (g:GB) (e:G.gb.lookup x=some g):GBOk X x g:=O.gb x g (bM e)
theorem GOk.fns (O:GOk X G) {i:FI} (h:i∈Pk G.gb):D7 X i:=by
 obtain⟨⟨x,g⟩,hx,e⟩:=List.mem_filterMap.mp h
 cases g with
 | fn j=>cases e;exact (O.gb x _ hx).2
 | _=>cases e
theorem GOk.met (O:GOk X G) (m:Str) (l:List MI) (e:B2 G.gb m=some l):∀ mi∈l,Cls X.K mi.C/\Dk X.K mi.C m mi.i.f/\D7 X mi.i:=by
 obtain⟨x,hx⟩:=Bq e
 exact O.gb x _ hx
theorem GOk.gl (O:GOk X G) {x:Str} (h:He G x=true):Gl X x:=by
 unfold He at h
 rw [am] at h
 have:=bP h.1
 unfold Gl
 show X.env.scope.names.lookup x=_
 rw [O.sc x]
 exact this
theorem M9 {x:Str} (h:Ds x=true):(x==("__debug__" : Str))=false/\(x==("__classdict__" : Str))=false/\x ≠ "__name__" := by
 unfold Ds at h
 simp only [am,fH] at h
 exact⟨h.1.1,h.1.2,fun e=>by rw [e] at h;simp at h⟩
theorem Gi {x:Str} (h:He G x=true):(x==("__debug__" : Str))=false/\(x==("__classdict__" : Str))=false/\x ≠ "__name__" := by
 unfold He at h
 rw [am] at h
 exact M9 h.2
noncomputable def Qo (G:Sg) (x:Str):DE:=
 match Bw G.N x 0 with
 | some i=>if Ds x=true then Ac i else dNo
 | none=>if He G x=true then (match G.gb.lookup x with
   | some (.val v _)=>dC v
   | some (.exc C _)=>dC (.ref C)
   | some (.cls C _)=>dC (.ref C)
   | some (.ini C _)=>dC (.ref C)
   | some _=>dNo
   | none=>if G.bl.contains x=true then (match Tk x with
    | some T=>dC (.ty T)
    | none=>dNo) else dNo) else dNo
theorem Bl {e:Expr}:QE X e dNo:=fun _ _ _ _ _ _ _ _ h=>h.elim
theorem be7 {i:Nat} {x:Str} {pos:Pos} (hN:X.N[i]? = some x) (hv:Vis X.env.scope x) (hp:Ds x=true):QE X (.Name x pos) (Ac i):=by
 intro Ex _ pins s σ H Q I h
 unfold Ac at h
 split at h
 ·rename_i v e
  exact bc1 hN hv (M9 hp).1 (M9 hp).2.1 pins s σ H Q I ⟨v,e,h⟩
 ·exact h.elim
theorem Nb (O:GOk X G) (x:Str) (pos:Pos):QE X (.Name x pos) (Qo G x):=by
 unfold Qo
 split
 ·rename_i i e
  split
  ·rename_i hp
   have hi:=Dv e
   exact be7 (by rw [O.N];exact hi) (O.vis x (bB hi)) hp
  ·exact Bl
 ·split
  ·rename_i hg
   have dd:=Gi hg
   split
   ·rename_i v u e
    obtain⟨h1,h2⟩:=O.at_ x _ e
    exact fun _ _=>Fv (O.gl hg) h1 h2 dd.1
   ·rename_i C oi e
    exact fun _ _=>Fv (v:=.ref C) (O.gl hg) (O.at_ x _ e).1 rfl dd.1
   ·rename_i C oi e
    exact fun _ _=>Fv (v:=.ref C) (O.gl hg) (O.at_ x _ e).1 rfl dd.1
   ·rename_i C i e
    exact fun _ _=>Fv (v:=.ref C) (O.gl hg) (O.at_ x _ e).1 rfl dd.1
   ·exact Bl
   ·split
    ·rename_i hb
     split
     ·rename_i T e
      exact fun _ _=>an8 (O.gl hg) (O.bl x hb) (W2 e) rfl dd.2.2 dd.1
     ·exact Bl
    ·exact Bl
  ·exact Bl
noncomputable def aj3:Const->DE
 | .int i=>dC (.int i)
 | .bool b=>dC (.bl b)
 | .none=>dC .non
 | .str x=>dC (.str x)
 | _=>dNo
theorem P7 (c:Const) (j:Nat) (pos:Pos):QE X (.Constant c j pos) (aj3 c):=by
 cases c with
 | int i=>exact fun _ _=>bb5
 | bool b=>exact fun _ _=>b24
 | none=>exact fun _ _=>bb7
 | str x=>exact fun _ _=>bb9
 | _=>exact Bl
variable {a b c:Expr} {da db dc:DE} {ta tb:DT} {es:List Expr} {r:DA} {pos:Pos}
theorem bd1 (op:i9) (ha:QE X a da) (hb:QE X b db):QE X (.BinOp a op b pos) (Ad (rOp X.K op) da db):=fun Ex m=>b26 (cj5 op) (ha Ex m) (hb Ex m)
theorem be2 (ha:QE X a da):QE X (.UnaryOp .USub a pos) (dUn Fw da):=fun Ex m=>av4 cn8 (ha Ex m)
theorem bd7 (ha:QE X a da):QE X (.UnaryOp .Invert a pos) (dUn af1 da):=fun Ex m=>av4 by6 (ha Ex m)
theorem bd4 (hu:X.A.units+64<cLine) (op:iS) (ha:QE X a da) (hb:QE X b db) (hm:cD op b=false):QE X (.Compare a [op] [b] pos) (Ad (K0 X.K op) da db):=fun Ex m=>an9 (Lb hu op) (ha Ex m) (hb Ex m) hm
theorem bf7 (hu:X.A.units+64<cLine) (op:iS) (ha:QE X a da) (hb:QE X b db) (hm:cD op b=false):QT X (.Compare a [op] [b] pos) (Az (Ad (K0 X.K op) da db)):=by
 intro Ex m pins s σ H Q I h
 refine gP (thn (ha Ex m pins s σ H _ I h) fun v s1 ⟨x,H1,I1,r1,q1⟩=>thn (hb Ex m pins s1 σ H1 _ I1 q1) fun u s2 ⟨y,H2,I2,r2,q2⟩=>
  thn (Lb hu op pins s2 σ H2 x y v u _ I2 r1 r2 q2) fun c s3 ⟨z,H3,I3,r3,q3⟩=>?_) hm
 cases z with
 | bl k=>cases r3;exact cq ⟨H3,I3,q3⟩
 | _=>exact (show False from q3).elim
theorem ae0 (hu:X.A.units+64<cLine) (op op':iS) (ha:QE X a da) (hb:QE X b db) (hc:QE X c dc) (hm:lastMarks [op,op'] [b,c]=false) :
  QE X (.Compare a [op,op'] [b,c] pos) (Bx (K0 X.K op) (K0 X.K op') da db dc):=by
 intro Ex m pins s σ H Q I h
 refine Compare_chain (thn (ha Ex m pins s σ H _ I h) fun v s1 ⟨x,H1,I1,r1,q1⟩=>chain_link (thn (hb Ex m pins s1 σ H1 _ I1 q1) fun u s2 ⟨y,H2,I2,r2,q2⟩=>
  thn (Lb hu op pins s2 σ H2 x y v u _ I2 r1 r2 q2) fun d s3 ⟨z,H3,I3,r3,q3⟩=>?_)) hm
 cases z with
 | bl k=>
  cases r3
  refine cq ?_
  cases k with
  | false=>exact ite_ff ⟨.bl false,H3,I3,rfl,q3⟩
  | true=>exact ite_tt (chain_last (thn (hc Ex m pins s3 σ H3 _ I3 q3) fun w' s4 ⟨z',H4,I4,r4,q4⟩=>Lb hu op' pins s4 σ H4 y z' u w' Q I4 r2 r4 q4))
 | _=>exact (show False from q3).elim
theorem ae9 (hu:X.A.units+64<cLine) (op op':iS) (ha:QE X a da) (hb:QE X b db) (hc:QE X c dc) (hm:lastMarks [op,op'] [b,c]=false) :
  QT X (.Compare a [op,op'] [b,c] pos) (Az (Bx (K0 X.K op) (K0 X.K op') da db dc)):=by
 intro Ex m pins s σ H Q I h
 refine isTrue_chain (thn (ha Ex m pins s σ H _ I h) fun v s1 ⟨x,H1,I1,r1,q1⟩=>test_link (thn (hb Ex m pins s1 σ H1 _ I1 q1) fun u s2 ⟨y,H2,I2,r2,q2⟩=>
  thn (Lb hu op pins s2 σ H2 x y v u _ I2 r1 r2 q2) fun d s3 ⟨z,H3,I3,r3,q3⟩=>?_)) hm
 cases z with
 | bl k=>
  cases r3
  refine cq ?_
  cases k with
  | false=>exact ite_ff ⟨H3,I3,q3⟩
  | true=>
   refine ite_tt (test_last (thn (hc Ex m pins s3 σ H3 _ I3 q3) fun w' s4 ⟨z',H4,I4,r4,q4⟩=>thn (Lb hu op' pins s4 σ H4 y z' u w' _ I4 r2 r4 q4) fun d' s5 ⟨z2,H5,I5,r5,q5⟩=>?_))
   cases z2 with
   | bl k2=>cases r5;exact cq ⟨H5,I5,q5⟩
   | _=>exact (show False from q5).elim
 | _=>exact (show False from q3).elim
noncomputable def ad1:Expr->Bool
 | .UnaryOp .Not _ _=>false
 | .BoolOp _ _ _=>false
 | .IfExp _ _ _ _=>false
 | .Compare _ _ _ _=>false
 | _=>true
theorem Wo {e:Expr} (h:ad1 e=true) (whole:Sem Value):isTrue e X.env whole=(do let v <- whole;iF e.pos;holding [v] (truthy v)):=by
 cases e with
 | UnaryOp op _ _=>cases op <;> first|rfl|cases h
 | BoolOp _ _ _=>cases h
 | IfExp _ _ _ _=>cases h
 | Compare _ _ _ _=>cases h
 | _=>rfl
theorem bg0 (ha:QE X a da) (h:ad1 a=true):QT X a (B8 X.K da):=by
 intro Ex m pins s σ H Q I hw
 exact isTrue_plain (thn (ha Ex m pins s σ H _ I hw) fun v s1 ⟨x,H1,I1,r1,q1⟩=>Vf pins s1 σ H1 x v Q I1 r1 q1) (Wo h _)
theorem bf9 (ha:QT X a ta):QT X (.UnaryOp .Not a pos) (Cj ta):=fun Ex m=>bc7 (ha Ex m)
theorem ap8 (ha:QT X a ta):QW X (.BoolOp .And [a] pos) ta:=fun Ex m=>ao7 (ha Ex m)
theorem bg2 (ha:QT X a ta):QW X (.BoolOp .Or [a] pos) ta:=fun Ex m=>bc9 (ha Ex m)
theorem bg1 (ha:QT X a ta) (hb:QW X (.BoolOp .And (b::es) pos) tb):QW X (.BoolOp .And (a::b::es) pos) (Gb ta tb):=fun Ex m=>bc8 (ha Ex m) (hb Ex m)
theorem b38 (ha:QT X a ta) (hb:QW X (.BoolOp .Or (b::es) pos) tb):QW X (.BoolOp .Or (a::b::es) pos) (dOr ta tb):=fun Ex m=>b31 (ha Ex m) (hb Ex m)
theorem be4 {op:BoolOp} (ha:QE X a da):QE X (.BoolOp op [a] pos) da:=fun Ex m=>bb8 (ha Ex m)
theorem bd0 (ha:QE X a da) (hb:QE X (.BoolOp .And (b::es) pos) db):QE X (.BoolOp .And (a::b::es) pos) (Bh X.K da db):=by
 intro Ex m pins s σ H Q I h
 refine BoolOp_and (thn (ha Ex m pins s σ H _ I h) fun v s1 ⟨x,H1,I1,r1,q1⟩=>thn (Vf pins s1 σ H1 x v _ I1 r1 q1) fun k s2 ⟨H2,I2,q2⟩=>?_)
 cases k with
 | true=>exact hb Ex m pins s2 σ H2 Q I2 q2
 | false=>exact⟨x,H2,I2,r1,q2⟩
theorem b35 (ha:QE X a da) (hb:QE X (.BoolOp .Or (b::es) pos) db):QE X (.BoolOp .Or (a::b::es) pos) (Qu X.K da db):=by
 intro Ex m pins s σ H Q I h
 refine BoolOp_or (thn (ha Ex m pins s σ H _ I h) fun v s1 ⟨x,H1,I1,r1,q1⟩=>thn (Vf pins s1 σ H1 x v _ I1 r1 q1) fun k s2 ⟨H2,I2,q2⟩=>?_)
 cases k with
 | false=>exact hb Ex m pins s2 σ H2 Q I2 q2
 | true=>exact⟨x,H2,I2,r1,q2⟩
theorem be3 (ha:QE X a da):QE X (.UnaryOp .Not a pos) (Tz X.K da):=by
 intro Ex m pins s σ H Q I h
 refine UnaryOp_ (thn (ha Ex m pins s σ H _ I h) fun v s1 ⟨x,H1,I1,r1,q1⟩=>not_of (thn (Vf pins s1 σ H1 x v _ I1 r1 q1) fun k s2 ⟨H2,I2,q2⟩=>?_))
 exact⟨.bl (!k),H2,I2,rfl,q2⟩
theorem b32 {t:Expr} (ht:QT X t ta) (ha:QE X a da) (hb:QE X b db):QE X (.IfExp t a b pos) (bw2 ta da db):=fun Ex m=>ac6 (ht Ex m) (ha Ex m) (hb Ex m)
noncomputable def noStar:Expr->Bool
 | .Starred _ _=>false
 | _=>true
theorem Bc {e:Expr} (h:noStar e=true) (es:List Expr) (env:Env):cm (e::es) env=(false,eval e env)::cm es env:=by
 cases e with
 | Starred _ _=>cases h
 | _=>rfl
theorem Bb {es:List Expr} (h:es.all noStar=true) (env:Env) (pos:Pos):(gL pos (cm es env)).any (·.1)=false:=by
 induction es with
 | nil=>rfl
 | cons e es ih=>
  rw [bw,am] at h
  rw [Bc h.1]
  show (false||(gL pos (cm es env)).any (·.1))=false
  rw [ih h.2]
  rfl
theorem G4 {es:List Expr} (h:es.all noStar=true) (env:Env) (pos:Pos):(gL pos (cm es env)).all (fun x=>!x.1)=true:=by
 induction es with
 | nil=>rfl
 | cons e es ih=>
  rw [bw,am] at h
  rw [Bc h.1]
  show (true&&(gL pos (cm es env)).all (fun x=>!x.1))=true
  rw [ih h.2]
  rfl
theorem ad7:QA X [] Ae:=fun _ _=>bb4
theorem Ut (ha:QE X a da) (hr:QA X es r) (hs:noStar a=true):QA X (a::es) (Aa da r):=fun Ex m=>an7 (ha Ex m) (hr Ex m) (Bc hs es X.env)
theorem be6 {k:Nat} (h:QA X es r):QE X (.Tuple es k pos) (A6 r):=fun Ex m=>bc0 (h Ex m)
theorem bd9 (h:QA X es r):QE X (.List es pos) (Bm r):=fun Ex m=>bb6 (h Ex m)
noncomputable def Ez:Expr->Bool
 | .Slice _ _ _ _=>false
 | _=>true
theorem Iu {e:Expr} (h:Ez e=true):Tp e:=by
 intro o i
 cases e with
 | Slice _ _ _ _=>cases h
 | _=>rfl
theorem b33 (hu:X.A.units+64<cLine) (ha:QE X a da) (hb:QE X b db) (h:Ez b=true):QE X (.Subscript a b pos) (Ad (Ak X.K) da db):=fun Ex m=>b25 (cj2 hu) (ha Ex m) (hb Ex m) (Iu h)
noncomputable def aq0 (kvs:List (Key×V)):V->Hp->VK->Prop:=fun y H Q=>∃ k v,y=kV k/\Eb kvs k=some v/\Q v H
noncomputable def Qa (neg:Bool) (kvs:List (Key×V)):V->Hp->VK->Prop:=fun y H Q=>∃ k,y=kV k/\Q (.bl (if neg then !(Eb kvs k).isSome else (Eb kvs k).isSome)) H
theorem bd8 {ka:Addr} {kvs:List (Key×V)} {x:Str} {p:Pos} (k:Hs X.prog X.w X.K ka kvs) (hn:QE X (.Name x p) (dC (.ref ka))) (hb:QE X b db) (hs:Ez b=true):QE X (.Subscript (.Name x p) b pos) (dUn (aq0 kvs) db):=by
 intro Ex m pins s σ H Q I h
 refine Subscript_ (thn (hn Ex m pins s σ H (fun x H1=>x=.ref ka/\db σ H1 (fun y H2=>aq0 kvs y H2 Q) (Ex σ)) I ⟨rfl,h⟩) fun v s1 ⟨x,H1,I1,r1,e,q1⟩=>?_)
 subst e
 cases r1
 refine thn (hb Ex m pins s1 σ H1 _ I1 q1) fun u s2 ⟨y,H2,I2,r2,k',w',e2,l,q2⟩=>?_
 subst e2
 obtain⟨hd,vs,rel,dd⟩:=k
 have d:=dd _ I2.kIn
 obtain⟨w1,hw,rw'⟩:=RelO.some_of (v:=w') (o:=ie vs k') (by rw [<- l];exact rel.val k')
 exact jd d.typeIs PySem.F.slot_dict_getitem.lookup (wpAny_getItem_of (G1 r2) d.mapOf hw ⟨w',H2,I2.tok _,rw',q2⟩) (Iu hs _ _)
theorem aa8 {pins:List (Addr×Obj)} {s:ah} {σ:St} {H:Hp} {ka:Addr} {kvs:List (Key×V)} {y:V} {u:Value} {Q:VK} {neg:Bool} (k:Hs X.prog X.w X.K ka kvs) (I:Inv X pins σ H s) (r:RelV y u) (h:Qa neg kvs y H Q) :
  aS (model X.prog X.w) X.A (bJ (if neg then .NotIn else .In) u (.ref ka)) (EP X pins σ Q) X.xe s:=by
 obtain⟨k',e2,q⟩:=h
 subst e2
 obtain⟨hd,vs,rel,dd⟩:=k
 have d:=dd _ I.kIn
 cases neg with
 | false=>
  refine wpAny_in_of (G1 r) hd d.mapOf ?_
  rw [<- (rel.val k').isSome_eq]
  exact⟨.bl _,H,I.tok _,rfl,q⟩
 | true=>
  refine wpAny_notIn_of (G1 r) hd d.mapOf ?_
  rw [<- (rel.val k').isSome_eq]
  exact⟨.bl _,H,I.tok _,rfl,q⟩
theorem bd5 {ka:Addr} {kvs:List (Key×V)} {x:Str} {p:Pos} {neg:Bool} (k:Hs X.prog X.w X.K ka kvs) (hn:QE X (.Name x p) (dC (.ref ka))) (ha:QE X a da) (hm:cD (if neg then .NotIn else .In) (.Name x p)=false):QE X (.Compare a [if neg then .NotIn else .In] [.Name x p] pos) (dUn (Qa neg kvs) da):=by
 intro Ex m pins s σ H Q I h
 refine wpAny_Compare1 (thn (ha Ex m pins s σ H _ I h) fun v s1 ⟨y,H1,I1,r1,q1⟩=>thn (hn Ex m pins s1 σ H1 (fun x H2=>x=.ref ka/\Qa neg kvs y H2 Q) I1 ⟨rfl,q1⟩) fun u s2 ⟨x,H2,I2,r2,e,q2⟩=>?_) hm
 subst e
 cases r2
 exact aa8 k I2 r1 q2
theorem bf8 {ka:Addr} {kvs:List (Key×V)} {x:Str} {p:Pos} {neg:Bool} (k:Hs X.prog X.w X.K ka kvs) (hn:QE X (.Name x p) (dC (.ref ka))) (ha:QE X a da) (hm:cD (if neg then .NotIn else .In) (.Name x p)=false):QT X (.Compare a [if neg then .NotIn else .In] [.Name x p] pos) (Az (dUn (Qa neg kvs) da)):=by
 intro Ex m pins s σ H Q I h
 refine gP (thn (ha Ex m pins s σ H _ I h) fun v s1 ⟨y,H1,I1,r1,q1⟩=>thn (hn Ex m pins s1 σ H1 (fun x H2=>x=.ref ka/\Qa neg kvs y H2 (fun x H1=>match x with
  | .bl k=>Q k H1
  | _=>False)) I1 ⟨rfl,q1⟩) fun u s2 ⟨x,H2,I2,r2,e,q2⟩=>?_) hm
 subst e
 cases r2
 refine thn (aa8 k I2 r1 q2) fun c s3 ⟨z,H3,I3,r3,q3⟩=>?_
 cases z with
 | bl k=>cases r3;exact cq ⟨H3,I3,q3⟩
 | _=>exact (show False from q3).elim
theorem ao8 {f:Str} (ha:QE X a da) (h:fW a f X.env (eval a X.env)=eval a X.env):QE X (.Attribute a f pos) (dUn (Bf X.K f) da):=by
 intro Ex m pins s σ H Q I hw
 exact ak3 h (thn (ha Ex m pins s σ H _ I hw) fun u s1 ⟨x,H1,I1,rx,q⟩=>bw9 I1 rx q)
end
noncomputable abbrev RF:=List V->Hp->VK->Prop
noncomputable def Lm (x:V) (T:String):Bool:=match x with
 | .int _=>T == "int"
 | .bl _=>T == "bool" || T == "int"
 | .str _=>T == "str"
 | _=>false
noncomputable def okT (T:String):Bool:=["int", "bool", "str", "list", "tuple", "dict"].contains T
noncomputable def Bs (K:aa):RF:=fun xs H Q=>match xs with
 | [.int i,.ty T]=>okT T=true/\Q (.bl (Lm (.int i) T)) H
 | [.bl i,.ty T]=>okT T=true/\Q (.bl (Lm (.bl i) T)) H
 | [.str i,.ty T]=>okT T=true/\Q (.bl (Lm (.str i) T)) H
 | [.non,.ty T]=>okT T=true/\Q (.bl (Lm .non T)) H
 | [x,.ty T]=>∃ t b,TyX K H x t/\bV K t (.type T)=some b/\Q (.bl b) H
 | [x,.ref C]=>(∃ t b,TyX K H x t/\bV K t (.ref C)=some b/\Q (.bl b) H)\/av8 K x (.ref C) H Q
 | _=>False
noncomputable def Ct (K:aa):RF:=fun xs H Q=>match xs with
 | [.str z]=>z.length<=sizeLine/\Q (.int z.length) H
 | [.ref p]=>(∃ ys,(SqL K H p ys\/SqT K H p ys)/\Q (.int ys.length) H) \/ ∃ kvs,Rd H p (.dK kvs)/\Q (.int kvs.length) H
 | _=>False
noncomputable def Nd (K:aa):RF:=fun xs H Q=>match xs with
 | [.ref p]=>∃ bs:List Bool,SqL K H p (bs.map V.bl)/\Q (.bl (bs.all fun b=>b)) H
 | _=>False
noncomputable def ap9:RF:=fun xs H Q=>match xs with
 | [.int i]=>Q (.int i) H
 | [.bl k]=>Q (.int (if k then 1 else 0)) H
 | _=>False
noncomputable def Wq:RF:=fun xs H Q=>match xs with
 | [.str x]=>x.length=1/\Q (.int (x.cps.getD 0 0:Nat)) H
 | _=>False
noncomputable def Nf (K:aa):RF:=fun xs H Q=>match xs with
 | [.ref p]=>∃ ys,(SqL K H p ys\/SqT K H p ys) /\ ∀ l,H l=none->Q (.ref l) (upd H l (.lst ys))
 | _=>False
noncomputable def Fc (K:aa):RF:=fun xs H Q=>match xs with
 | [.ref p]=>∃ ys,(SqL K H p ys /\ ∀ l,H l=none->Q (.ref l) (upd H l (.tup ys)))\/(SqT K H p ys/\Q (.ref p) H)
 | _=>False
noncomputable def aq1:RF:=fun xs H Q=>match xs with
 | [.int i,.int j]=>Q (.int (if j > i then j else i)) H
 | _=>False
noncomputable def aq2:RF:=fun xs H Q=>match xs with
 | [.int i,.int j]=>Q (.int (if j<i then j else i)) H
 | _=>False
noncomputable def af3 (K:aa) (calm:Bool):RF:=fun xs H Q=>Nf K xs H Q\/(calm=true/\False)
inductive BF where
 | bf (id:String)|ty (T:String)
noncomputable def a23 (K:aa) (calm:Bool) (x:Str):Option (BF×RF):=
 if x = "len" then some (.bf "len", Ct K) else
 if x = "isinstance" then some (.bf "isinstance", Bs K) else
 if x = "all" then (if calm=true then some (.bf "all", Nd K) else none) else
 if x = "int" then some (.ty "int", ap9) else
 if x = "ord" then some (.bf "ord", Wq) else
 if x = "list" then some (.ty "list", af3 K calm) else
 if x = "tuple" then some (.ty "tuple", Fc K) else
 if x = "max" then (if calm=true then some (.bf "max", aq1) else none) else
 if x = "min" then (if calm=true then some (.bf "min", aq2) else none) else none
noncomputable def BF.val:BF->Value
 | .bf id=>.builtin id
 | .ty T=>.type T
section
variable {X:Cx}
theorem Q9 {K:aa} {x:V} {T:String} (hx:Bn x=true) (h:okT T=true):∃ t,(∀ H,TyOf K H x t)/\bV K t (.type T)=some (Lm x T):=by
 have hT:T = "int" \/ T = "bool" \/ T = "str" \/ T = "list" \/ T = "tuple" \/ T = "dict" := by
  unfold okT at h
  simpa using h
 cases x with
 | int i=>refine⟨_,fun H=>TyOf.int i,?_⟩;rcases hT with rfl|rfl|rfl|rfl|rfl|rfl <;> rfl
 | bl i=>refine⟨_,fun H=>TyOf.bl i,?_⟩;rcases hT with rfl|rfl|rfl|rfl|rfl|rfl <;> rfl
 | str i=>refine⟨_,fun H=>TyOf.str i,?_⟩;rcases hT with rfl|rfl|rfl|rfl|rfl|rfl <;> rfl
 | non=>refine⟨_,fun H=>TyOf.non,?_⟩;rcases hT with rfl|rfl|rfl|rfl|rfl|rfl <;> rfl
 | _=>cases hx
theorem Y7:Bt X (.builtin "isinstance") (Bs X.K):=by
 intro pins s σ H xs us Q I r h
 have sc:∀ x T,xs=[x,.ty T]->Bn x=true->okT T=true->Q (.bl (Lm x T)) H->aS (model X.prog X.w) X.A (call (.builtin "isinstance") us) (EP X pins σ Q) X.xe s:=fun x T e hx hT q=>by
  subst e
  obtain⟨t,ht,hk⟩:=Q9 (K:=X.K) hx hT
  exact Y6 pins s σ H _ us Q I r ⟨x,T,t,_,rfl,ht H,hk,q⟩
 unfold Bs at h
 split at h
 ·exact sc _ _ rfl rfl h.1 h.2
 ·exact sc _ _ rfl rfl h.1 h.2
 ·exact sc _ _ rfl rfl h.1 h.2
 ·exact sc _ _ rfl rfl h.1 h.2
 ·obtain⟨t,b,ty,e,q⟩:=h
  obtain⟨u,v,rfl,ru,rv⟩:=r.two
  cases rv
  exact bu (ae _) (Ij I ru ty e fun tk htk=>⟨.bl b,H,I.tok tk htk,rfl,q⟩)
 ·obtain⟨u,v,rfl,ru,rv⟩:=r.two
  rcases h with ⟨t,b,ty,e,q⟩|h
  ·cases rv
   exact bu (ae _) (Ij I ru ty e fun tk htk=>⟨.bl b,H,I.tok tk htk,rfl,q⟩)
  ·exact Vn I ru rv h
 ·exact h.elim
theorem Vo:Bt X (.builtin "len") (Ct X.K):=by
 intro pins s σ H xs us Q I r h
 unfold Ct at h
 split at h
 ·exact Me pins s σ H _ us Q I r ⟨_,rfl,h.1,h.2⟩
 ·rcases h with ⟨ys,h1,h2⟩|⟨kvs,h1,h2⟩
  ·exact Md pins s σ H _ us Q I r ⟨_,ys,rfl,h1,h2⟩
  ·obtain⟨u,rfl,ru⟩:=F0 r
   cases ru
   exact bw3 I h1 fun t s' I'=>⟨.int _,H,I',⟨t,rfl⟩,h2⟩
 ·exact h.elim
theorem Vl (hc:X.calm=true):Bt X (.builtin "all") (Nd X.K):=by
 intro pins s σ H xs us Q I r h
 unfold Nd at h
 split at h
 ·obtain⟨bs,h1,h2⟩:=h
  exact Y5 hc pins s σ H _ us Q I r ⟨_,bs,rfl,h1,h2⟩
 ·exact h.elim
theorem Vm:Bt X (.type "int") ap9:=by
 intro pins s σ H xs us Q I r h
 unfold ap9 at h
 split at h
 ·exact K9 pins s σ H _ us Q I r (.inl ⟨_,rfl,h⟩)
 ·exact K9 pins s σ H _ us Q I r (.inr ⟨_,rfl,h⟩)
 ·exact h.elim
theorem Vu:Bt X (.builtin "ord") Wq:=by
 intro pins s σ H xs us Q I r h
 unfold Wq at h
 split at h
 ·exact Y8 pins s σ H _ us Q I r ⟨_,rfl,h.1,h.2⟩
 ·exact h.elim
theorem Qs:Bt X (.type "list") (Nf X.K):=by
 intro pins s σ H xs us Q I r h
 unfold Nf at h
 split at h
 ·obtain⟨ys,h1,h2⟩:=h
  exact Mf pins s σ H _ us Q I r ⟨_,ys,rfl,h1,h2⟩
 ·exact h.elim
theorem Vv:Bt X (.type "tuple") (Fc X.K):=by
 intro pins s σ H xs us Q I r h
 unfold Fc at h
 split at h
 ·obtain⟨ys,h1⟩:=h
  exact Kt pins s σ H _ us Q I r ⟨_,ys,rfl,h1⟩
 ·exact h.elim
theorem Vq (hc:X.calm=true):Bt X (.builtin "max") aq1:=by
 intro pins s σ H xs us Q I r h
 unfold aq1 at h
 split at h
 ·exact Vp hc pins s σ H _ us Q I r ⟨_,_,rfl,h⟩
 ·exact h.elim
theorem Vt (hc:X.calm=true):Bt X (.builtin "min") aq2:=by
 intro pins s σ H xs us Q I r h
 unfold aq2 at h
 split at h
 ·exact Vs hc pins s σ H _ us Q I r ⟨_,_,rfl,h⟩
 ·exact h.elim
theorem ak4 (hu:X.A.units+64<cLine) {x:Str} {f:BF} {r:RF} {c:Bool} (h:a23 X.K c x=some (f,r)) (hc:c=X.calm):cE x=some f.val/\Bt X f.val r:=by
 unfold a23 at h
 by_cases e:x = "len"
 ·rw [if_pos e] at h;cases h;rw [e];exact⟨PySem.boot_len,Vo⟩
 rw [if_neg e] at h
 by_cases e:x = "isinstance"
 ·rw [if_pos e] at h;cases h;rw [e];exact⟨PyProof.Rows.boot_isinstance,Y7⟩
 rw [if_neg e] at h
 by_cases e:x = "all"
 ·rw [if_pos e] at h
  by_cases ec:c=true
  ·rw [if_pos ec] at h;cases h;rw [e];exact⟨PyProof.Rows.boot_all,Vl (hc▸ec)⟩
  ·rw [if_neg ec] at h;cases h
 rw [if_neg e] at h
 by_cases e:x = "int"
 ·rw [if_pos e] at h;cases h;rw [e];exact⟨gH,Vm⟩
 rw [if_neg e] at h
 by_cases e:x = "ord"
 ·rw [if_pos e] at h;cases h;rw [e];exact⟨PyProof.Rows.boot_ord,Vu⟩
 rw [if_neg e] at h
 by_cases e:x = "list"
 ·rw [if_pos e] at h;cases h;rw [e];exact⟨gp,fun pins s σ H xs us Q I r h=>h.elim (Qs pins s σ H xs us Q I r) fun z=>z.2.elim⟩
 rw [if_neg e] at h
 by_cases e:x = "tuple"
 ·rw [if_pos e] at h;cases h;rw [e];exact⟨fT,Vv⟩
 rw [if_neg e] at h
 by_cases e:x = "max"
 ·rw [if_pos e] at h
  by_cases ec:c=true
  ·rw [if_pos ec] at h;cases h;rw [e];exact⟨PyProof.Rows.boot_max,Vq (hc▸ec)⟩
  ·rw [if_neg ec] at h;cases h
 rw [if_neg e] at h
 by_cases e:x = "min"
 ·rw [if_pos e] at h
  by_cases ec:c=true
  ·rw [if_pos ec] at h;cases h;rw [e];exact⟨PyProof.Rows.boot_min,Vt (hc▸ec)⟩
  ·rw [if_neg ec] at h;cases h
 rw [if_neg e] at h
 cases h
noncomputable abbrev RM:=V->List V->Hp->VK->Prop
structure BM where
 T:String
 id:String
 r:RM
noncomputable def rMt (K:aa) (bs:List BM):V->Hp->(Hp->(List V->Hp->Prop)->Prop)->VK->Prop:=fun x H1 ta Q=>
 match bs with
 | []=>False
 | [b]=>tyV K b.T x H1/\ta H1 fun xs H2=>b.r x xs H2 Q
 | b::rest=>(tyV K b.T x H1/\ta H1 fun xs H2=>b.r x xs H2 Q)\/rMt K rest x H1 ta Q
structure ay7 (X:Cx) (m:Str) (b:BM):Prop where
 pa:PlainAttrs b.T
 slot:Slot b.T m b.id
 ty:typeOf (.builtin b.id)=pure (.type "method_descriptor")
 mt:MtR X b.id b.r
noncomputable def af2 (K:aa):RM:=fun x xs H Q=>∃ z p ys,x=.str z/\xs=[.ref p]/\SqL K H p (ys.map V.str)/\(ys.map (·.length)).sum+ys.length * z.length<=16777216/\Q (.str (Txt.join z ys)) H
noncomputable def mtR (K:aa) (m:Str):List BM:=
 if m = "append" then [⟨"list", "list.append", D3⟩] else
 if m = "join" then [⟨"str", "str.join", af2 K⟩] else []
theorem ab4 {m:Str} {b:BM} (hu:X.A.units+64<cLine) (h:b∈mtR X.K m):ay7 X m b:=by
 unfold mtR at h
 by_cases e:m = "append"
 ·rw [if_pos e] at h
  have:b=⟨"list", "list.append", D3⟩:=by simpa using h
  subst this;subst e
  exact⟨PySem.F.plainAttrs_list,PySem.F.slot_list_append,PySem.F.type_list_append,Lr⟩
 rw [if_neg e] at h
 by_cases e:m = "join"
 ·rw [if_pos e] at h
  have:b=⟨"str", "str.join", af2 X.K⟩:=by simpa using h
  subst this;subst e
  exact⟨PySem.F.plainAttrs_str,PySem.F.slot_str_join,PySem.F.type_str_join,am3⟩
 rw [if_neg e] at h
 cases h
theorem Ng {K:aa}:∀ {bs:List BM} {x:V} {H1:Hp} {ta:Hp->(List V->Hp->Prop)->Prop} {Q:VK},rMt K bs x H1 ta Q -> ∃ b∈bs,tyV K b.T x H1/\ta H1 fun xs H2=>b.r x xs H2 Q
 | [],_,_,_,_,h=>h.elim
 | [b],_,_,_,_,h=>⟨b,by simp,h⟩
 | b::c::rest,x,H1,ta,Q,h=>by
  rcases h with h|h
  ·exact⟨b,by simp,h⟩
  ·obtain⟨d,hd,q⟩:=Ng h
   exact⟨d,aQ _ hd,q⟩
noncomputable def B4:Expr->Bool
 | .Call (.Name x _) [] [] _=>!(x==("super" : Str))
 | _=>true
theorem Da {e:Expr} (h:B4 e=true) (f:Str) (env:Env) (whole:Sem Value):fW e f env whole=whole:=by
 unfold fW
 split
 ·rename_i id p pos
  have:(id==("super" : Str))=false:=by
   have h':(!(id==("super" : Str)))=true:=h
   simpa using h'
  have e2:(id != "super")=true:=by
   show (!(id == "super"))=true
   rw [this]
   rfl
  rw [e2]
  simp
 ·rfl
variable {o:Expr} {do':DE} {es:List Expr} {r:DA} {m:Str} {apos cpos:Pos}
theorem be1 {bs:List BM} (hb:∀ b∈bs,ay7 X m b) (ho:QE X o do') (h1:B4 o=true) (h4:(apos.endLine==cpos.line)=true) :
  QE X (.Call (.Attribute o m apos) [] [] cpos) (dMt (rMt X.K bs) do' Ae):=by
 intro Ex mt pins s σ H Q I h
 refine fZ (Da h1 m X.env _) h4 (thn (ho Ex mt pins s σ H _ I h) fun v s1 ⟨x,H1,I1,r1,q1⟩=>?_)
 obtain⟨b,hbm,ty,q⟩:=Ng q1
 obtain⟨k1,k2⟩:=aj0 I1 r1 ty
 have B:=hb b hbm
 exact⟨b.T,b.id,B.pa,B.slot,B.ty,k1,k2,eB rfl (hZ (B.mt pins s1 σ H1 x [] v [] Q I1 r1 .nil q))⟩
theorem b34 {bs:List BM} {e:Expr} (hb:∀ b∈bs,ay7 X m b) (ho:QE X o do') (ha:QA X (e::es) r) (h1:B4 o=true) (h2:(e::es).all noStar=true) (h3:(e::es).length<30) (h4:(apos.endLine==cpos.line)=true) :
  QE X (.Call (.Attribute o m apos) (e::es) [] cpos) (dMt (rMt X.K bs) do' r):=by
 intro Ex mt pins s σ H Q I h
 have hs:=bw▸h2
 rw [am] at hs
 have hfew:((gL cpos (cm (e::es) X.env)).all (fun x=>!x.1)&&(i_ cpos (ic [] X.env)).all (fun x=>x.1.isSome)
   && decide ((e::es).length+([]:List iU).length+(if ([]:List iU).isEmpty then 0 else 1)<30))=true:=by
  rw [G4 h2]
  have:decide ((e::es).length+([]:List iU).length+(if ([]:List iU).isEmpty then 0 else 1)<30)=true:=by
   rw [decide_eq_true_iff]
   simpa using h3
  rw [this]
  rfl
 refine wpAny_Call_method_late (Da h1 m X.env _) hfew h4 rfl (thn (ho Ex mt pins s σ H _ I h) fun v s1 ⟨x,H1,I1,r1,q1⟩=>?_)
 obtain⟨b,hbm,ty,q⟩:=Ng q1
 obtain⟨k1,k2⟩:=aj0 I1 r1 ty
 have B:=hb b hbm
 refine⟨b.T,b.id,B.pa,B.slot,B.ty,k1,k2,?_⟩
 have hA:=ha Ex mt cpos pins s1 σ H1 _ I1 q
 rw [Bc hs.1] at hA ⊢
 refine eB (by show (false||(gL cpos (cm es X.env)).any (·.1))=false;rw [Bb hs.2] <;> rfl) (Calls.evalArgs_plain ?_)
 exact thn hA fun us s2 ⟨vs,H2,I2,r2,q2⟩=>B.mt pins s2 σ H2 x vs v us Q I2 r1 r2 q2
variable {x:Str} {p pos:Pos} {G:Sg}
theorem bd2 {f:BF} {rf:RF} {e:Expr} (hc:Bt X f.val rf) (hg:Gl X x) (hm:X.mg x=none) (hv:cE x=some f.val) (ha:QA X (e::es) r) (hs:(e::es).all noStar=true) (hn:x ≠ "__name__") (hdb:(x==("__debug__" : Str))=false) :
  QE X (.Call (.Name x p) (e::es) [] pos) (dFn (fun vs H Q _=>rf vs H Q) r):=by
 intro Ex mt
 have h:=bw▸hs
 rw [am] at h
 cases f with
 | bf id=>exact ac5 hc hg hm hv (ha Ex mt) hn hdb (Bc h.1 es X.env) (Bb h.2 X.env pos)
 | ty T=>exact Wn hc hg hm hv (ha Ex mt) hn hdb (Bc h.1 es X.env) (Bb h.2 X.env pos)
noncomputable def spE (sp:Sp) (dvs:List V):List V->Hp->VK->EK->Prop:=fun vs H Q E=>sp (vs++dvs) H Q (fun v _ H'=>∃ a,v=.ref a/\E a H')
theorem E0 {i:FI} (F:D7 X i) {j:Nat} (hj:j<=i.dfs.length) {Ex:St->EK} (mt:Meets X Ex) {pins:List (Addr×Obj)} {σ:St} {H:Hp} {s:ah} {Q:VK} {us:List Value} {vs:List V}
  (I:Inv X pins σ H s) (r:Vals vs us) (h:spE i.sp (i.dfs.drop j) vs H Q (Ex σ)):aS (model X.prog X.w) X.A (call (.ref i.f) us) (EP X pins σ Q) X.xe s:=by
 obtain⟨CX,hx,FO⟩:=F.ok
 have r2:Vals (vs++i.dfs.drop j) (us++i.ds.drop j):=r.append (F.vals.drop j)
 have hl:(us++i.ds.drop j).length=i.ps.length:=by rw [<- r2.length];exact FO.len _ _ _ _ h
 refine dE (eK (FO.run X.A X.stack s H ⟨us,[]⟩ (us++i.ds.drop j) (vs++i.dfs.drop j) Q _ F.room I.env0 (F.binds j hj s us I.kIn hl) r2 h) fun r s' hq=>?_)
 cases r with
 | error e=>exact hx X rfl rfl Ex mt pins σ H s e s' I hq
 | ok fl=>
  cases fl with
  | ret u=>exact I.after hq
  | next=>exact b3 hq
  | brk=>exact b3 hq
  | cont=>exact b3 hq
theorem ad8 {i:FI} (F:D7 X i) {j:Nat} (hj:j<=i.dfs.length) (hg:Gl X x) (hm:X.mg x=some (.ref i.f)) (hdb:(x==("__debug__" : Str))=false) :
  QE X (.Call (.Name x p) [] [] pos) (dFn (spE i.sp (i.dfs.drop j)) Ae):=by
 intro Ex mt pins s σ H Q I h
 refine bU (C2 I hg hm ?_ hdb)
 exact dS I.kIn F.kp (E0 (us:=[]) F hj mt I .nil h)
theorem ao9 {i:FI} {e:Expr} (F:D7 X i) {j:Nat} (hj:j<=i.dfs.length) (hg:Gl X x) (hm:X.mg x=some (.ref i.f)) (ha:QA X (e::es) r) (hs:(e::es).all noStar=true) (hdb:(x==("__debug__" : Str))=false) :
  QE X (.Call (.Name x p) (e::es) [] pos) (dFn (spE i.sp (i.dfs.drop j)) r):=by
 intro Ex mt pins s σ H Q I h
 have h2:=bw▸hs
 rw [am] at h2
 refine bU (C2 I hg hm ?_ hdb)
 refine cB (h₀:=X.base) I.ok.mod.kin F.kp (thn (ha Ex mt pos pins s σ H _ I h) fun us s1 ⟨vs,H1,I1,r,q⟩=>⟨I1.kIn,?_⟩) (Bc h2.1 es X.env) (Bb h2.2 X.env pos)
 exact E0 F hj mt I1 r q
noncomputable def a28 (l:List FI) (n:Nat) (o:DE) (t:DA):DE:=fun σ H Q E=>o σ H (fun x H1=>∃ i,i∈l/\x=.ref i.f/\(n<=i.ps.length/\i.ps.length<=n+i.dfs.length)/\t σ H1 (fun vs H2=>spE i.sp (i.dfs.drop (n+i.dfs.length - i.ps.length)) vs H2 Q E) E) E
theorem bd3 {l:List FI} {e:Expr} {d:DE} (hF:∀ i∈l,D7 X i) (ho:QE X (.Name x p) d) (ha:QA X (e::es) r) (hs:(e::es).all noStar=true) :
  QE X (.Call (.Name x p) (e::es) [] pos) (a28 l (e::es).length d r):=by
 intro Ex mt pins s σ H Q I h
 have h2:=bw▸hs
 rw [am] at h2
 refine bU (thn (ho Ex mt pins s σ H _ I h) fun v s1 ⟨x,H1,I1,r1,q1⟩=>?_)
 obtain⟨i,hi,rfl,hl,q⟩:=q1
 cases r1
 have F:=hF i hi
 refine cB (h₀:=X.base) I1.ok.mod.kin F.kp (thn (ha Ex mt pos pins s1 σ H1 _ I1 q) fun us s2 ⟨vs,H2,I2,r,q⟩=>⟨I2.kIn,?_⟩) (Bc h2.1 es X.env) (Bb h2.2 X.env pos)
 exact E0 F (by have:=hl.1;omega) mt I2 r q
noncomputable def mkX (C:Addr):Option FI->Nat->List V->Hp->VK->EK->Prop
 | none,_=>fun _ H Q _=>∀ a,H a=none->Q (.ref a) (upd H a (E2 a C none))
 | some i,j=>fun vs H Q E=>∀ a,H a=none->i.sp (.ref a::(vs++i.dfs.drop j)) (upd H a (E2 a C none)) (fun v H2=>v=.non/\Q (.ref a) H2) (fun v _ H'=>∃ b,v=.ref b/\E b H')
theorem U4 {C:Addr} {oi:Option FI} {j:Nat} (c:ECls X.K C) (hi:E9 X C oi) (hj:∀ i,oi=some i->j<=i.dfs.length) {Ex:St->EK} (mt:Meets X Ex) {pins:List (Addr×Obj)} {σ:St} {H:Hp} {s:ah} {Q:VK} {us:List Value} {vs:List V}
  (I:Inv X pins σ H s) (rv:Vals vs us) (hl:vs.length<=1000) (h:mkX C oi j vs H Q (Ex σ)):aS (model X.prog X.w) X.A (call (.ref C) us) (EP X pins σ Q) X.xe s:=by
 cases oi with
 | none=>exact Rr c hi I rv hl h
 | some i=>
  obtain⟨h1,h2,F,hr⟩:=hi
  obtain⟨CX,hx,FO⟩:=F.ok
  exact Wt c h1 h2 FO hr (F.binds j (hj i rfl)) (F.vals.drop j) I rv hl (fun e s1 s' H1 I1 q=>hx X rfl rfl Ex mt pins σ H1 s1 e s' I1 q) h
theorem Uw {C:Addr} {oi:Option FI} {j:Nat} (c:ECls X.K C) (hi:E9 X C oi) (hj:∀ i,oi=some i->j<=i.dfs.length) (kp:aj X.K (.ref C)=true) (hg:Gl X x) (hm:X.mg x=some (.ref C)) (hdb:(x==("__debug__" : Str))=false) :
  QE X (.Call (.Name x p) [] [] pos) (dFn (mkX C oi j) Ae):=by
 intro Ex mt pins s σ H Q I h
 refine bU (C2 I hg hm ?_ hdb)
 exact dS I.kIn kp (U4 (us:=[]) c hi hj mt I .nil (by simp) h)
theorem Rl {C:Addr} {oi:Option FI} {j:Nat} {e:Expr} (c:ECls X.K C) (hi:E9 X C oi) (hj:∀ i,oi=some i->j<=i.dfs.length) (kp:aj X.K (.ref C)=true) (hg:Gl X x) (hm:X.mg x=some (.ref C)) (ha:QA X (e::es) r) (hs:(e::es).all noStar=true) (hdb:(x==("__debug__" : Str))=false) :
  QE X (.Call (.Name x p) (e::es) [] pos) (dFn (fun vs H Q E=>vs.length<=1000/\mkX C oi j vs H Q E) r):=by
 intro Ex mt pins s σ H Q I h
 have h2:=bw▸hs
 rw [am] at h2
 refine bU (C2 I hg hm ?_ hdb)
 refine cB (h₀:=X.base) I.ok.mod.kin kp (thn (ha Ex mt pos pins s σ H _ I h) fun us s1 ⟨vs,H1,I1,r,q⟩=>⟨I1.kIn,?_⟩) (Bc h2.1 es X.env) (Bb h2.2 X.env pos)
 exact U4 c hi hj mt I1 r q.1 q.2
noncomputable def mkC (C:Addr):Option FI->Nat->List V->Hp->VK->EK->Prop
 | none,_=>fun vs H Q _=>vs=[] /\ ∀ a dx,H a=none->H dx=none->dx≠a->Q (.ref a) (upd (upd H dx (.own a)) a (.ins C dx []))
 | some i,j=>fun vs H Q E=>∀ a dx,H a=none->H dx=none->dx≠a ->
   i.sp (.ref a::(vs++i.dfs.drop j)) (upd (upd H dx (.own a)) a (.ins C dx [])) (fun v H2=>v=.non/\Q (.ref a) H2) (fun v _ H'=>∃ b,v=.ref b/\E b H')
theorem Ws {C:Addr} (h1:aE X.K C=true) (h2:ac X.K (.ref C) "__init__" = some (some (.builtin "object.__init__"))) {pins:List (Addr×Obj)} {σ:St} {H:Hp} {s:ah} {Q:VK}
  (I:Inv X pins σ H s) (h:∀ a dx,H a=none->H dx=none->dx≠a->Q (.ref a) (upd (upd H dx (.own a)) a (.ins C dx []))):aS (model X.prog X.w) X.A (call (.ref C) []) (EP X pins σ Q) X.xe s:=by
 have hq:=h (s.heap.objs.size+1) s.heap.objs.size (I.hok.fresh (du _)) (I.hok.fresh (ae _)) (bi (eM _))
 have I2:=Inv.made (C:=C) I
 have e2:((s.heap.push bo).push (bA C s.heap.objs.size)).get? (s.heap.objs.size+1)=some (bA C s.heap.objs.size):=by
  have z:=aL (s.heap.push bo) (o:=bA C s.heap.objs.size) rfl
  rwa [cH] at z
 refine dE (Wf I.kIn h1 h2 (fun self=>.of_pure (PySem.W.oi_bind self)) ?_)
 have ty:eS (model X.prog X.w) ((s.heap.push bo).push (bA C s.heap.objs.size)) (typeOf (.ref (s.heap.objs.size+1))) (.ref C):=(PySem.W.Looks.ld e2).andThen .now
 have io:eS (model X.prog X.w) ((s.heap.push bo).push (bA C s.heap.objs.size)) (isInstance (.ref (s.heap.objs.size+1)) (.type "object")) true:=
  ty.andThen ((ge (M:=model X.prog X.w) I.kIn h1).top.keeps fun b o e=>ag _ (ag _ e))
 refine cI PySem.W.oi_plain PySem.W.entry_oi (PySem.W.check_slot (s:={ s with heap:=(s.heap.push bo).push (bA C s.heap.objs.size) }) (i := "object.__init__") (owner := "object") (self:=.ref (s.heap.objs.size+1)) PySem.W.oi_kind PySem.W.oi_split io (PySem.W.oi_args _) ?_)
 rw [PySem.W.oi_run]
 exact al ⟨rfl,⟨.ref _,_,I2,rfl,hq⟩⟩
theorem aq6 {C f:Addr} {CX:CXT} {k:Nat} {fd:ai} {ps:List Str} {sp:Sp} {ds:List Value} {dvs:List V} {E:XK} {pins:List (Addr×Obj)} {σ:St} {H:Hp} {s:ah} {Q:VK} {us:List Value} {vs:List V}
  (M:Mk X.K C f) (F:FnOk X.prog X.w X.K X.mg X.base CX k f fd ps sp) (hr:Room (k+1) X.A) (hb:Binds X.K fd ps ds) (hd:Vals dvs ds) (hx:∀ H1 s1 e s',Inv X pins σ H1 s1->CX X.stack H1 s1 E e s'->X.xe e s') (I:Inv X pins σ H s) (r:Vals vs us)
  (h:∀ x dx,H x=none->H dx=none->dx≠x->sp (.ref x::(vs++dvs)) (upd (upd H dx (.own x)) x (.ins C dx [])) (fun v H2=>v=.non/\Q (.ref x) H2) E) :
  aS (model X.prog X.w) X.A (call (.ref C) us) (EP X pins σ Q) X.xe s:=by
 have hq:=h (s.heap.objs.size+1) s.heap.objs.size (I.hok.fresh (du _)) (I.hok.fresh (ae _)) (bi (eM _))
 have I2:=Inv.made (C:=C) I
 have r2:Vals (V.ref (s.heap.objs.size+1)::(vs++dvs)) (aC (s.heap.objs.size+1)::(us++ds)):=.cons rfl (r.append hd)
 have hl:(aC (s.heap.objs.size+1)::us++ds).length=ps.length:=by
  have e:=r2.length
  rw [F.len _ _ _ _ hq] at e
  exact e.symm
 refine dE (ab2 (f:=f) I.kIn M.makes M.init (beq_iff_eq.mp M.fn) (eK (F.run _ X.stack _ _ ⟨aC (s.heap.objs.size+1)::us,[]⟩ (aC (s.heap.objs.size+1)::(us++ds)) _ _ E (hr.make C us [])
  (I2.env0.make C us []) (hb _ (aC (s.heap.objs.size+1)::us) I2.kIn hl) r2 hq) fun r s' hq'=>?_))
 cases r with
 | error e=>exact hx _ _ e s' I2 hq'
 | ok fl=>
  cases fl with
  | ret u=>
   obtain⟨v,H',I3,rv,ev,q3⟩:=I2.after hq'
   subst ev
   exact⟨rv,⟨V.ref (s.heap.objs.size+1),H',I3,rfl,q3⟩⟩
  | next=>exact b3 hq'
  | brk=>exact b3 hq'
  | cont=>exact b3 hq'
theorem U3 {C:Addr} {oi:Option FI} {j:Nat} (hi:W6 X C oi) (hj:∀ i,oi=some i->j<=i.dfs.length) {Ex:St->EK} (mt:Meets X Ex) {pins:List (Addr×Obj)} {σ:St} {H:Hp} {s:ah} {Q:VK} {us:List Value} {vs:List V}
  (I:Inv X pins σ H s) (rv:Vals vs us) (kp:aj X.K (.ref C)=true) (h:mkC C oi j vs H Q (Ex σ)):aS (model X.prog X.w) X.A (call (.ref C) us) (EP X pins σ Q) X.xe s:=by
 cases oi with
 | none=>
  obtain⟨rfl,h⟩:=h
  cases rv
  exact Ws hi.1 hi.2 I h
 | some i=>
  obtain⟨h0,h1,h2,F,hr⟩:=hi
  obtain⟨CX,hx,FO⟩:=F.ok
  exact aq6 ⟨h0,h1,h2,kp⟩ FO hr (F.binds j (hj i rfl)) (F.vals.drop j) (fun H1 s1 e s' I1 q=>hx X rfl rfl Ex mt pins σ H1 s1 e s' I1 q) I rv h
theorem Uv {C:Addr} {oi:Option FI} {j:Nat} (hi:W6 X C oi) (hj:∀ i,oi=some i->j<=i.dfs.length) (kp:aj X.K (.ref C)=true) (hg:Gl X x) (hm:X.mg x=some (.ref C)) (hdb:(x==("__debug__" : Str))=false) :
  QE X (.Call (.Name x p) [] [] pos) (dFn (mkC C oi j) Ae):=by
 intro Ex mt pins s σ H Q I h
 refine bU (C2 I hg hm ?_ hdb)
 exact dS I.kIn kp (U3 (us:=[]) hi hj mt I .nil kp h)
theorem be0 {C:Addr} {oi:Option FI} {j:Nat} {e:Expr} (hi:W6 X C oi) (hj:∀ i,oi=some i->j<=i.dfs.length) (kp:aj X.K (.ref C)=true) (hg:Gl X x) (hm:X.mg x=some (.ref C)) (ha:QA X (e::es) r) (hs:(e::es).all noStar=true) (hdb:(x==("__debug__" : Str))=false) :
  QE X (.Call (.Name x p) (e::es) [] pos) (dFn (mkC C oi j) r):=by
 intro Ex mt pins s σ H Q I h
 have h2:=bw▸hs
 rw [am] at h2
 refine bU (C2 I hg hm ?_ hdb)
 refine cB (h₀:=X.base) I.ok.mod.kin kp (thn (ha Ex mt pos pins s σ H _ I h) fun us s1 ⟨vs,H1,I1,r,q⟩=>⟨I1.kIn,?_⟩) (Bc h2.1 es X.env) (Bb h2.2 X.env pos)
 exact U3 hi hj mt I1 r kp q
noncomputable def Qv (m:Str) (n:Nat) (l:List MI) (o:DE) (t:DA):DE:=fun σ H Q E=>o σ H (fun x H1=>∃ a dx fs mi,x=.ref a/\mi∈l/\H1 a=some (.ins mi.C dx fs)/\fs.lookup m=none/\(n+1<=mi.i.ps.length/\mi.i.ps.length<=n+1+mi.i.dfs.length) /\
 t σ H1 (fun vs H2=>spE mi.i.sp (mi.i.dfs.drop (n+1+mi.i.dfs.length - mi.i.ps.length)) (.ref a::vs) H2 Q E) E) E
theorem Iw {es:List Expr} {P:Value->ah->Prop} {s:ah} (h1:B4 o=true) (h2:es.all noStar=true) (h3:es.length<30) (h4:(apos.endLine==cpos.line)=true)
  (h:aS (model X.prog X.w) X.A (eval o X.env) (fun ov s1=>∀ pl,aS (model X.prog X.w) X.A (getMethod ov m pl) (fun fx s2=>aS (model X.prog X.w) X.A (callWith cpos fx.1 fx.2 (gL cpos (cm es X.env)) (i_ cpos (ic [] X.env))) P X.xe s2) X.xe s1) X.xe s) :
  aS (model X.prog X.w) X.A (eval (.Call (.Attribute o m apos) es [] cpos) X.env) P X.xe s:=by
 have few:methodCallForm (es.length+([]:List iU).length) (gL cpos (cm es X.env)) (i_ cpos (ic [] X.env))=true:=by
  unfold methodCallForm
  rw [G4 h2]
  simpa [i_,ic] using h3
 rw [arm_eval_Call,Da h1]
 refine af (thn h fun ov s1 h1=>af (c6 ?_))
 unfold methodCall calleeOf
 rw [few,if_pos rfl]
 refine af (bR (thn (h1 _) fun fx s2 h2=>?_))
 have hp:methodCallPos true o X.env apos cpos=pure cpos:=by unfold methodCallPos;rw [h4];rfl
 rw [hp]
 exact af (al h2)
theorem ap2 {l:List MI} (hl:∀ mi∈l,Cls X.K mi.C/\Dk X.K mi.C m mi.i.f/\D7 X mi.i) (ho:QE X o do') (h1:B4 o=true) (h4:(apos.endLine==cpos.line)=true) :
  QE X (.Call (.Attribute o m apos) [] [] cpos) (Qv m 0 l do' Ae):=by
 intro Ex mt pins s σ H Q I h
 refine Iw (es:=[]) h1 rfl (by decide) h4 (thn (ho Ex mt pins s σ H _ I h) fun u s1 ⟨x,H1,I1,rx,a,dx,fs,mi,ex,hm,ea,hf,hn,q⟩ pl=>?_)
 subst ex
 obtain rfl:u=aC a:=rx
 obtain⟨c,k,F⟩:=hl mi hm
 refine Ih I1 ea c k hf ?_
 exact dS (first:=[.ref a]) I1.kIn k.kp (E0 (us:=[.ref a]) (vs:=[.ref a]) F (by omega) mt I1 (.cons rfl .nil) q)
theorem be5 {l:List MI} {e:Expr} (hl:∀ mi∈l,Cls X.K mi.C/\Dk X.K mi.C m mi.i.f/\D7 X mi.i) (ho:QE X o do') (ha:QA X (e::es) r) (h1:B4 o=true) (h2:(e::es).all noStar=true) (h3:(e::es).length<30) (h4:(apos.endLine==cpos.line)=true) :
  QE X (.Call (.Attribute o m apos) (e::es) [] cpos) (Qv m (es.length+1) l do' r):=by
 intro Ex mt pins s σ H Q I h
 refine Iw h1 h2 h3 h4 (thn (ho Ex mt pins s σ H _ I h) fun u s1 ⟨x,H1,I1,rx,a,dx,fs,mi,ex,hm,ea,hf,hn,q⟩ pl=>?_)
 subst ex
 obtain rfl:u=aC a:=rx
 obtain⟨c,k,F⟩:=hl mi hm
 refine Ih I1 ea c k hf ?_
 have hs:=bw▸h2
 rw [am] at hs
 refine cB (first:=[.ref a]) (h₀:=X.base) I.ok.mod.kin k.kp (thn (ha Ex mt cpos pins s1 σ H1 _ I1 q) fun us s2 ⟨vs,H2,I2,r2,q2⟩=>⟨I2.kIn,?_⟩) (Bc hs.1 es X.env) (Bb hs.2 X.env cpos)
 exact E0 (us:=.ref a::us) (vs:=.ref a::vs) F (by omega) mt I2 (.cons rfl r2) q2
theorem bd6 {C:Addr} {i:FI} {e:Expr} {x:Str} {p:Pos} (ho:QE X (.Name x p) (dC (.ref C))) (S:K3 X.K C i.f) (F:D7 X i) (hl:(e::es).length<=i.ps.length/\i.ps.length<=(e::es).length+i.dfs.length) (ha:QA X (e::es) r) (h1:B4 (.Name x p)=true) (h2:(e::es).all noStar=true) (h3:(e::es).length<30) (h4:(apos.endLine==cpos.line)=true) :
  QE X (.Call (.Attribute (.Name x p) "__init__" apos) (e::es) [] cpos) (dFn (spE i.sp (i.dfs.drop ((e::es).length+i.dfs.length - i.ps.length))) r):=by
 intro Ex mt pins s σ H Q I h
 refine Iw h1 h2 h3 h4 (thn (ho Ex mt pins s σ H (fun y H1=>y=.ref C/\H1=H) I ⟨rfl,rfl⟩) fun u s1 ⟨y,H1,I1,rx,ey,eH⟩ pl=>?_)
 subst ey eH
 obtain rfl:u=aC C:=rx
 refine PySem.W.method_cls I1.kIn S.ga (PySem.W.cls_value I1.kIn S.rd S.fc S.hh ?_)
 have I2:=I1.tok (s1.toks+1)
 have hs:=bw▸h2
 rw [am] at hs
 refine cB (first:=[]) (h₀:=X.base) I.ok.mod.kin F.kp (thn (ha Ex mt cpos pins _ σ _ _ I2 h) fun us s2 ⟨vs,H2,I3,r2,q2⟩=>⟨I3.kIn,?_⟩) (Bc hs.1 es X.env) (Bb hs.2 X.env cpos)
 exact E0 (us:=us) (vs:=vs) F (by omega) mt I3 r2 q2
noncomputable def Ld:DE:=fun _ H Q _=>∀ p,H p=none->Q (.ref p) (upd H p (.dK []))\/Q (.ref p) (upd H p (.dT []))
theorem ap1:QE X (.Dict [] [] pos) Ld:=fun Ex mt pins s σ H Q I h=>by
 have fr:=I.hok.fresh (ae s.heap.objs.size)
 rcases h _ fr with q|q
 ·exact wpAny_Dict_empty ⟨.ref _,_,I.laid (a:=s.heap.objs.size) (o:=.dK []) (t':=s.toks) (fun _ _ q=>ag _ q) (ae _) (Zb s.heap I.big),rfl,q⟩
 ·exact wpAny_Dict_empty ⟨.ref _,_,I.laid (a:=s.heap.objs.size) (o:=.dT []) (t':=s.toks) (fun _ _ q=>ag _ q) (ae _) (Zc s.heap I.big),rfl,q⟩
end
noncomputable def aj8 (lo st:Int) (n:Nat):It:=⟨fun i _=>i<n,fun i H x H'=>H'=H/\x=.int (lo+(i:Int) * st),fun i _=>n<=i⟩
theorem W1 {P:aI} {w:bq} {K:aa} {tg:Expr} (it:Addr) (lo st:Int) (n:Nat):O6 P w K tg (aj8 lo st n) [it] it (fun i h=>hJ h it (lo+(i:Nat) * st) ((n:Int) - (i:Nat)) st) where
 mem:=List.mem_singleton.mpr rfl
 obj:=fun i h q b hb=>by
  obtain rfl:=List.mem_singleton.mp hb
  exact⟨_,q,fun v z=>by cases (show Data.fields _=Data.cell v from z)⟩
 keep:=fun i h h' q k=>k it (List.mem_singleton.mpr rfl) _ q
 item:=by
  intro X hP hw hK hc i pins s σ H E I hf q go
  subst hP hw hK
  obtain⟨g0,g1,_,g3,g4,g5⟩:=hf it (List.mem_singleton.mpr rfl)
  refine bu (ae _) ((Walks.range (prog:=X.prog) (w:=X.w) (I.ok.hd hc) it lo st n).item i s _ _ go q fun v h' tk hv q' kk htk=>?_)
  obtain⟨t,rfl⟩:=hv
  have I1:Inv X pins σ H { s with heap:=h',toks:=tk }:=I.turned (fun b o nb e=>kk b o (fun z=>nb (List.mem_singleton.mp z)) e) g0 g1 g3 g4 g5
  exact⟨_,rfl,Lh (s:={ s with heap:=h',toks:=tk }) (n := "range_iterator") q' rfl rfl (by decide) ⟨.int (lo+(i:Int) * st),H,I1,⟨t,rfl⟩,⟨rfl,rfl⟩,q',fun b hb=>(hf b hb).1⟩⟩
 done:=by
  intro X hP hw hK hc i pins s σ H E I hf q go
  subst hP hw hK
  obtain⟨g0,g1,_,g3,g4,g5⟩:=hf it (List.mem_singleton.mpr rfl)
  exact gx (I.ok.hd hc) q (by have:n<=i:=go;omega) fun h' eb=>⟨rfl,I.turned (t':=s.toks) (fun b o nb e=>eb b o nb e) g0 g1 g3 g4 g5⟩
 self:=fun _ _ _ _ _ q h=>gw q h
section
variable {X:Cx} {tg:Expr}
theorem ar4 {pins:List (Addr×Obj)} {σ:St} {H:Hp} {s:ah} {R:It->Hp->Prop} {E:Value->ah->Prop} {lo hi st:Int} {t u v:Tok} {tk:Nat} (I:Inv X pins σ H s) (htk:s.toks<=tk) (sm:hG lo hi st=true)
  (q:R (aj8 lo st (bL lo hi st).toNat) H):aS (model X.prog X.w) X.A (pyIter (.ref s.heap.objs.size)) (PIE X pins σ tg R) E { s with heap:=s.heap.push { cls:=.type "range", data:=.fields #[.int lo t,.int hi u,.int st v] },toks:=tk }:=by
 refine iA (IsRange.new ..) sm ?_
 have I1:Inv X pins σ H { s with heap:=s.heap.push { cls:=.type "range", data:=.fields #[.int lo t,.int hi u,.int st v] },toks:=tk }:=I.kept fun b o e=>ag _ e
 generalize s.heap.push { cls:=.type "range", data:=.fields #[.int lo t,.int hi u,.int st v] }=h1 at I1 ⊢
 refine⟨h1.objs.size,[h1.objs.size],_,_,H,rfl,I1.kept (t':=tk) fun b o e=>ag _ e,W1 _ lo st (bL lo hi st).toNat,?_,fun b hb=>?_,q⟩
 ·have e:lo+((0:Nat):Int) * st=lo:=by rw [Int.natCast_zero,Int.zero_mul,Int.add_zero]
  have f:(((bL lo hi st).toNat:Nat):Int) - ((0:Nat):Int)=bL lo hi st:=by
   rw [<- rangeSize_toNat,Int.natCast_zero,Int.sub_zero]
  show hJ _ _ (lo+((0:Nat):Int) * st) ((((bL lo hi st).toNat:Nat):Int) - ((0:Nat):Int)) st
  rw [e,f]
  exact aL _ rfl
 ·obtain rfl:=List.mem_singleton.mp hb
  exact I1.fpOk (ae _) (I1.hok.fresh (ae _))
end
noncomputable def QI (X:Cx) (tg e:Expr) (t:DI):Prop:=∀ Ex,Meets X Ex->PI X tg e (fun σ H R=>t σ H R (Ex σ))
noncomputable def iNo:DI:=fun _ _ _ _=>False
noncomputable def onD (p:Addr) (H:Hp) (R:Obj->List (Key×V)->Hp->Prop):Prop:=(∃ kvs,H p=some (.dK kvs) /\ ∀ o,R o kvs (upd H p (.frz o (.dK kvs)))) \/ ∃ o kvs,H p=some (.frz o (.dK kvs))/\R o kvs H
theorem ac3 {X:Cx} {pins:List (Addr×Obj)} {σ:St} {H:Hp} {s:ah} {p:Addr} {R:Obj->List (Key×V)->Hp->Prop} (I:Inv X pins σ H s) (h:onD p H R):∃ o kvs H',Inv X pins σ H' s/\H' p=some (.frz o (.dK kvs))/\R o kvs H':=by
 rcases h with ⟨kvs,e,q⟩|⟨o,kvs,e,q⟩
 ·obtain⟨o,ep,_,_,I'⟩:=I.froze e
  exact⟨o,kvs,_,I',Af,q o⟩
 ·exact⟨o,kvs,H,I,e,q⟩
noncomputable def D8 (K:aa) (a:DE):DI:=fun σ H R E=>a σ H (fun x H1=>match x with
 | .str z=>R (Its z) H1
 | .ref p=>((∃ xs,SqL K H1 p xs)/\R (Itl K p) H1)\/((∃ xs,SqT K H1 p xs)/\R (Itt K p) H1)\/onD p H1 fun o kvs H2=>R (Itd p o kvs) H2
 | _=>False) E
noncomputable def Po (t:DA):DI:=fun σ H R E=>t σ H (fun vs H1=>match vs with
 | [.int j]=>(-(2 ^ 62)<=j/\j<2 ^ 62)/\R (Itr 0 j.toNat) H1
 | [.int i,.int j]=>(-(2 ^ 62)<=i/\i<2 ^ 62 /\ -(2 ^ 62)<=j/\j<2 ^ 62)/\R (Itr i (j - i).toNat) H1
 | [.int i,.int j,.int k]=>(hG i j k=true/\1<=k/\k<=1000)/\R (aj8 i k (bL i j k).toNat) H1
 | _=>False) E
section
variable {X:Cx} {tg e a b:Expr} {da:DE} {r:DA} {p pos:Pos}
theorem b36:QI X tg e iNo:=fun _ _ _ _ _ _ _ _ h=>h.elim
theorem be8 (ha:QE X e da):QI X tg e (D8 X.K da):=by
 intro Ex mt pins s σ H R I h
 refine thn (ha Ex mt pins s σ H _ I h) fun v s1 ⟨x,H1,I1,r1,q1⟩=>?_
 cases x with
 | str z=>
  obtain⟨t,rfl⟩:=r1
  refine wpAny_pyIter_strU ?_
  refine⟨s1.heap.objs.size,[s1.heap.objs.size],_,_,H1,rfl,I1.kept (t':=s1.toks) fun b o e=>ag _ e,ai9 s1.heap.objs.size z t (strIterType z) (by unfold strIterType;split <;> simp),⟨_,aL _ rfl,rfl,rfl⟩,fun b hb=>?_,q1⟩
  have e:b=s1.heap.objs.size:=by simpa using hb
  subst e
  exact I1.fpOk (ae _) (I1.hok.fresh (ae _))
 | ref a=>
  cases r1
  rcases q1 with ⟨⟨xs,hq⟩,q⟩|⟨⟨xs,hq⟩,q⟩|q
  ·obtain⟨its,rv,p,hz⟩:=I1.list hq
   refine wpAny_pyIter_list p.isList ?_
   refine⟨s1.heap.objs.size,[s1.heap.objs.size],_,_,H1,rfl,I1.kept (t':=s1.toks) fun b o e=>ag _ e,W0 a _,⟨_,aL _ rfl,rfl,rfl⟩,fun b hb=>?_,q⟩
   have e:b=s1.heap.objs.size:=by simpa using hb
   subst e
   exact I1.fpOk (ae _) (I1.hok.fresh (ae _))
  ·obtain⟨its,rv,p,hz⟩:=I1.tuple hq
   refine wpAny_pyIter_tuple (show s1.heap.IsTuple a its.toArray from p) ?_
   refine⟨s1.heap.objs.size,[s1.heap.objs.size],_,_,H1,rfl,I1.kept (t':=s1.toks) fun b o e=>ag _ e,Tj a _,⟨_,aL _ rfl,rfl,rfl⟩,fun b hb=>?_,q⟩
   have e:b=s1.heap.objs.size:=by simpa using hb
   subst e
   exact I1.fpOk (ae _) (I1.hok.fresh (ae _))
  ·obtain⟨o,kvs,H2,I2,e,q⟩:=ac3 I1 q
   exact al0 I2 e q
 | _=>exact (show False from q1).elim
variable {es:List Expr}
theorem ae5 (hg:Gl X "range") (hm:X.mg "range" = none) (ha:QA X (a::es) r) (hs:(a::es).all noStar=true):QI X tg (.Call (.Name "range" p) (a::es) [] pos) (Po r):=by
 intro Ex mt pins s σ H R I h
 have h2:=bw▸hs
 rw [am] at h2
 refine Call_ (M1 I hg hm boot_range (e9 (thn (ha Ex mt pos pins s σ H _ I h) fun us s1 ⟨vs,H1,I1,r1,q1⟩=>?_) (Bc h2.1 es X.env) (Bb h2.2 X.env pos)))
 dsimp only at q1
 split at q1
 ·obtain⟨⟨h1,h2⟩,q⟩:=q1
  obtain⟨u,rfl,t,rfl⟩:=F0 r1
  exact call_range_1 (Qd I1 (by first|exact ae _|exact bh _ _|omega|(dsimp only;omega)) (by omega) (by omega) h1 h2 (by simpa using q))
 ·obtain⟨⟨h1,h2,h3,h4⟩,q⟩:=q1
  obtain⟨u,v,rfl,⟨t,rfl⟩,⟨t',rfl⟩⟩:=aj1 r1
  exact call_range_2 (Qd I1 (by first|exact ae _|exact bh _ _|omega|(dsimp only;omega)) h1 h2 h3 h4 q)
 ·obtain⟨⟨h1,h2,h3⟩,q⟩:=q1
  cases r1 with
  | cons ra rr=>cases rr with
   | cons rb rr=>cases rr with
    | cons rc rr=>
     cases rr
     obtain⟨t,rfl⟩:=ra
     obtain⟨t',rfl⟩:=rb
     obtain⟨t2,rfl⟩:=rc
     exact call_range_3 (by omega) (ar4 I1 (by first|exact ae _|exact bh _ _|omega|(dsimp only;omega)) h1 q) (.inl (gq (by omega)))
 ·exact q1.elim
noncomputable def gNo:DG:=fun _ _ _ _=>False
noncomputable def gdS:List DG->List V->St->Hp->(St->Hp->Prop)->Prop
 | [],[],σ,H,Q=>Q σ H
 | g::gs,v::vs,σ,H,Q=>g v σ H fun σ' H'=>gdS gs vs σ' H' Q
 | _,_,_,_,_=>False
noncomputable def gdT (K:aa) (n:Nat) (gs:List DG):DG:=fun v σ H Q=>match v with
 | .ref a=>∃ xs,SqT K H a xs/\xs.length=n/\gdS gs xs σ H Q
 | _=>False
theorem P5:PG X tg gNo:=fun _ _ _ _ _ _ _ _ _ h=>h.elim
theorem b28:PGs X [] (gdS []):=by
 intro pins s σ H vs us Q I r h
 cases vs with
 | nil=>exact ao1 pins s σ H [] us Q I r ⟨rfl,h⟩
 | cons v vs=>exact (show False from h).elim
theorem b27 {g:DG} {gs:List DG} {ts:List Expr} (h1:PG X tg g) (h2:PGs X ts (gdS gs)) (hs:(cn (tg::ts) X.env).map (·.2)=iK tg X.env::(cn ts X.env).map (·.2)):PGs X (tg::ts) (gdS (g::gs)):=by
 intro pins s σ H vs us Q I r h
 cases vs with
 | nil=>exact (show False from h).elim
 | cons v vs=>exact ac7 h1 h2 hs pins s σ H (v::vs) us Q I r ⟨v,vs,rfl,h⟩
theorem cj6 {ts:List Expr} {k n:Nat} {gs:List DG} (hc:X.calm=true) (h:PGs X ts (gdS gs)) (hn:(cn ts X.env).length=n) (hst:(cn ts X.env).findIdx? (·.1)=none):PG X (.Tuple ts k pos) (gdT X.K n gs):=by
 intro pins s σ H v u Q I r hw
 cases v with
 | ref a=>exact bc3 hc h hn hst pins s σ H _ u Q I r (let ⟨xs,h1,h2,h3⟩:=hw;⟨a,xs,rfl,h1,h2,h3⟩)
 | _=>exact (show False from hw).elim
end
end L2
set_option maxHeartbeats 1000000
namespace L2
open PySem PySem.Spec PyProof.Rows
noncomputable def bv5 (p:Addr) (o:Obj) (kvs:List (Key×V)):It:=
  ⟨fun i H=>H p=some (.frz o (.dK kvs))/\i<kvs.length,
   fun i H x H'=>∃ T k v,H T=none/\x=.ref T/\kvs[i]? = some (k,v)/\H'=upd H T (.tup [kV k,v]),
   fun i H=>H p=some (.frz o (.dK kvs))/\kvs.length<=i⟩
theorem Tf {P:aI} {w:bq} {K:aa} {elts:List Expr} {kt:Nat} {pt:Pos} {it p:Addr} {o:Obj} {kvs:List (Key×V)} {ep:Nat} (he:Vi o ep) :
  O6 P w K (.Tuple elts kt pt) (bv5 p o kvs) [it] it (fun i h=>∃ ok ov,IsItemIter h it p i kvs.length ep ok ov) where
 mem:=by simp
 obj:=fun i h st b hb=>by
  obtain⟨ok,ov,e⟩:=st
  rw [List.mem_singleton.mp hb]
  exact⟨_,e,fun v q=>nomatch q⟩
 keep:=fun i h h' st k=>let ⟨ok,ov,e⟩:=st;⟨ok,ov,k it (by simp) _ e⟩
 item:=by
  intro X hP hw hK hc i pins s σ H E I hf st hg
  subst hP hw hK
  obtain⟨hH,hi⟩:=hg
  obtain⟨vs,rel,hd,hm⟩:=I.kdict hH he
  obtain⟨⟨k,v⟩,hx⟩:∃ q,kvs[i]? = some q:=⟨kvs[i],by simp [hi]⟩
  obtain⟨u,hu,ru⟩:=aa9 rel hx
  have hl:kvs.length=vs.length:=rel.length
  obtain⟨ok,ov,st⟩:=st
  rw [hl] at st
  refine wpAny_pyNext_items_item st hd hu fun key h' hk out tup hz hk'=>?_
  refine⟨_,rfl,wpAny_letOwnedTupleGo_items out fun h'' hi' hs'=>?_⟩
  have hT:=I.hok.fresh (ae s.heap.objs.size)
  have nT:∀ {b ob},s.heap.get? b=some ob->b≠s.heap.objs.size:=fun q=>bi (aJ q)
  have up:∀ b ob,b∉[it]->s.heap.get? b=some ob->h''.get? b=some ob:=fun b ob hb q=>by
   have b1:b≠it:=by rintro rfl;exact hb (by simp)
   exact hs'.extBut b ob b1 (hk' b ob b1 q)
  have Tnew:h''.get? s.heap.objs.size=some { cls:=.type "tuple", data:=.seq #[key,u] }:=hs'.extBut _ _ (dj (nT st)) tup
  have I1:Inv X pins σ (upd H s.heap.objs.size (.tup [kV k,v])) { s with heap:=h'' }:=
   I.turnedN (t':=s.toks) (ch:=[it]) (fun b hb=>hf b hb) up (ae _) ⟨by show 2<=sizeLine;decide,[key,u],.cons (av0 hk) (.cons ru .nil),⟨_,Tnew,rfl,_,rfl⟩⟩
  refine⟨.ref s.heap.objs.size,_,I1,rfl,⟨s.heap.objs.size,k,v,hT,rfl,hx,rfl⟩,⟨_,_,by rw [hl];exact hi'⟩,fun b hb=>?_⟩
  have q:=(hf b hb).1
  rw [Ap ?_]
  ·exact q
  ·rw [List.mem_singleton.mp hb];exact nT st
 done:=by
  intro X hP hw hK hc i pins s σ H E I hf st hg
  subst hP hw hK
  obtain⟨hH,hi⟩:=hg
  obtain⟨vs,rel,hd,hm⟩:=I.kdict hH he
  have hl:kvs.length=vs.length:=rel.length
  obtain⟨ok,ov,st⟩:=st
  rw [hl] at st
  obtain⟨f0,f1,f2,f3,f4,f5⟩:=hf it (by simp)
  exact wpAny_pyNext_items_end (I.ok.hd hc) st hd (by simp;omega) fun h' eb=>⟨rfl,I.turned (t':=s.toks) (fun b o hb e=>eb b o hb e) f0 f1 f3 f4 f5⟩
 self:=fun A i s Q E st h=>by
  obtain⟨ok,ov,e⟩:=st
  have hT:s.TypeIs (.ref it) "dict_itemiterator" := ⟨_,e,rfl⟩
  refine wpAny_pyIter_slot hT dR (gj dR hT PySem.W.kcp_entry ?_ (PySem.F.args_dict_itemiterator_iter_1 _))
  show aS _ _ (ret (.ref it)) _ _ s
  exact al ⟨_,rfl, "dict_itemiterator", _,hT,PySem.F.slot_dict_itemiterator_next.lookup,h⟩
noncomputable def bx1 (a:DE):DI:=fun σ H R E=>a σ H (fun x H1=>match x with
 | .ref p=>onD p H1 fun o kvs H2=>R (bv5 p o kvs) H2
 | _=>False) E
theorem ae4 {X:Cx} {elts:List Expr} {kt:Nat} {pt ap cp:Pos} {o:Expr} {do':DE} (ho:QE X o do') (h1:B4 o=true) (h4:(ap.endLine==cp.line)=true):QI X (.Tuple elts kt pt) (.Call (.Attribute o "items" ap) [] [] cp) (bx1 do'):=by
 intro Ex mt pins s σ H R I h
 refine fZ (Da h1 "items" X.env _) h4 (thn (ho Ex mt pins s σ H _ I h) fun v s1 ⟨x,H1,I1,r1,q1⟩=>?_)
 cases x with
 | ref p=>
  cases r1
  obtain⟨o,kvs,H2,I2,e,q⟩:=ac3 I1 q1
  have he:∃ ep,Vi o ep:=by
   obtain⟨e1,z,y,vs,r,ob,es,ep,e,c,d,_⟩:=I2.hok p _ e
   rw [e1] at e;cases e
   exact⟨ep,es,d⟩
  obtain⟨ep,he⟩:=he
  obtain⟨vs,rel,hd,hm⟩:=I2.kdict e he
  obtain⟨_,lo,vs',rel',dof⟩:=Gy I2.hok (.inr ⟨o,e⟩)
  obtain⟨ob,es,ep',e',c,_⟩:=id dof
  refine⟨"dict", "dict.items", PySem.F.plainAttrs_dict,fU,PySem.F.type_dict_items,dof.typeIs,fun a' e2=>?_,eB rfl (hZ ?_)⟩
  ·cases e2;exact⟨ob,e',c.2.1⟩
  ·refine call_meetsIn fU dof.typeIs PySem.F.entry_dict_items (PySem.F.args_dict_items_1 _) (meets_dict_items _ p lo) ⟨⟨vs',dof⟩,?_⟩
   have k1:∀ b o,s1.heap.get? b=some o->(s1.heap.push { cls:=.type "dict_items", data:=.fields #[.ref p] }).get? b=some o:=fun b o q=>ag _ q
   have z1:(s1.heap.push { cls:=.type "dict_items", data:=.fields #[.ref p] }).objs.size=s1.heap.objs.size+1:=cH ..
   have view:(s1.heap.push { cls:=.type "dict_items", data:=.fields #[.ref p] }).get? s1.heap.objs.size=some { cls:=.type "dict_items", data:=.fields #[.ref p] }:=aL _ rfl
   generalize s1.heap.push { cls:=.type "dict_items", data:=.fields #[.ref p] }=h1 at k1 z1 view ⊢
   refine wpAny_pyIter_items (s:={ s1 with heap:=h1 }) ⟨_,view,rfl,rfl⟩ (hd.keep k1) ?_
   have le:s1.heap.objs.size<=h1.objs.size:=by rw [z1];exact du _
   refine⟨h1.objs.size,[h1.objs.size],_,_,H2,rfl,I2.kept (t':=s1.toks) fun b o e=>ag _ (k1 b o e),Tf he,⟨_,_,by rw [rel.length];exact aL _ rfl⟩,fun b hb=>?_,q⟩
   have eb:b=h1.objs.size:=by simpa using hb
   subst eb
   exact I2.fpOk le (I2.hok.fresh le)
 | _=>exact (show False from q1).elim
end L2
set_option maxHeartbeats 4000000
namespace L2
open PySem PySem.Spec PyProof.Rows
noncomputable def Cg (cs:List (Str×Addr)):List (Str×bT)->List (Str×Addr)->List (Str×Addr)
 | [],acc=>acc
 | (n,k)::r,acc=>if k==.free then Cg cs r ((n,(cs.lookup n).getD 0)::acc) else Cg cs r acc
theorem Ku {scope:Scope} {env:Env} (h:∀ y∈scope.names,y.2=.free -> ∃ c,env.cells.lookup y.1=some c):closureFor scope env=pure (Cg env.cells scope.names []):=by
 unfold closureFor
 generalize scope.names=names at h
 suffices ∀ acc,(forIn names acc fun (x:Str×bT) cs=>do
   if (x.2==.free)=true then do
    let c <- cellOf env x.1
    pure (dn ((x.1,c)::cs))
   else pure (dn cs):Sem (List (Str×Addr)))=pure (Cg env.cells names acc) by
  have:=this []
  simp only [bind_pure]
  exact this
 induction names with
 | nil=>intro acc;rfl
 | cons y r ih=>
  intro acc
  obtain⟨n,k⟩:=y
  rw [List.forIn_cons]
  unfold Cg
  by_cases e:(k==cX)=true
  ·obtain⟨c,hc⟩:=h (n,k) (by simp) (bP e)
   have ec:cellOf env n=pure c:=by
    unfold cellOf
    rw [show env.cells.lookup n=some c from hc]
   simp only [e,if_true,ec,pure_bind]
   rw [ih (fun y hy=>h y (aQ _ hy))]
   rw [show env.cells.lookup n=some c from hc]
   rfl
  ·have e':(k==cX)=false:=by simpa using e
   simp only [e',ii,if_false,pure_bind]
   rw [ih (fun y hy=>h y (aQ _ hy))]
theorem Ga {cs:List (Str×Addr)}:∀ {names:List (Str×bT)} {acc:List (Str×Addr)} {p:Str×Addr},p∈Cg cs names acc->p∈acc\/((p.1,cX)∈names/\p.2=(cs.lookup p.1).getD 0)
 | [],_,_,h=>.inl h
 | (n,k)::r,acc,p,h=>by
  unfold Cg at h
  by_cases e:(k==cX)=true
  ·rw [if_pos e] at h
   rcases Ga h with h|⟨h1,h2⟩
   ·rcases List.mem_cons.mp h with h|h
    ·subst h
     exact .inr ⟨by rw [bP e];simp,rfl⟩
    ·exact .inl h
   ·exact .inr ⟨aQ _ h1,h2⟩
  ·rw [if_neg e] at h
   rcases Ga h with h|⟨h1,h2⟩
   ·exact .inl h
   ·exact .inr ⟨aQ _ h1,h2⟩
theorem F9 {cs:List (Str×Addr)}:∀ {names:List (Str×bT)} {acc:List (Str×Addr)} {p:Str×Addr},p∈acc->p∈Cg cs names acc
 | [],_,_,h=>h
 | (n,k)::r,acc,p,h=>by
  unfold Cg
  split
  ·exact F9 (aQ _ h)
  ·exact F9 h
theorem La {cs:List (Str×Addr)}:∀ {names:List (Str×bT)} {acc:List (Str×Addr)} {n:Str},(n,cX)∈names->n∈(Cg cs names acc).map (·.1)
 | [],_,_,h=>by cases h
 | (m,k)::r,acc,n,h=>by
  unfold Cg
  rcases List.mem_cons.mp h with e|h
  ·cases e
   rw [if_pos (show (cX==cX)=true from rfl)]
   exact List.mem_map.mpr ⟨_,F9 (d8),rfl⟩
  ·split <;> exact La h
noncomputable def Qg (sc:List (Str×bT)) (names:List (Str×bT)):List (Str×bT):=names.map fun (n,k)=>if (k==.free&&sc.lookup n==some .cell) then (n,.cell) else (n,k)
noncomputable def Pz (names:List (Str×bT)):List Str:=(names.filter fun y=>(y.2==.local) && !(y.1==(".0" : Str))).map (·.1)
noncomputable def Q4 (names:List (Str×bT)):List Str:=(names.filter fun y=>y.2==.free).map (·.1)
noncomputable def cfV (o:Option bT):Bool:=o==some .cell||o==some .free
noncomputable def Ch (G:Sg) (names:List (Str×bT)):Sg:={ G with N:=Pz names++Q4 names,sc:=Qg G.sc names,top:=false }
noncomputable def Es (G:Sg) (names:List (Str×bT)):List (Option Nat):=(Pz names).map (fun _=>none)++(Q4 names).map (fun x=>Bw G.N x 0)
noncomputable def Ed (G:Sg) (sc:Scope):Bool:=
 (sc.names.all fun y=>!(y.2==.cell))&&(sc.names.all fun y=>!(y.2==.local)||(sc.names.lookup y.1==some .local))&&(sc.kind==.function) &&
 decide (Pz sc.names++Q4 sc.names).Nodup&&((Q4 sc.names).all fun x=>(Bw G.N x 0).isSome&&cfV (G.sc.lookup x)&&cfV ((Qg G.sc sc.names).lookup x)) &&
 ((Pz sc.names).all fun x=>(Qg G.sc sc.names).lookup x==some .local)
section
variable {X:Cx} {G:Sg} {sc:Scope}
theorem Fl {o:Option bT} (h:cfV o=true):o=some .cell\/o=some .free:=by
 unfold cfV at h
 rw [cL] at h
 exact h.elim (fun e=>.inl (bP e)) fun e=>.inr (bP e)
theorem Fd (O:GOk X G):(fB sc X.env).names=Qg G.sc sc.names:=by
 unfold fB Qg
 apply List.map_congr_left
 rintro⟨n,k⟩ _
 have e:X.env.kindOf n=G.sc.lookup n:=O.sc n
 dsimp only
 rw [e,O.kind]
 simp
theorem Ml (O:GOk X G) (h:Ed G sc=true):Hr X (Ch G sc.names).N (Es G sc.names) sc (Cg X.env.cells sc.names []):=by
 unfold Ed at h
 simp only [am,aW,fH,decide_eq_true_eq,cL] at h
 obtain⟨⟨⟨⟨⟨h1,h2⟩,h3⟩,h4⟩,h5⟩,h6⟩:=h
 have fr:∀ y∈sc.names,y.2=.free -> ∃ c,X.env.cells.lookup y.1=some c:=fun y hy hf=>by
  refine O.cel y.1 ?_
  rw [O.sc]
  refine Fl (h5 y.1 ?_).1.2
  exact List.mem_map.mpr ⟨y,List.mem_filter.mpr ⟨hy,by rw [hf];rfl⟩,rfl⟩
 have nc:∀ y∈sc.names,y.2≠.cell:=fun y hy e=>by
  have:=h1 y hy
  rw [e] at this
  cases this
 refine⟨Ku fr,nc,bP h3,fun y hy hl=>?_,fun x c hx=>?_,fun x hx=>?_,?_,fun k j x e1 e2=>?_⟩
 ·rcases h2 y hy with z|z
  ·rw [hl] at z;cases z
  ·exact bP z
 ·have hm:=bM hx
  rcases Ga hm with z|⟨z1,z2⟩
  ·cases z
  ·obtain⟨c',hc'⟩:=fr _ z1 rfl
   have z2':c=(X.env.cells.lookup x).getD 0:=z2
   rw [show X.env.cells.lookup x=some c' from hc'] at z2' ⊢
   rw [z2']
   rfl
 ·have hn:(fB sc X.env).names=Qg G.sc sc.names:=Fd O
  have key:∀ kd,(fB sc X.env).names.lookup x=some kd->cfV (some kd)=true -> ∃ c,(Cg X.env.cells sc.names []).lookup x=some c:=fun kd hkd hc=>by
   rw [hn] at hkd
   have hm:=bM hkd
   unfold Qg at hm
   obtain⟨⟨n,k⟩,hy,e⟩:=List.mem_map.mp hm
   dsimp only at e
   have hfree:k=.free/\n=x:=by
    have hkc:=nc _ hy
    by_cases e1:(k==cX&&G.sc.lookup n==some .cell)=true
    ·rw [if_pos e1] at e
     rw [am] at e1
     exact⟨bP e1.1,congrArg Prod.fst e⟩
    ·rw [if_neg e1] at e
     cases e
     rcases Fl hc with z|z
     ·exact absurd (aN z) hkc
     ·exact⟨aN z,rfl⟩
   obtain⟨rfl,rfl⟩:=hfree
   exact ab3 (La hy)
  rcases hx with hx|hx
  ·exact key _ hx rfl
  ·exact key _ hx rfl
 ·unfold Es Ch
  simp
 ·have e1':(Pz sc.names++Q4 sc.names)[k]? = some x:=e1
  have e2':((Pz sc.names).map (fun _=>(none:Option Nat))++(Q4 sc.names).map (fun x=>Bw G.N x 0))[k]? = some (some j):=e2
  by_cases hlt:k<(Pz sc.names).length
  ·rw [dM (by simpa using hlt),bD] at e2'
   cases q:(Pz sc.names)[k]? with
   | none=>rw [q] at e2';cases e2'
   | some z=>rw [q] at e2';cases e2'
  ·rw [cv (by simpa using hlt)] at e1' 
   rw [cv (by simpa using hlt),aH,bD,e1'] at e2'
   have hs:Bw G.N x 0=some j:=aN e2'
   have hx:x∈Q4 sc.names:=bB e1'
   obtain⟨⟨_,c1⟩,c2⟩:=h5 x hx
   refine⟨by rw [O.N];exact Dv hs,?_,?_⟩
   ·rw [O.sc];exact Fl c1
   ·rw [Fd O];exact Fl c2
theorem Ty (O:GOk X G) (h:Ed G sc=true) (fp:List Addr) (C:Addr) (s:ah) (H:Hp) (xe:Value->ah->Prop) :
  GOk (X.comp (Ch G sc.names).N sc (Cg X.env.cells sc.names []) fp C s H xe) (Ch G sc.names):=by
 have S:=Ml O h
 unfold Ed at h
 simp only [am,aW,fH,decide_eq_true_eq,cL] at h
 obtain⟨⟨⟨⟨⟨h1,h2⟩,h3⟩,h4⟩,h5⟩,h6⟩:=h
 have hn:(fB sc X.env).names=Qg G.sc sc.names:=Fd O
 refine⟨O.K,bP h3,(fun z=>by cases z),rfl,h4,fun x=>?_,fun x hx=>?_,fun z=>(by cases z),O.calm,O.hd,O.units,fun x hx=>S.has x hx,fun x g e=>?_,O.bl,fun z=>(by cases z),O.fr⟩
 ·show (fB sc X.env).names.lookup x=_
  rw [hn]
  rfl
 ·show Vis (fB sc X.env) x
  unfold Vis
  rw [hn]
  rcases List.mem_append.mp hx with q|q
  ·exact .inl (bP (h6 x q))
  ·exact .inr (Fl (h5 x q).2)
 ·refine GBOk.to (X:=X) ?_ ?_ ?_ ?_ ?_ ?_ (O.gb x g e)
  ·rfl
  ·rfl
  ·rfl
  ·rfl
  ·exact fun _ r=>r
  ·exact fun i F=>⟨F.kp,F.ok,F.room,F.binds,F.vals⟩
end
noncomputable def Bu:St->Hp->(Option Int->Hp->Prop)->EK->Prop:=fun _ H Q _=>Q none H
noncomputable def Co (a:DE):St->Hp->(Option Int->Hp->Prop)->EK->Prop:=fun σ H Q E=>a σ H (fun x H1=>match x with
 | .int i=>Q (some i) H1
 | _=>False) E
noncomputable abbrev DO:=St->Hp->(Option Int->Hp->Prop)->EK->Prop
noncomputable def Qb (K:aa):V->Option Int->Option Int->Hp->VK->Prop:=fun x lo hi H Q=>match x with
 | .str z=>z.length<=sizeLine/\Q (.str (iV z lo hi)) H
 | .ref a=>(∃ xs,SqL K H a xs /\ ∀ p,H p=none->Q (.ref p) (upd H p (.lst (Fm xs lo hi)))) \/
   (∃ xs,SqT K H a xs/\((HT.sIx xs.length 0 lo=0/\HT.sIx xs.length xs.length hi=xs.length)->Q (.ref a) H)/\(¬ (HT.sIx xs.length 0 lo=0/\HT.sIx xs.length xs.length hi=xs.length) -> ∀ p,H p=none->Q (.ref p) (upd H p (.tup (Fm xs lo hi)))))
 | _=>False
noncomputable def dSl (K:aa) (a:DE) (l h:DO):DE:=fun σ H Q E=>a σ H (fun x H1=>l σ H1 (fun lo H2=>h σ H2 (fun hi H3=>Qb K x lo hi H3 Q) E) E) E
noncomputable def QO (X:Cx) (e:Option Expr) (t:DO):Prop:=∀ Ex,Meets X Ex->PO X e (fun σ H Q=>t σ H Q (Ex σ))
theorem Fs {prog:aI} {w:bq} {A:bt} {E:Value->ah->Prop} {s:ah} {t sl:Addr} {items:Array Value} {vl vu:Value} {lo hi:Option Int} {Q:Value->ah->Prop} (ht:i8 s.heap t items) (hs:s.heap.IsSliceOf sl vl vu .none) (pl:ij vl lo) (pu:ij vu hi)
  (hw:HT.sIx items.size 0 lo=0/\HT.sIx items.size items.size hi=items.size) (h:Q (.ref t) s):aS (model prog w) A (ib (.ref t) (.ref sl)) Q E s:=by
 obtain⟨os,hos,hcs,hds⟩:=id hs
 have hTs:s.TypeIs (.ref sl) "slice" := ⟨os,hos,hcs⟩
 unfold ib
 try with_reducible refine bR ?_
 first|refine af (al ?_)|skip
 refine af (wpAny_sequenceKey ht.typeIs (by decide) ?_)
 refine af (f9 (name:=cb "__getitem__") ht.typeIs bF
  (gj bF ht.typeIs PyProof.Rows.entry_tuple_getitem ?_ (PyProof.Rows.args_tuple_getitem _ _)))
 show aS _ _ (fk (.ref t) >>= _) _ _ s
 refine af (tupleItemsOf_ ht ?_)
 refine af (fu hTs ?_)
 rw [if_pos (by decide)]
 refine af (HT.sliceApplied_gen hs pl pu ?_)
 have hy:(((HT.sIx items.size 0 lo:Nat):Int)==0&&(1:Int)==1&&(HT.sIx items.size items.size hi - HT.sIx items.size 0 lo)==items.size)=true:=by
  rw [hw.1,hw.2]
  simp
 show aS _ _ (if (((HT.sIx items.size 0 lo:Nat):Int)==0&&(1:Int)==1&&(HT.sIx items.size items.size hi - HT.sIx items.size 0 lo)==items.size)=true then _ else _) _ _ s
 rw [if_pos hy]
 refine af (m:=Builtin.Tuple.tupleIsExact _) (af (fu ht.typeIs (al ?_)))
 rw [if_pos (by decide)]
 exact af (gS (al ⟨_,rfl,al h⟩))
noncomputable def ck1 (K:aa):V->Option Int->Option Int->Hp->VK->Prop:=fun x lo hi H Q=>∃ a xs,x=.ref a/\SqT K H a xs/\(HT.sIx xs.length 0 lo=0/\HT.sIx xs.length xs.length hi=xs.length)/\Q (.ref a) H
theorem bp6 {X:Cx}:SlR X (ck1 X.K):=by
 intro pins s σ H x v vl vu lo hi sl Q I rx hs pl pu h
 obtain⟨a,xs,rfl,hx,hw,q⟩:=h
 cases rx
 obtain⟨its,r,ht,hz⟩:=I.tuple hx
 have hlen:its.toArray.size=xs.length:=by rw [au];exact r.length.symm
 exact⟨"tuple", _,PyProof.Rows.slot_tuple_getitem.lookup,ht.typeIs,Fs ht hs pl pu (by rw [hlen];exact hw) ⟨.ref a,H,I,rfl,q⟩⟩
section
variable {X:Cx} {G:Sg} {e:Expr} {de:DE} {lo hi:Option Expr} {dl dh:DO} {pos p2:Pos}
theorem Ux:QO X none Bu:=fun _ _=>ao2
theorem Uy (h:QE X e de):QO X (some e) (Co de):=by
 intro Ex m pins s σ H Q I hw
 rw [evalPart_some]
 refine thn (h Ex m pins s σ H _ I hw) fun u s1 ⟨x,H1,I1,r1,q1⟩=>?_
 cases x with
 | int i=>obtain⟨t,rfl⟩:=r1;exact⟨some i,H1,I1,.int i t,q1⟩
 | _=>exact (show False from q1).elim
theorem M4 (e:Expr) (z:Str) (t:Tok) (r:Value):letTemporaryGo e (.str z t) r=pure ():=by
 cases e <;> rfl
theorem ae3 (he:QE X e de) (hl:QO X lo dl) (hh:QO X hi dh):QE X (.Subscript e (.Slice lo hi none p2) pos) (dSl X.K de dl dh):=by
 intro Ex m pins s σ H Q I h
 refine Subscript_ (thn (he Ex m pins s σ H _ I h) fun v s1 ⟨x,H1,I1,r1,q1⟩=>?_)
 refine wpAny_Slice (thn (hl Ex m pins s1 σ H1 _ I1 q1) fun vl s2 ⟨l,H2,I2,pl,q2⟩=>thn (hh Ex m pins s2 σ H2 _ I2 q2) fun vu s3 ⟨u,H3,I3,pu,q3⟩=>?_)
 rw [evalPart_none]
 refine al ?_
 show aS (model X.prog X.w) X.A (iw e (.Slice lo hi none p2) v (.ref s3.heap.objs.size)) (EP X pins σ Q) X.xe { s3 with heap:=s3.heap.push { cls:=.type "slice", data:=.fields #[vl,vu,.none] } }
 have I4:Inv X pins σ H3 { s3 with heap:=s3.heap.push { cls:=.type "slice", data:=.fields #[vl,vu,.none] } }:=I3.kept (t':=s3.toks) fun b ob q=>ag _ q
 have gen:∀ r,SlR X r->r x l u H3 Q->aS (model X.prog X.w) X.A (iw e (.Slice lo hi none p2) v (.ref s3.heap.objs.size)) (EP X pins σ Q) X.xe { s3 with heap:=s3.heap.push { cls:=.type "slice", data:=.fields #[vl,vu,.none] } }:=fun r hr q=>by
  obtain⟨T,id,hT,ht,hg⟩:=hr pins _ σ H3 x v vl vu l u s3.heap.objs.size Q I4 r1 (Heap.IsSliceOf.new ..) pl pu q
  exact jd (ops:=[.ref s3.heap.objs.size,v]) ht hT hg (by with_unfolding_all rfl)
 cases x with
 | str z=>
  obtain⟨hz,q⟩:=q3
  obtain⟨t,rfl⟩:=r1
  have hk:KeptH (fun h=>Inv X pins σ H3 { s3 with heap:=h }):=fun h ob J=>J.kept (t':=s3.toks) fun b o eb=>ag _ eb
  have fin:∀ h' t' k,Inv X pins σ H3 { s3 with heap:=h' }->(fun (a:Value) (s':ah)=>s3.toks<=s'.toks->EP X pins σ Q a s') (.str (iV z l u) t') { s3 with heap:=h',toks:=k }:=fun h' t' k J htk=>⟨.str _,H3,J.tok k htk,⟨_,rfl⟩,q⟩
  refine bu (n:=s3.toks) (ae _) ?_
  cases pl with
  | none=>
   cases pu with
   | none=>exact fC (SBH.sliceItem_nn hk I3 fin hz) (by with_unfolding_all rfl) (M4 e z t)
   | int j uj=>exact fC (SBH.sliceItem_ns hk I3 fin hz) (by with_unfolding_all rfl) (M4 e z t)
  | int i ui=>
   cases pu with
   | none=>exact fC (SBH.sliceItem_sn hk I3 fin hz) (by with_unfolding_all rfl) (M4 e z t)
   | int j uj=>exact fC (SBH.sliceItem_ss hk I3 fin hz) (by with_unfolding_all rfl) (M4 e z t)
 | ref a=>
  rcases q3 with ⟨xs,h1,h2⟩|⟨xs,h1,h2,h3⟩
  ·exact gen _ ar0 ⟨a,xs,rfl,h1,h2⟩
  ·by_cases hw:HT.sIx xs.length 0 l=0/\HT.sIx xs.length xs.length u=xs.length
   ·exact gen _ bp6 ⟨a,xs,rfl,h1,hw,h2 hw⟩
   ·exact gen _ bp7 ⟨a,xs,rfl,h1,hw,h3 hw⟩
 | _=>exact (show False from q3).elim
noncomputable def Iq:Expr->Bool
 | .Set _ _ _=>false
 | _=>true
theorem Ir {e:Expr} (h:Iq e=true) (env:Env) (x:Value):dz e env x=pure x:=by
 cases e with
 | Set _ _ _=>cases h
 | _=>rfl
theorem El:Meets X (fun _ _ _=>False):=fun _ _ _ _ _ _ _ h=>h.elim
variable {tg iter elt:Expr} {ifs:List Expr} {sc:Scope} {wi:DI} {g:DG} {tc:DT}
noncomputable def Rg (G:Sg) (x:Str):Bool:=(G.sc.lookup x==some .local)||(G.top&&(G.sc.lookup x==some .cell))
noncomputable def wG:Nat->Sg->Expr->DG
 | 0,_,_=>gNo
 | n+1,G,e=>match e with
  | .Name x _=>match Bw G.N x 0 with
   | some i=>if Rg G x=true then gdN i else gNo
   | none=>gNo
  | .Tuple ts _ _=>if G.calm=true/\ts.all noStar=true then gdT G.K ts.length (ts.map (wG n G)) else gNo
  | _=>gNo
theorem M5 (O:GOk X G) {x:Str} (h:Rg G x=true):Loc X.env.scope x/\(X.fn x=true\/X.env.scope.names.lookup x=some .local):=by
 unfold Rg at h
 rw [cL,am] at h
 rcases h with h|⟨h1,h2⟩
 ·have:X.env.scope.names.lookup x=some .local:=by rw [O.sc];exact bP h
  exact⟨.inl this,.inr this⟩
 ·have:X.env.scope.names.lookup x=some .cell:=by rw [O.sc];exact bP h2
  exact⟨.inr this,.inl (O.top h1 x)⟩
theorem D6 {e:Expr} (h:noStar e=true) (es:List Expr) (env:Env):cn (e::es) env=(false,iK e env)::cn es env:=by
 cases e with
 | Starred _ _=>cases h
 | _=>rfl
theorem Ht {es:List Expr} (h:es.all noStar=true) (env:Env):(cn es env).length=es.length/\(cn es env).findIdx? (·.1)=none:=by
 induction es with
 | nil=>exact⟨rfl,rfl⟩
 | cons e es ih=>
  rw [bw,am] at h
  obtain⟨h1,h2⟩:=ih h.2
  rw [D6 h.1]
  refine⟨by rw [ax,ax,h1],?_⟩
  rw [List.findIdx?_cons,h2]
  rfl
theorem Qn:∀ (n:Nat) (X:Cx) (G:Sg),GOk X G -> ∀ e,PG X e (wG n G e)
 | 0,_,_,_,_=>P5
 | n+1,X,G,O,e=>by
  cases e with
  | Name x p=>
   unfold wG
   dsimp only
   split
   ·rename_i i e
    split
    ·rename_i h
     obtain⟨h1,h2⟩:=M5 O h
     exact ao0 (by rw [O.N];exact O.nd) (by rw [O.N];exact Dv e) h1 h2
    ·exact P5
   ·exact P5
  | Tuple ts k p=>
   unfold wG
   dsimp only
   split
   ·rename_i h
    obtain⟨h1,h2⟩:=h
    obtain⟨h3,h4⟩:=Ht h2 X.env
    rw [<- O.K]
    refine cj6 (O.calm▸h1) ?_ h3 h4
    clear h3 h4
    induction ts with
    | nil=>exact b28
    | cons t ts ih=>
     rw [bw,am] at h2
     refine b27 (Qn n X G O t) (ih h2.2) ?_
     rw [D6 h2.1]
     rfl
   ·exact P5
  | _=>exact P5
end
end L2
namespace L2
open PySem PySem.Spec
structure To (l:List Addr) (e C:Addr) (dx:Option Addr) (h h':Heap):Prop where
 exc:∃ (vs':Array Value) (T:Addr) (oT:Obj) (ts':Array Value),h'.get? e=some (Au C dx vs')/\vs'.size=6/\vs'[1]? = some (.ref T)/\h.objs.size<=T/\T≠e/\h'.get? T=some oT/\oT.data=.fields ts'/\3<ts'.size /\ ∀ vs,h.get? e=some (Au C dx vs)->vs'[2]? = vs[2]?
 keep:∀ b o,b≠e->b∉l->h.get? b=some o->h'.get? b=some o
 slot:∀ b o,b≠e->h.get? b=some o -> ∃ sl,h'.get? b=some { o with slots:=sl }
noncomputable abbrev tbO (fs:Array Value):Obj:={ cls:=.type "traceback", dict:=none,data:=.fields fs }
noncomputable abbrev Im (T:Addr):Obj->Obj:=bC (·.setIfInBounds 1 (.ref T))
noncomputable abbrev Hi (h:Heap) (e:Addr) (fs:Array Value):Heap:=(h.push (tbO fs)).update e (Im h.objs.size)
section
variable {h:Heap} {e C:Addr} {dx:Option Addr} {vs fs:Array Value}
theorem apart (q:h.get? e=some (Au C dx vs)):h.objs.size≠e:=gG (aJ q)
theorem Py (T:Addr):(Im T (Au C dx vs)).data=.fields (vs.setIfInBounds 1 (.ref T)):=rfl
theorem Qz (q:h.get? e=some (Au C dx vs)):(Hi h e fs).get? e=some (Au C dx (vs.setIfInBounds 1 (.ref h.objs.size))):=
 bN (Im h.objs.size) (ag (tbO fs) q) (cA (Py h.objs.size))
theorem Q0 (q:h.get? e=some (Au C dx vs)):(Hi h e fs).get? h.objs.size=some (tbO fs):=
 (bb (h.push (tbO fs)) (Im h.objs.size) (apart q).symm).trans (aL h rfl)
theorem Gz {b:Addr} {o:Obj} (ne:b≠e) (q:h.get? b=some o):(Hi h e fs).get? b=some o:=
 (bb (h.push (tbO fs)) (Im h.objs.size) ne.symm).trans (ag (tbO fs) q)
theorem Ra {h0:Heap} {l:List Addr} (hz:h.objs.size=h0.objs.size) (k1:∀ b,b∉l->h.get? b=h0.get? b) (k2:∀ b o,h0.get? b=some o -> ∃ sl,h.get? b=some { o with slots:=sl }) (q:h.get? e=some (Au C dx vs)) (hs:vs.size=6) (hf:3<fs.size) :
  To l e C dx h0 (Hi h e fs) where
 exc:=⟨_,h.objs.size,_,_,Qz q,by rw [cJ];exact hs,dm (by omega),by omega,apart q,Q0 q,rfl,hf,fun vs0 q0=>by
  obtain⟨sl,z⟩:=k2 e _ q0
  rw [q] at z
  cases z
  exact bZ (by decide)⟩
 keep:=fun b o ne nl hb=>Gz ne ((k1 b nl).trans hb)
 slot:=fun b o ne hb=>let ⟨sl,z⟩:=k2 b o hb;⟨sl,Gz ne z⟩
end
section
variable {M:Model} {A:bt} {E:Value->ah->Prop} {s:ah} {base:Heap} {env:Env} {outer:List Env} {L e C:Addr} {dx:Option Addr} {vs:Array Value} {Q:Unit->ah->Prop}
theorem Wh {head:Value} {hadNext:Bool} {env0:Env} (hfr:A.frames=some (env0::outer)) (hl:s.heap.FunFrames base (env0::outer)) (h0:env0.frame=some L) (hf:env.frame=some L) (q:s.heap.get? e=some (Au C dx vs)) (hs:vs.size=6) (k:∀ h',To (frs (env0::outer)) e C dx s.heap h'->Q () { s with heap:=h' }) :
  aS M A ((jc env >>= fun a=>entryPlaceOf L hadNext >>= fun pl=>eU head a .none (i3 L) .none pl >>= fun b=>setField (.ref e) 1 b)) Q E s:=by
 have off:e∉frs (env0::outer):=fun z=>by
  obtain⟨_,o,z1,z2⟩:=hl.mem z
  rw [q] at z1
  cases z1
  exact z2 vs rfl
 have fe:jc env=jc env0:=by unfold jc;rw [hf,h0]
 rw [fe]
 refine af (wpAny_frameOf_fun hfr hl h0 fun h1 ⟨a1,a2,a3⟩=>af (wpAny_entryPlaceOf fun pl hpl=>?_))
 unfold eU newFields
 refine af (cQ ?_ (hpl.sizeOk5 _ _ _ _ _))
 have q1:h1.get? e=some (Au C dx vs):=(a2 e off).trans q
 have lt:3<([head,.ref L,.none,i3 L,.none]++(if pl.isEmpty then aX 6 cP else pl)).toArray.size:=by rw [au,aq];simp only [ax,List.length_nil];omega
 generalize ([head,.ref L,.none,i3 L,.none]++(if pl.isEmpty then aX 6 cP else pl)).toArray=fs at lt ⊢
 exact fG (ag (tbO fs) q1) rfl (show 1<vs.size by omega) (k _ (Ra a1 a2 a3 q1 hs lt))
end
end L2
namespace L2
open PySem PySem.Spec PyProof.Rows
open Sem (wp)
noncomputable def bv3 (n:Nat) (a:Addr) (H':Hp) (s':ah):Prop:=
 ∃ (C:Addr) (dx:Option Addr) (vs:Array Value) (T:Addr) (oT:Obj) (ts:Array Value),FlO H' a C dx/\s'.heap.get? a=some (Au C dx vs)/\vs.size=6/\vs[1]? = some (.ref T)/\T≠a/\s'.heap.get? T=some oT/\oT.data=.fields ts/\ts[3]? = some .none/\n<=T/\H' T=none
noncomputable def CXE (P:aI) (w:bq):CXT:=fun outer H s E e s'=>
 ∃ (a:Addr) (H':Hp),e=.ref a/\(s'.os=s.os/\s.toks<=s'.toks)/\fP s'.gens/\Un (frs outer) [] H H' s.heap s'.heap/\HOk P w H' s'.heap/\bv3 s.heap.objs.size a H' s'/\E e none H'
section
variable {X:Cx} {pins:List (Addr×Obj)} {σ:St} {H:Hp} {s:ah} {a C:Addr} {dx:Option Addr} {h':Heap}
theorem am1 (I:Inv X pins σ H s) (ea:FlO H a C dx) (L:To (frs X.stack) a C dx s.heap h'):Un (frs X.stack) [] H H s.heap h' where
 keep:=fun b o q n hb _=>L.keep b o (fun z=>by rw [z] at n;rcases ea with ea|ea <;> (rw [ea] at n;cases n)) hb q
 slot:=fun b o q n _ _=>L.slot b o (fun z=>by rw [z] at n;rcases ea with ea|ea <;> (rw [ea] at n;cases n)) q
 free:=fun b o _ n _=>n
 there:=fun b o q _=>by
  by_cases hb:b=a
  ·obtain⟨vs',T,oT,ts',h1,_⟩:=L.exc
   exact⟨_,by rw [hb];exact h1⟩
  ·obtain⟨sl,h1⟩:=L.slot b o hb q
   exact⟨_,h1⟩
 tups:=fun _ _ e=>e
 frzs:=fun _ _ _ e=>e
 tbls:=fun b ps e=>⟨#[],by rw [e];simp⟩
theorem am0 (I:Inv X pins σ H s) (ea:FlO H a C dx) (L:To (frs X.stack) a C dx s.heap h'):HOk X.prog X.w H h':=fun b o e=>by
 by_cases hb:b=a
 ·subst hb
  obtain⟨vs',T,oT,ts',h1,h2,_,_,_,_,_,_,hc⟩:=L.exc
  rcases ea with ea|ea
  ·obtain⟨vs,g1,_,g3⟩:=Zl I ea
   rw [ea] at e
   cases e
   exact Zk h1 h2 ((hc vs g1).trans g3)
  ·rw [ea] at e
   cases e
   exact Zg h1 h2
 ·refine (I.hok b o e).stay (fun c u hc q=>L.keep c u ?_ ?_ q) (fun _ q=>q) fun _ _ q=>q
  ·rcases hc with rfl|hc
   ·exact hb
   ·rintro rfl
    rcases ea with ea|ea <;> (rw [ea] at hc;cases hc)
  ·intro hm
   have n:=I.stkFree c hm
   rcases hc with rfl|hc
   ·rw [n] at e;cases e
   ·rw [n] at hc;cases hc
end
end L2
namespace L2
open PySem PySem.Spec PyProof.Rows
open Sem (wp)
section
variable {X:Cx} {pins:List (Addr×Obj)} {σ:St} {H:Hp} {s:ah} {a:Addr} {E:Value->ah->Prop} {Q:Unit->ah->Prop}
noncomputable def FlyT (X:Cx) (pins:List (Addr×Obj)) (H:Hp) (a:Addr) (s:ah) (z:Value):Prop:=
 ∃ (C:Addr) (dx:Option Addr) (vs:Array Value) (T:Addr) (oT:Obj) (ts:Array Value),FlO H a C dx/\s.heap.get? a=some (Au C dx vs)/\vs.size=6/\vs[1]? = some (.ref T)/\T≠a/\s.heap.get? T=some oT/\oT.data=.fields ts/\ts[3]? = some z/\Do X pins H T
theorem FlyT.at {z:Value} (F:FlyT X pins H a s z):E5 X pins H a s:=by
 obtain⟨C,dx,vs,T,oT,ts,h1,h2,h3,q1,q2,q3,q4,q5,q6⟩:=F
 exact⟨C,dx,vs,h1,h2,h3,.inr ⟨T,oT,ts,q1,q2,q3,q4,⟨z,q5⟩,q6⟩⟩
theorem b97 {C T:Addr} {dx:Option Addr} {vs ts:Array Value} {oT:Obj} {y:Value} (I:Inv X pins σ H s) (h1:FlO H a C dx) (h2:s.heap.get? a=some (Au C dx vs)) (h3:vs.size=6) (q1:vs[1]? = some (.ref T)) (q2:T≠a) (q3:s.heap.get? T=some oT) (q4:oT.data=.fields ts) (q5:ts[3]? = some y) (q6:Do X pins H T) (v:Value) :
  Inv X pins σ H { s with heap:=s.heap.update T (bC (·.setIfInBounds 3 v)) }/\FlyT X pins H a { s with heap:=s.heap.update T (bC (·.setIfInBounds 3 v)) } v/\(s.heap.update T (bC (·.setIfInBounds 3 v))).get? a=some (Au C dx vs):=by
 have ha:(s.heap.update T (bC (·.setIfInBounds 3 v))).get? a=some (Au C dx vs):=(bb _ _ q2).trans h2
 obtain⟨c0,d0,dt0,sl0⟩:=oT
 cases (show dt0=.fields ts from q4)
 have hT:(s.heap.update T (bC (·.setIfInBounds 3 v))).get? T=some ⟨c0,d0,.fields (ts.setIfInBounds 3 v),sl0⟩:=bN _ q3 (cA (vs:=ts.setIfInBounds 3 v) rfl)
 exact⟨I.turned (t':=s.toks) (fun b o ne e=>(bb _ _ (dj ne)).trans e) q6.1 q6.2.1 q6.2.2.2.1 q6.2.2.2.2.1 q6.2.2.2.2.2,⟨C,dx,vs,T,_,_,h1,ha,h3,q1,q2,hT,rfl,dm (Array.getElem?_eq_some_iff.mp q5).1,q6⟩,ha⟩
theorem U5 {A:bt} {fr:Option Addr} {z:Value} (I:Inv X pins σ H s) (F:FlyT X pins H a s z) (h:∀ s',Inv X pins σ H s'->FlyT X pins H a s' (fr.elim .none fun f=>i3 f)->Q () s'):aS (model X.prog X.w) A (gN (.ref a) fr) Q E s:=by
 obtain⟨C,dx,vs,T,oT,ts,h1,h2,h3,q1,q2,q3,q4,q5,q6⟩:=F
 obtain⟨I',F',_⟩:=b97 I h1 h2 h3 q1 q2 q3 q4 q5 q6 (fr.elim .none fun f=>i3 f)
 unfold gN
 refine af (b8 h2 rfl q1 ?_)
 rw [if_pos (by simp)]
 exact fG q3 q4 (Array.getElem?_eq_some_iff.mp q5).1 (h _ I' F')
theorem ac0 {env:Env} (I:Inv X pins σ H s) {e0:Env} {o0:List Env} {L:Addr} (hs:X.stack=e0::o0) (h0:e0.frame=some L) (hf:env.frame=some L) (F:E5 X pins H a s) (h:∀ s' z,Inv X pins σ H s'->FlyT X pins H a s' z->Q () s') :
  aS (model X.prog X.w) X.A (ir (.ref a) env) Q E s:=by
 obtain⟨C,dx,vs,h1,h2,h3,h4⟩:=F
 have fr:X.A.frames=some (e0::o0):=hs▸I.ok.frames
 have new:∀ {s1:ah} {head:Value} {hadNext:Bool},Inv X pins σ H s1->s1.heap.get? a=some (Au C dx vs)->aS (model X.prog X.w) X.A ((jc env >>= fun y=>entryPlaceOf L hadNext >>= fun pl=>eU head y .none (i3 L) .none pl >>= fun b=>setField (.ref a) 1 b)) Q E s1:=fun {s1 head hadNext} I1 q=>by
  have fn:s1.heap.FunFrames X.base (e0::o0):=hs▸I1.stack
  refine Wh (base:=X.base) fr fn h0 hf q h3 fun h' L=>?_
  rw [<- hs] at L
  have I':=I1.call (h':=h') (g':=s1.gens) (t':=s1.toks) (d':=s1.drawn) (ch:=[]) (am1 I1 h1 L) (am0 I1 h1 L) I1.bare (fun b z=>absurd z (by simp))
  obtain⟨vs',T,oT,ts',a1,a2,a3,a4,a5,a6,a7,a8,_⟩:=L.exc
  exact h _ _ I' ⟨C,dx,vs',T,oT,ts',h1,a1,a2,a3,a5,a6,a7,Array.getElem?_eq_getElem a8,I1.fpOk a4 (I1.hok.fresh a4)⟩
 unfold ir
 simp only [hf]
 rcases h4 with c|⟨T,oT,ts,c,ne,hT,hd,⟨z,hz⟩,fp⟩
 ·refine af (b8 h2 rfl c ?_)
  rw [if_neg (by decide)]
  exact new I h2
 ·refine af (b8 h2 rfl c ?_)
  rw [if_pos (by simp)]
  refine af (b8 hT hd hz ?_)
  by_cases e:(z==i3 L)=true
  ·rw [if_pos e]
   exact al (h s z I ⟨C,dx,vs,T,oT,ts,h1,h2,h3,c,ne,hT,hd,hz,fp⟩)
  ·rw [if_neg e]
   obtain⟨I',_,ha⟩:=b97 I h1 h2 h3 c ne hT hd hz fp .none
   exact af (fG hT hd (Array.getElem?_eq_some_iff.mp hz).1 (new I' ha))
theorem Uq (I:Inv X pins σ H s) (hs:X.stack=X.env::X.outer) (hf:X.env.frame=some X.env.locals) (F:E5 X pins H a s) (h:∀ s',Inv X pins σ H s'->FlyT X pins H a s' .none->Q () s') :
  aS (model X.prog X.w) X.A (ir (.ref a) X.env) (fun _ s1=>aS (model X.prog X.w) X.A (gN (.ref a) none) Q E s1) E s:=
 ac0 I hs hf hf F fun s1 z I1 F1=>U5 I1 F1 h
theorem Gf {A:bt} (I:Inv X pins σ H s) (F:E5 X pins H a s) (h:∀ s',Inv X pins σ H s'->E5 X pins H a s'->Q () s'):aS (model X.prog X.w) A (gN (.ref a) none) Q E s:=by
 obtain⟨C,dx,vs,h1,h2,h3,h4⟩:=F
 rcases h4 with h4|⟨T,oT,ts,q1,q2,q3,q4,⟨z,q5⟩,q6⟩
 ·unfold gN
  refine af (b8 h2 rfl h4 ?_)
  rw [if_neg (by decide)]
  exact al (h s I ⟨C,dx,vs,h1,h2,h3,.inl h4⟩)
 ·exact U5 I ⟨C,dx,vs,T,oT,ts,h1,h2,h3,q1,q2,q3,q4,q5,q6⟩ fun s' I' F'=>h s' I' F'.at
end
section
variable {prog:aI} {w:bq} {A:bt} {E:Value->ah->Prop} {s:ah} {K:aa} {a C D:Addr} {dx:Option Addr} {vs:Array Value} {b:Bool} {Q:Bool->ah->Prop}
open PySem.W in
theorem Io (X:K.In s.heap) (c:ECls K C) (d:ECls K D) (ha:s.heap.get? a=some (Au C dx vs)) (m:mroIn K C (.ref D)=some b) (h:Q b s) :
  aS (model prog w) A (excMatches (.ref a) (.ref D)) Q E s:=by
 obtain⟨nm,qn,N,bs,bm,hdct,sn,sub,ab,col,dd,k0,k1,k2,k3,k5,hl,ht,hd⟩:=c.obj
 obtain⟨nm',qn',N',bs',bm',hdct',sn',sub',ab',col',dd',k0',k1',k2',k3',k5',hl',ht',hd'⟩:=d.obj
 have hC:=X _ _ hl
 have hD:=X _ _ hl'
 have hcB:(aC D::bm').contains (.type "BaseException")=true:=by rw [a0,Bp ht' (show valTail.contains (.type "BaseException")=true by decide +kernel),cR]
 have hcD:(aC C::bm).contains (.ref D)=b:=by
  unfold mroIn at m
  obtain⟨cd,e,em⟩:∃ cd,iX K C=some cd/\cd.mro=.ref C::bm:=⟨_,by unfold iX;rw [hl],rfl⟩
  rw [e,c7,em] at m
  exact aN m
 have f:=tc_notTuple
 obtain⟨hp,g,dr,tk,os⟩:=s
 unfold excMatches
 repeat (first|with_reducible refine a_ ha ?_|with_reducible refine a_ hD ?_|(with_reducible refine bQ hD ?_;rw [hcB])|(with_reducible refine bQ hC ?_;rw [hcD])|wp_step)
 cases b <;> (wp_walk;exact h)
end
end L2
namespace L2
open PySem PySem.Spec PyProof.Rows
section
variable {X:Cx} {G:Sg} {elt tg iter:Expr} {ifs:List Expr} {sc:Scope} {wi:DI} {g:DG} {tc:DT} {de:DE} {pos:Pos}
theorem bw7 {pins pins':List (Addr×Obj)} {σ:St} {H2 H':Hp} {s2:ah} {N':List Str} {cl:List (Str×Addr)} {fp:List Addr} {C T:Addr} {xe:Value->ah->Prop} (I2:Inv X pins σ H2 s2) (f2:∀ b∈fp,Do X pins H2 b)
  (F:Do (X.comp N' sc cl fp C s2 H2 xe) pins' H' T):Do X pins H' T:=by
 obtain⟨r1,r2,r3,r4,r5,r6⟩:=F
 rcases r4 with r4|r4
 ·exact⟨r1,(f2 T r4).2⟩
 ·exact I2.fpOk r4 r1
theorem Ip {Ex:St->EK} (m:Meets X Ex) (fr:FrH X) {pins:List (Addr×Obj)} {σ:St} {H2:Hp} {s2:ah} {N':List Str} {cl:List (Str×Addr)} {fp:List Addr} {C D:Addr} {us:Option (Value->Sem Unit)} {Q2:Value->ah->Prop} (I2:Inv X pins σ H2 s2) (f2:∀ b∈fp,Do X pins H2 b)
  (hC:s2.heap.objs.size<=C):Meets (X.comp N' sc cl fp C s2 H2 (Bk X sc cl us Q2 D C)) (fun _ a H'=>Ex σ a H'):=by
 intro pins' σ' H' s' a I' F' hE
 obtain⟨e0,o0,L,f1,f3,f4⟩:=fr
 refine ac0 (X:=X.comp N' sc cl fp C s2 H2 (Bk X sc cl us Q2 D C)) (env:=jb sc cl C X.env) I' f1 f3 f4 F' fun s3 z I3 F3=>?_
 obtain⟨mm,hn,_⟩:=id I3.loc
 refine⟨mm,hn,fun h' sb cenv hce=>?_⟩
 have I4:Inv X pins σ H' s3:=I2.call' (ch:=fp) I3.os I3.base I3.hok I3.bare fun b hb=>⟨(f2 b hb).2.2.2.1,(f2 b hb).2.1,(f2 b hb).2.2.2.2.1,(f2 b hb).2.2.2.2.2⟩
 have fo:=I2.fpOk hC I3.free
 obtain⟨g0,g1,g2,g3,g4,g5⟩:=id fo
 have I5:Inv X pins σ H' { s3 with heap:=h' }:=I4.turned (t':=s3.toks) (fun b o hb e=>(sb.2 b hb).trans e) g0 g1 g3 g4 g5
 obtain⟨C0,dx,vs,T,oT,ts,h1,h2,h3,q1,q2,q3,q4,q5,q6⟩:=F3
 have na:a≠C:=fun z=>by rcases h1 with h1|h1 <;> (rw [z,g0] at h1;cases h1)
 have nT:T≠C:=q6.2.1
 have F5:FlyT X pins H' a { s3 with heap:=h' } z:=⟨C0,dx,vs,T,oT,ts,h1,(sb.2 a na).trans h2,h3,q1,q2,(sb.2 T nT).trans q3,q4,q5,bw7 I2 f2 q6⟩
 unfold PySem.passOn
 refine af (b8 (s:={ s3 with heap:=h' }) ((sb.2 a na).trans h2) rfl q1 ?_)
 rw [if_neg (by simp)]
 refine af (U5 I5 F5 fun s6 I6 F6=>?_)
 exact wpAny_throw (m pins σ H' s6 a I6 F6.at hE)
noncomputable def aj9 (X:Cx) (ifs:List Expr) (t:DT):Prop:=∀ Ex,Meets X Ex->Vj X ifs (fun σ H Q=>t σ H Q (Ex σ))
theorem P8:aj9 X [] Fn:=fun _ _=>ac9
theorem P9 {c:Expr} {t:DT} (h:QT X c t):aj9 X [c] t:=fun Ex m=>ad0 (h Ex m)
theorem Uu (O:GOk X G) (hc:X.calm=true) (hk:Ed G sc=true) (hs:Iq iter=true) (hi:QI X tg iter wi) (hg:∀ X',GOk X' (Ch G sc.names)->PG X' tg g) (ht:∀ X',GOk X' (Ch G sc.names)->aj9 X' ifs tc) (he:∀ X',GOk X' (Ch G sc.names)->QE X' elt de) :
  QE X (.ListComp elt [⟨tg,iter,ifs,0⟩] sc pos) (C5 (Es G sc.names) wi g tc de):=by
 intro Ex m pins s σ H Q I h
 exact Za hc (Ml O hk) (hi Ex m) (fun Q2 fp C D s2 H2 I2 f2 hC=>
  have M:=Ip (N':=(Ch G sc.names).N) (cl:=Cg X.env.cells sc.names []) (us:=none) (Q2:=Q2) (D:=D) m O.fr I2 f2 hC
  have K:=Ty O hk fp C s2 H2 (Bk X sc (Cg X.env.cells sc.names []) none Q2 D C)
  ⟨hg _ K,ht _ K _ M,he _ K _ M⟩) I h (fun x=>Ir hs X.env x)
end
noncomputable def Tw (K:aa) (op:BoolOp):List DE->DE
 | []=>dNo
 | [a]=>a
 | a::r=>match op with
  | .And=>Bh K a (Tw K op r)
  | .Or=>Qu K a (Tw K op r)
noncomputable def Tv (op:BoolOp):List DT->DT
 | []=>fun _ _ _ _=>False
 | [a]=>a
 | a::r=>match op with
  | .And=>Gb a (Tv op r)
  | .Or=>dOr a (Tv op r)
noncomputable def Cn:List DE->DA
 | []=>Ae
 | a::r=>Aa a (Cn r)
noncomputable def tNo:DT:=fun _ _ _ _=>False
noncomputable def W3 (G:Sg) (ops:List iS) (bs:List Expr) (a:DE) (ds:List DE):DE:=match ops,bs,ds with
 | [op],[b],[d]=>if cD op b=false then Ad (K0 G.K op) a d else dNo
 | [op,op'],[b,c],[d,d']=>if lastMarks [op,op'] [b,c]=false then Bx (K0 G.K op) (K0 G.K op') a d d' else dNo
 | _,_,_=>dNo
noncomputable def aj2 (G:Sg) (x:Str) (es:List Expr) (ds:List DE):DE:=
 if He G x=true/\(Bw G.N x 0)=none/\es.all noStar=true then (match G.gb.lookup x with
  | some (.fn i)=>if es.length<=i.ps.length/\i.ps.length<=es.length+i.dfs.length then dFn (spE i.sp (i.dfs.drop (es.length+i.dfs.length - i.ps.length))) (Cn ds) else dNo
  | some (.exc C oi)=>(match oi with
   | none=>if es.isEmpty=true then dFn (mkX C none 0) (Cn ds) else dFn (fun vs H Q E=>vs.length<=1000/\mkX C none 0 vs H Q E) (Cn ds)
   | some i=>if es.length+1<=i.ps.length/\i.ps.length<=es.length+1+i.dfs.length then (if es.isEmpty=true then dFn (mkX C (some i) (es.length+1+i.dfs.length - i.ps.length)) (Cn ds)
    else dFn (fun vs H Q E=>vs.length<=1000/\mkX C (some i) (es.length+1+i.dfs.length - i.ps.length) vs H Q E) (Cn ds)) else dNo)
  | some (.cls C oi)=>(match oi with
   | none=>if es.isEmpty=true then dFn (mkC C none 0) (Cn ds) else dNo
   | some i=>if es.length+1<=i.ps.length/\i.ps.length<=es.length+1+i.dfs.length then dFn (mkC C (some i) (es.length+1+i.dfs.length - i.ps.length)) (Cn ds) else dNo)
  | some _=>dNo
  | none=>if G.bl.contains x=true then (match a23 G.K G.calm x with
   | some (_,r)=>if es.isEmpty=true then dNo else dFn (fun vs H Q _=>r vs H Q) (Cn ds)
   | none=>dNo) else dNo) else dNo
noncomputable def aj4 (G:Sg) (o:Expr) (m:Str) (es:List Expr) (ap cp:Pos) (d:DE) (ds:List DE):DE:=
 if B4 o=true/\es.all noStar=true/\es.length<30/\(ap.endLine==cp.line)=true then (match B2 G.gb m with
  | none=>dMt (rMt G.K (mtR G.K m)) d (Cn ds)
  | some l=>Qv m es.length l d (Cn ds)) else dNo
noncomputable def ax5 (G:Sg) (o:Expr) (m:Str) (es:List Expr) (ap cp:Pos):Option FI:=match o with
 | .Name c _=>if m = "__init__" /\ He G c=true/\Bw G.N c 0=none/\es.isEmpty=false/\B4 o=true/\es.all noStar=true/\es.length<30/\(ap.endLine==cp.line)=true then (match G.gb.lookup c with
  | some (.ini _ i)=>if es.length<=i.ps.length/\i.ps.length<=es.length+i.dfs.length then some i else none
  | _=>none) else none
 | _=>none
noncomputable def ch9 (G:Sg) (tg o:Expr) (m:Str) (ap cp:Pos) (d dv:DE):DI:=match tg with
 | .Tuple _ _ _=>if m = "items" /\ B4 o=true/\(ap.endLine==cp.line)=true then bx1 d else D8 G.K dv
 | _=>D8 G.K dv
noncomputable def Tl (G:Sg) (o:Expr) (m:Str) (es:List Expr) (ap cp:Pos) (d:DE) (ds:List DE):DE:=match ax5 G o m es ap cp with
 | some i=>dFn (spE i.sp (i.dfs.drop (es.length+i.dfs.length - i.ps.length))) (Cn ds)
 | none=>aj4 G o m es ap cp d ds
noncomputable def Pe (G:Sg) (e:Expr):Option (List (Key×V)):=match e with
 | .Name x _=>if He G x=true then (match G.gb.lookup x with
  | some (.dic _ kvs)=>some kvs
  | _=>none) else none
 | _=>none
noncomputable def Uk (G:Sg) (ops:List iS) (bs:List Expr):Option (Bool×List (Key×V)):=match ops,bs with
 | [.In],[b]=>if cD .In b=false then (Pe G b).map fun k=>(false,k) else none
 | [.NotIn],[b]=>if cD .NotIn b=false then (Pe G b).map fun k=>(true,k) else none
 | _,_=>none
noncomputable def au9 (G:Sg) (x:Str) (es:List Expr):Bool:=(Bw G.N x 0).isSome && !es.isEmpty&&es.all noStar
mutual
noncomputable def wE:Nat->Sg->Expr->DE
 | 0,_,_=>dNo
 | n+1,G,e=>match e with
  | .Constant c _ _=>aj3 c
  | .Name x _=>Qo G x
  | .BinOp a op b _=>Ad (rOp G.K op) (wE n G a) (wE n G b)
  | .UnaryOp .USub a _=>dUn Fw (wE n G a)
  | .UnaryOp .Not a _=>Tz G.K (wE n G a)
  | .UnaryOp .Invert a _=>dUn af1 (wE n G a)
  | .BoolOp op es _=>Tw G.K op (es.map (wE n G))
  | .Compare a ops bs _=>match Uk G ops bs with
   | some (neg,kvs)=>dUn (Qa neg kvs) (wE n G a)
   | none=>W3 G ops bs (wE n G a) (bs.map (wE n G))
  | .IfExp t a b _=>bw2 (wT n G t) (wE n G a) (wE n G b)
  | .List es _=>if es.all noStar=true then Bm (Cn (es.map (wE n G))) else dNo
  | .Tuple es _ _=>if es.all noStar=true then A6 (Cn (es.map (wE n G))) else dNo
  | .Subscript a (.Slice lo hi none _) _=>dSl G.K (wE n G a) (match lo with|none=>Bu|some l=>Co (wE n G l)) (match hi with|none=>Bu|some h=>Co (wE n G h))
  | .Subscript a b _=>if Ez b=true then (match Pe G a with
   | some kvs=>dUn (aq0 kvs) (wE n G b)
   | none=>Ad (Ak G.K) (wE n G a) (wE n G b)) else dNo
  | .Attribute o f _=>if B4 o=true then dUn (Bf G.K f) (wE n G o) else dNo
  | .Call (.Name x _) es [] _=>if au9 G x es=true then a28 (Pk G.gb) es.length (Qo G x) (Cn (es.map (wE n G))) else aj2 G x es (es.map (wE n G))
  | .Dict ks vs _=>if ks.isEmpty=true/\vs.isEmpty=true then Ld else dNo
  | .Call (.Attribute o m ap) es [] cp=>Tl G o m es ap cp (wE n G o) (es.map (wE n G))
  | .ListComp elt [⟨tg,iter,ifs,0⟩] sc _=>if G.calm=true/\Ed G sc=true/\Iq iter=true then
    C5 (Es G sc.names) (wI n G tg iter) (wG n (Ch G sc.names) tg) (match ifs with | []=>Fn | [c]=>wT n (Ch G sc.names) c|_=>tNo) (wE n (Ch G sc.names) elt) else dNo
  | _=>dNo
noncomputable def wT:Nat->Sg->Expr->DT
 | 0,_,_=>tNo
 | n+1,G,e=>match e with
  | .UnaryOp .Not a _=>Cj (wT n G a)
  | .BoolOp op es _=>Tv op (es.map (wT n G))
  | .Compare a ops bs _=>match Uk G ops bs with
   | some (neg,kvs)=>Az (dUn (Qa neg kvs) (wE n G a))
   | none=>Az (W3 G ops bs (wE n G a) (bs.map (wE n G)))
  | .IfExp _ _ _ _=>tNo
  | e=>B8 G.K (wE n G e)
noncomputable def wI:Nat->Sg->Expr->Expr->DI
 | 0,_,_,_=>iNo
 | n+1,G,tg,e=>match e with
  | .Call (.Name x _) (a::es) [] _=>
   if x = "range" /\ He G x=true/\G.gb.lookup x=none/\G.bl.contains x=true/\(a::es).all noStar=true then Po (Cn ((a::es).map (wE n G)))
   else D8 G.K (wE n G e)
  | .Call (.Attribute o m ap) [] [] cp=>ch9 G tg o m ap cp (wE n G o) (wE n G e)
  | e=>D8 G.K (wE n G e)
end
theorem av5 {X:Cx} {e:Expr}:QT X e tNo:=fun _ _ _ _ _ _ _ _ h=>h.elim
theorem Bv {X:Cx} {w:Expr->DE} (h:∀ e,QE X e (w e)):∀ {es:List Expr},es.all noStar=true->QA X es (Cn (es.map w))
 | [],_=>ad7
 | e::es,hs=>by
  rw [bw,am] at hs
  exact Ut (h e) (Bv h hs.2) hs.1
theorem Na {X:Cx} {w:Expr->DE} {op:BoolOp} {pos:Pos} (h:∀ e,QE X e (w e)):∀ {es:List Expr},QE X (.BoolOp op es pos) (Tw X.K op (es.map w))
 | []=>Bl
 | [e]=>be4 (h e)
 | e::e'::es=>by
  cases op with
  | And=>exact bd0 (h e) (Na h)
  | Or=>exact b35 (h e) (Na h)
theorem Nc {X:Cx} {w:Expr->DT} {op:BoolOp} {pos:Pos} (h:∀ e,QT X e (w e)):∀ {es:List Expr},QW X (.BoolOp op es pos) (Tv op (es.map w))
 | []=>fun _ _ _ _ _ _ _ _ _ h=>h.elim
 | [e]=>by
  cases op with
  | And=>exact ap8 (h e)
  | Or=>exact bg2 (h e)
 | e::e'::es=>by
  cases op with
  | And=>exact bg1 (h e) (Nc h)
  | Or=>exact b38 (h e) (Nc h)
section
variable {X:Cx} {G:Sg}
theorem ap0 (O:GOk X G) {w:Expr->DE} (h:∀ e,QE X e (w e)) (a:Expr) (ops:List iS) (bs:List Expr) (pos:Pos):QE X (.Compare a ops bs pos) (W3 G ops bs (w a) (bs.map w)):=by
 unfold W3
 rw [<- O.K]
 split
 ·rename_i op b d e
  have:d=w b:=by simpa using e.symm
  subst this
  split
  ·exact bd4 O.units op (h a) (h b) ‹_›
  ·exact Bl
 ·rename_i op op' b c d d' e
  have:w b=d/\w c=d':=by simpa using e
  obtain⟨rfl,rfl⟩:=this
  split
  ·exact ae0 O.units op op' (h a) (h b) (h c) ‹_›
  ·exact Bl
 ·exact Bl
theorem ap7 (O:GOk X G) {w:Expr->DE} (h:∀ e,QE X e (w e)) (a:Expr) (ops:List iS) (bs:List Expr) (pos:Pos):QT X (.Compare a ops bs pos) (Az (W3 G ops bs (w a) (bs.map w))):=by
 unfold W3
 rw [<- O.K]
 split
 ·rename_i op b d e
  have:d=w b:=by simpa using e.symm
  subst this
  split
  ·exact bf7 O.units op (h a) (h b) ‹_›
  ·exact fun _ _ _ _ _ _ _ _ h=>h.elim
 ·rename_i op op' b c d d' e
  have:w b=d/\w c=d':=by simpa using e
  obtain⟨rfl,rfl⟩:=this
  split
  ·exact ae9 O.units op op' (h a) (h b) (h c) ‹_›
  ·exact fun _ _ _ _ _ _ _ _ h=>h.elim
 ·exact fun _ _ _ _ _ _ _ _ h=>h.elim
theorem ad9 (O:GOk X G) {w:Expr->DE} (h:∀ e,QE X e (w e)) (x:Str) (es:List Expr) (p pos:Pos):QE X (.Call (.Name x p) es [] pos) (aj2 G x es (es.map w)):=by
 unfold aj2
 split
 ·rename_i hh
  obtain⟨hg,_,hs⟩:=hh
  have dd:=Gi hg
  split
  ·rename_i i e
   obtain⟨hm,F⟩:=O.at_ x _ e
   split
   ·rename_i hl
    cases es with
    | nil=>exact ad8 F (by have:=hl.1;omega) (O.gl hg) hm dd.1
    | cons e es=>exact ao9 F (by have:=hl.1;omega) (O.gl hg) hm (Bv h hs) hs dd.1
   ·exact Bl
  ·rename_i C oi e
   obtain⟨hm,kp,c,hi⟩:=O.at_ x _ e
   split
   ·cases es with
    | nil=>exact Uw (j:=0) c hi (fun i z=>nomatch z) kp (O.gl hg) hm dd.1
    | cons e es=>exact Rl (j:=0) c hi (fun i z=>nomatch z) kp (O.gl hg) hm (Bv h hs) hs dd.1
   ·rename_i i
    split
    ·rename_i hl
     cases es with
     | nil=>exact Uw c hi (fun i z=>by cases z;have:=hl.1;omega) kp (O.gl hg) hm dd.1
     | cons e es=>exact Rl c hi (fun i z=>by cases z;have:=hl.1;omega) kp (O.gl hg) hm (Bv h hs) hs dd.1
    ·exact Bl
  ·rename_i C oi e
   obtain⟨hm,kp,hi⟩:=O.at_ x _ e
   split
   ·cases es with
    | nil=>exact Uv (j:=0) hi (fun i z=>nomatch z) kp (O.gl hg) hm dd.1
    | cons e es=>exact Bl
   ·rename_i i
    split
    ·rename_i hl
     cases es with
     | nil=>exact Uv hi (fun i z=>by cases z;have:=hl.1;omega) kp (O.gl hg) hm dd.1
     | cons e es=>exact be0 hi (fun i z=>by cases z;have:=hl.1;omega) kp (O.gl hg) hm (Bv h hs) hs dd.1
    ·exact Bl
  ·exact Bl
  ·rename_i e
   split
   ·rename_i hb
    split
    ·rename_i f r er
     split
     ·exact Bl
     ·rename_i hne
      cases es with
      | nil=>exact absurd rfl hne
      | cons e es=>
       rw [<- O.K] at er
       obtain⟨b1,b2⟩:=ak4 O.units er O.calm
       exact bd2 b2 (O.gl hg) (O.bl x hb) b1 (Bv h hs) hs dd.2.2 dd.1
    ·exact Bl
   ·exact Bl
 ·exact Bl
theorem ae2 (O:GOk X G) {w:Expr->DE} (h:∀ e,QE X e (w e)) (o:Expr) (m:Str) (es:List Expr) (ap cp:Pos):QE X (.Call (.Attribute o m ap) es [] cp) (aj4 G o m es ap cp (w o) (es.map w)):=by
 unfold aj4
 rw [<- O.K]
 split
 ·rename_i hh
  obtain⟨h1,h2,h3,h4⟩:=hh
  split
  ·cases es with
   | nil=>exact be1 (fun b hb=>ab4 O.units hb) (h o) h1 h4
   | cons e es=>exact b34 (fun b hb=>ab4 O.units hb) (h o) (Bv h h2) h1 h2 h3 h4
  ·rename_i l e
   cases es with
   | nil=>exact ap2 (O.met m l e) (h o) h1 h4
   | cons e es=>exact be5 (O.met m l ‹_›) (h o) (Bv h h2) h1 h2 h3 h4
 ·exact Bl
end
theorem ae1 {X:Cx} {G:Sg} (O:GOk X G) {w:Expr->DE} (h:∀ e,QE X e (w e)) (o:Expr) (m:Str) (es:List Expr) (ap cp:Pos):QE X (.Call (.Attribute o m ap) es [] cp) (Tl G o m es ap cp (w o) (es.map w)):=by
 unfold Tl
 split
 ·rename_i i e
  unfold ax5 at e
  split at e
  ·rename_i c p
   split at e
   ·rename_i hh
    obtain⟨rfl,h1,h2,h3,h4,h5,h6,h7⟩:=hh
    split at e
    ·rename_i C i' eg
     split at e
     ·rename_i hl
      cases e
      obtain⟨g1,g2,g3⟩:=O.at_ c _ eg
      have hn:QE X (.Name c p) (dC (.ref C)):=by
       have q:=Nb O c p
       unfold Qo at q
       rw [h2] at q
       simp only [h1,if_true,eg] at q
       exact q
      cases es with
      | nil=>cases h3
      | cons e es=>exact bd6 hn g2 g3 hl (Bv h h5) h4 h5 h6 h7
     ·cases e
    ·cases e
   ·cases e
  ·cases e
 ·exact ae2 O h o m es ap cp
theorem Ib {X:Cx} {G:Sg} (O:GOk X G) {e:Expr} {kvs:List (Key×V)} (h:Pe G e=some kvs):∃ x p a,e=.Name x p/\Hs X.prog X.w X.K a kvs/\QE X (.Name x p) (dC (.ref a)):=by
 unfold Pe at h
 split at h
 ·rename_i x p
  split at h
  ·rename_i hg
   split at h
   ·rename_i a kvs' e
    cases h
    obtain⟨hm,k⟩:=O.at_ x _ e
    exact⟨x,p,a,rfl,k,fun Ex m=>Fv (O.gl hg) hm rfl (Gi hg).1⟩
   ·cases h
  ·cases h
 ·cases h
theorem Pw {X:Cx} {G:Sg} (O:GOk X G) {ops:List iS} {bs:List Expr} {neg:Bool} {kvs:List (Key×V)} (h:Uk G ops bs=some (neg,kvs)):∃ x p a,ops=[if neg then .NotIn else .In]/\bs=[.Name x p]/\Hs X.prog X.w X.K a kvs/\QE X (.Name x p) (dC (.ref a))/\cD (if neg then .NotIn else .In) (.Name x p)=false:=by
 unfold Uk at h
 split at h
 ·split at h
  ·rename_i hb
   obtain⟨k,hk,e⟩:=Option.map_eq_some_iff.mp h
   cases e
   obtain⟨x,p,a,rfl,h1,h2⟩:=Ib O hk
   exact⟨x,p,a,rfl,rfl,h1,h2,hb⟩
  ·cases h
 ·split at h
  ·rename_i hb
   obtain⟨k,hk,e⟩:=Option.map_eq_some_iff.mp h
   cases e
   obtain⟨x,p,a,rfl,h1,h2⟩:=Ib O hk
   exact⟨x,p,a,rfl,rfl,h1,h2,hb⟩
  ·cases h
 ·cases h
theorem bu9:∀ (n:Nat) (X:Cx) (G:Sg),GOk X G->(∀ e,QE X e (wE n G e))/\(∀ e,QT X e (wT n G e))/\(∀ tg e,QI X tg e (wI n G tg e)):=by
 intro n
 induction n with
 | zero=>
  intro X G O
  refine⟨fun e=>?_,fun e=>?_,fun tg e=>?_⟩
  ·unfold wE;exact Bl
  ·unfold wT;exact av5
  ·unfold wI;exact b36
 | succ n ih=>
  intro X G O
  obtain⟨hE,hT,hI⟩:=ih X G O
  have hv:∀ tg e,QI X tg e (D8 G.K (wE n G e)):=fun tg e=>by rw [<- O.K];exact be8 (hE e)
  refine⟨fun e=>?_,fun e=>?_,fun tg e=>?_⟩
  ·unfold wE
   split
   ·exact P7 _ _ _
   ·exact Nb O _ _
   ·rw [<- O.K];exact bd1 _ (hE _) (hE _)
   ·exact be2 (hE _)
   ·rw [<- O.K];exact be3 (hE _)
   ·exact bd7 (hE _)
   ·rw [<- O.K];exact Na hE
   ·split
    ·rename_i neg kvs e
     obtain⟨x,p,a,rfl,rfl,h1,h2,h3⟩:=Pw O e
     exact bd5 h1 h2 (hE _) h3
    ·exact ap0 O hE _ _ _ _
   ·exact b32 (hT _) (hE _) (hE _)
   ·split
    ·exact bd9 (Bv hE ‹_›)
    ·exact Bl
   ·split
    ·exact be6 (Bv hE ‹_›)
    ·exact Bl
   ·rw [<- O.K]
    refine ae3 (hE _) ?_ ?_
    ·split
     ·exact Ux
     ·exact Uy (hE _)
    ·split
     ·exact Ux
     ·exact Uy (hE _)
   ·split
    ·rename_i hs
     split
     ·rename_i kvs e
      obtain⟨x,p,a,rfl,h1,h2⟩:=Ib O e
      exact bd8 h1 h2 (hE _) hs
     ·rw [<- O.K];exact b33 O.units (hE _) (hE _) hs
    ·exact Bl
   ·split
    ·rw [<- O.K];exact ao8 (hE _) (Da ‹_› _ X.env _)
    ·exact Bl
   ·split
    ·rename_i x p es pos hl
     unfold au9 at hl
     rw [am,am] at hl
     cases es with
     | nil=>cases hl.1.2
     | cons e es=>exact bd3 (fun i hi=>O.fns hi) (Nb O x p) (Bv hE hl.2) hl.2
    ·exact ad9 O hE _ _ _ _
   ·rename_i ks vs p0
    split
    ·rename_i hh
     have e1:ks=[]:=by simpa using hh.1
     have e2:vs=[]:=by simpa using hh.2
     subst e1 e2
     exact ap1
    ·exact Bl
   ·exact ae1 O hE _ _ _ _ _
   ·split
    ·rename_i hh
     obtain⟨h1,h2,h3⟩:=hh
     refine Uu O (O.calm▸h1) h2 h3 (hI _ _) (fun X' O'=>Qn n X' _ O' _) (fun X' O'=>?_) (fun X' O'=>(ih X' _ O').1 _)
     split
     ·exact P8
     ·exact P9 ((ih X' _ O').2.1 _)
     ·exact fun _ _ _ _ _ _ _ _ h=>h.elim
    ·exact Bl
   ·exact Bl
  ·unfold wT
   split
   ·exact bf9 (hT _)
   ·exact fun Ex m=>PW.pt (Nc hT Ex m)
   ·split
    ·rename_i neg kvs e
     obtain⟨x,p,a,rfl,rfl,h1,h2,h3⟩:=Pw O e
     exact bf8 h1 h2 (hE _) h3
    ·exact ap7 O hE _ _ _ _
   ·exact av5
   ·rename_i h1 h2 h3 h4
    rw [<- O.K]
    refine bg0 (hE _) ?_
    cases e with
    | UnaryOp op a p=>cases op <;> first|rfl|exact absurd rfl (h1 _ _)
    | BoolOp op es p=>exact absurd rfl (h2 _ _ _)
    | Compare a b c p=>exact absurd rfl (h3 _ _ _ _)
    | IfExp a b c p=>exact absurd rfl (h4 _ _ _ _)
    | _=>rfl
  ·unfold wI
   split
   ·split
    ·rename_i hh
     obtain⟨rfl,h1,_,h2,h3⟩:=hh
     exact ae5 (O.gl h1) (O.bl _ h2) (Bv hE h3) h3
    ·exact hv _ _
   ·unfold ch9
    split
    ·split
     ·rename_i hh
      obtain⟨rfl,h1,h2⟩:=hh
      exact ae4 (hE _) h1 h2
     ·exact hv _ _
    ·exact hv _ _
   ·exact hv _ _
noncomputable def Cx.tr (X:Cx) (pn:List (Addr×Obj)) (xe:Value->ah->Prop):Cx:={ X with pn:=pn,xe:=xe }
noncomputable def Cx.hd (X:Cx) (a:Addr):Cx:={ X with A:=X.A.mark (some (.ref a)),calm:=false,xe:=fun _ _=>False }
section
variable {X:Cx} {pins pins':List (Addr×Obj)} {σ:St} {H:Hp} {s:ah} {a C:Addr} {dx:Option Addr} {xe:Value->ah->Prop}
theorem bz3 {pn:List (Addr×Obj)} (o:X.Ok):(X.tr pn xe).Ok:=⟨o.mod,o.kind,o.glob,o.blt,o.above,o.inj,o.has,o.cab,o.hd,o.frames,o.stk,o.exf,o.bs,o.bsz,o.noex,o.exfs,o.funs,o.frf,o.tk⟩
theorem am8 {pn:List (Addr×Obj)} (o:(X.tr pn xe).Ok):X.Ok:=⟨o.mod,o.kind,o.glob,o.blt,o.above,o.inj,o.has,o.cab,o.hd,o.frames,o.stk,o.exf,o.bs,o.bsz,o.noex,o.exfs,o.funs,o.frf,o.tk⟩
theorem a50 (I:Inv X pins σ H s):Inv (X.tr (X.pn++pins) xe) [] σ H s:=
 ⟨bz3 I.ok,I.os,I.bare,I.base,I.loc,I.cell,I.free,I.freeC,fun p hp=>I.pin p (by rw [eW] at hp;exact hp),I.hok,I.len⟩
theorem Ei (I:Inv (X.tr (X.pn++pins) xe) pins' σ H s):Inv X pins σ H s:=
 ⟨am8 I.ok,I.os,I.bare,I.base,I.loc,I.cell,I.free,I.freeC,fun p hp=>I.pin p (dH _ hp),I.hok,I.len⟩
theorem Zm (F:E5 (X.tr (X.pn++pins) xe) pins' H a s):E5 X pins H a s:=by
 obtain⟨C,dx,vs,h1,h2,h3,h4⟩:=F
 refine⟨C,dx,vs,h1,h2,h3,h4.imp id fun⟨T,oT,ts,q1,q2,q3,q4,q5,q6⟩=>⟨T,oT,ts,q1,q2,q3,q4,q5,?_⟩⟩
 obtain⟨r1,r2,r3,r4,r5,r6⟩:=q6
 exact⟨r1,r2,r3,r4,r5,fun p hp=>r6 p (dH _ hp)⟩
theorem ar3 {D:Kr} {f:Flow} (h:SP (X.tr (X.pn++pins) xe) pins' D f s):SP X pins D f s:=by
 cases f with
 | next=>obtain⟨σ',H',I,q⟩:=h;exact⟨σ',H',Ei I,q⟩
 | brk=>obtain⟨σ',H',I,q⟩:=h;exact⟨σ',H',Ei I,q⟩
 | cont=>obtain⟨σ',H',I,q⟩:=h;exact⟨σ',H',Ei I,q⟩
 | ret u=>obtain⟨v,σ',H',I,r,q⟩:=h;exact⟨v,σ',H',Ei I,r,q⟩
theorem Gh (I:Inv X pins σ H s):Inv (X.hd a) pins σ H s:=
 ⟨⟨I.ok.mod,I.ok.kind,I.ok.glob,I.ok.blt,I.ok.above,I.ok.inj,I.ok.has,I.ok.cab,(fun z=>by cases z),I.ok.frames,I.ok.stk,I.ok.exf,I.ok.bs,I.ok.bsz,I.ok.noex,I.ok.exfs,I.ok.funs,I.ok.frf,I.ok.tk⟩,I.os,I.bare,I.base,I.loc,I.cell,I.free,I.freeC,I.pin,I.hok,I.len⟩
theorem Dq (o:X.Ok) (I:Inv (X.hd a) pins σ H s):Inv X pins σ H s:=⟨o,I.os,I.bare,I.base,I.loc,I.cell,I.free,I.freeC,I.pin,I.hok,I.len⟩
theorem U8 {D:Kr} {f:Flow} (o:X.Ok) (h:SP (X.hd a) pins D f s):SP X pins D f s:=by
 cases f with
 | next=>obtain⟨σ',H',I,q⟩:=h;exact⟨σ',H',Dq o I,q⟩
 | brk=>obtain⟨σ',H',I,q⟩:=h;exact⟨σ',H',Dq o I,q⟩
 | cont=>obtain⟨σ',H',I,q⟩:=h;exact⟨σ',H',Dq o I,q⟩
 | ret u=>obtain⟨v,σ',H',I,r,q⟩:=h;exact⟨v,σ',H',Dq o I,r,q⟩
end
inductive HK where
 | no
 | as (i:Nat)
 | up (T:Addr)
noncomputable def asD (a:Addr) (u:DS):HK->DS
 | .no=>fun D σ H=>u { D with ex:=fun _ _ _=>False } σ H
 | .up T=>fun D σ H=>(∃ C dx,H a=some (flO a C dx)) /\ ∀ b,H b=none->D.ex σ b (upd H b (fcO b T none))
 | .as i=>fun D σ H=>u ⟨fun σ' H'=>D.nx (σ'.set i none) H',D.rt,fun σ' H'=>D.bk (σ'.set i none) H',fun σ' H'=>D.ct (σ'.set i none) H',fun _ _ _=>False⟩ (σ.set i (some (.ref a))) H
noncomputable def Mg (K:aa) (C a:Addr):List (Addr×HK×DS)->Cy->St->Hp->Prop
 | [],_,_,_=>False
 | (T,oi,u)::r,D,σ,H=>∃ b,cZ K C (.ref T)=some b/\(if b=true then asD a u oi D σ H else Mg K C a r D σ H)
noncomputable def a29 (K:aa) (tb:DS) (us:List (Addr×HK×DS)):DS:=fun D σ H=>tb { D with ex:=fun σ' a H'=>∃ C dx,FlO H' a C dx/\ECls K C/\Mg K C a us D σ' H' } σ H
inductive W4 (X:Cx):Option Str->HK->Prop where
 | no:W4 X none .no
 | as {n:Str} {i:Nat} (hN:X.N.Nodup) (hi:X.N[i]? = some n) (hl:X.env.scope.names.lookup n=some .local):W4 X (some n) (.as i)
inductive Nx (X:Cx):List ExceptHandler->List (Addr×HK×DS)->Prop where
 | nil:Nx X [] []
 | cons {x:Str} {p pos:Pos} {nm:Option Str} {oi:HK} {b:Stmt} {suite:List Stmt} {rest:List ExceptHandler} {T:Addr} {u:DS} {us:List (Addr×HK×DS)} (hg:Gl X x) (hm:X.mg x=some (.ref T)) (hd:(x==("__debug__" : Str))=false) (ec:ECls X.K T) (ha:W4 X nm oi) (hs:∀ a,QSs (X.hd a) (b::suite) u) (r:Nx X rest us) :
   Nx X (.ExceptHandler (some (.Name x p)) nm (b::suite) pos::rest) ((T,oi,u)::us)
 | up {x y z:Str} {p p1 p2 p3 p4 p5 pos:Pos} {k k2:Nat} {rest:List ExceptHandler} {T T':Addr} {u:DS} {us:List (Addr×HK×DS)} (hg:Gl X x) (hm:X.mg x=some (.ref T)) (hd:(x==("__debug__" : Str))=false) (ec:ECls X.K T)
   (hgy:Gl X y) (hmy:X.mg y=some (.ref T')) (hdy:(y==("__debug__" : Str))=false) (ecy:ECls X.K T') (kpy:aj X.K (.ref T')=true) (iny:E9 X T' none) (r:Nx X rest us) :
   Nx X (.ExceptHandler (some (.Name x p)) none [.Raise (some (.Call (.Name y p1) [.Constant (.str z) k p2] [] p3)) (some (.Constant .none k2 p4)) p5] pos::rest) ((T,.up T',u)::us)
theorem Kv:entryFor table "proto.unchain" = some aY.«proto.unchain»:=entryFor_of_fast (by kernel_rfl)
theorem Qc {prog:aI} {w:bq} {A:bt} {E:Value->ah->Prop} {s:ah} {Q:Flow->ah->Prop} {e a:Addr} {oa oe:Obj} {va ve:Array Value} (hh:A.handled=some (.ref a)) (ne:a≠e) (ha:s.heap.get? a=some oa) (hda:oa.data=.fields va) (h2:va[2]? = some .none)
  (he:s.heap.get? e=some oe) (hde:oe.data=.fields ve) (hz:2<ve.size) (h:E (.ref e) { s with heap:=s.heap.update e (bC (·.setIfInBounds 2 (.ref a))) }):aS (model prog w) A (raiseNew (.ref e):Sem Flow) Q E s:=by
 unfold raiseNew
 refine af (wpAny_handled ?_)
 rw [hh]
 have hne:(aC a != aC e)=true:=by simpa using ne
 simp only [hne,if_true]
 refine af (bR (wpAny_runValue (codeAny_builtin Kv ?_)))
 unfold aY.«proto.unchain»
 refine af (b8 ha hda h2 ?_)
 rw [if_pos (by rfl)]
 refine al ?_
 show aS (model prog w) A (setField (.ref e) 2 (.ref a) >>= fun _=>throw (.ref e)) Q E s
 refine af (fG he hde hz ?_)
 exact wpAny_throw h
section
variable {X:Cx} {pins:List (Addr×Obj)}
theorem af5 {σ:St} {H:Hp} {s1:ah} {a C1 T':Addr} {dx1:Option Addr} {y z:Str} {p1 p2 p3 p4 p5:Pos} {k k2:Nat} {Qf:Flow->ah->Prop} {Ee:Value->ah->Prop} (I1:Inv X pins σ H s1) (ea:H a=some (flO a C1 dx1))
  (hgy:Gl X y) (hmy:X.mg y=some (.ref T')) (hdy:(y==("__debug__" : Str))=false) (ecy:ECls X.K T') (kpy:aj X.K (.ref T')=true) (iny:E9 X T' none)
  (hE:∀ b s',H b=none->Inv X pins σ (upd H b (fcO b T' none)) s'->E5 X pins (upd H b (fcO b T' none)) b s'->Ee (.ref b) s') :
  aS (model X.prog X.w) (X.A.mark (some (.ref a))) (exec (.Raise (some (.Call (.Name y p1) [.Constant (.str z) k p2] [] p3)) (some (.Constant .none k2 p4)) p5) X.env) Qf Ee s1:=by
 have he:QE (X.hd a) (.Call (.Name y p1) [.Constant (.str z) k p2] [] p3) _:=Rl (X:=X.hd a) (oi:=none) (j:=0) (r:=Aa (dC (.str z)) Ae) ecy iny (fun i h=>by cases h) kpy hgy hmy (Ut (P7 (.str z) k p2) ad7 rfl) rfl hdy
 rw [arm_exec_Raise]
 show aS _ _ (do iF p5;iZ X.env (some (do let v <- eval (.Call (.Name y p1) [.Constant (.str z) k p2] [] p3) X.env;iF p5;pure v)) (some (do let v <- eval (.Constant .none k2 p4) X.env;iF p5;pure v))) _ _ _
 refine af (c6 ?_)
 unfold iZ
 refine af (af (cg (he _ El pins s1 σ H (fun x H1=>∃ b,x=.ref b/\H b=none/\H1=upd H b (E2 b T' none)) (Gh I1) ⟨by simp,fun b hb=>⟨b,rfl,hb,rfl⟩⟩) (fun v s2 ⟨x,H1,I2,r1,b,e1,hb,e2⟩=>af (c6 (al ?_))) fun _ _ z=>z.elim))
 subst e1 e2
 cases r1
 have I2:=Dq I1.ok I2
 obtain⟨vs,g1,g2,g3,g4⟩:=Ic I2 Af
 obtain⟨nm,qn,N,bs,bm,hdct,sn,sub,ab,col,dd,k0,k1,k2',k3,k5,hl,ht,hd⟩:=ecy.obj
 have hC:=I2.kIn _ _ hl
 have hb0:bm.contains (.type "BaseException")=true:=Bp ht (by decide +kernel)
 have hcB:(aC T'::bm).contains (.type "BaseException")=true:=by rw [a0,hb0,cR]
 have nab:a≠b:=fun z=>by rw [z,hb] at ea;cases ea
 obtain⟨va,ga1,ga2,ga3⟩:=Zl I2 (a:=a) (C:=C1) (dx:=dx1) (by rw [Ap nab];exact ea)
 obtain⟨hp,g,d,tk,os⟩:=s2
 repeat (first|with_reducible refine b8 g1 rfl g3 ?_|with_reducible refine a_ g1 ?_|with_reducible refine a_ hC ?_|(with_reducible refine bQ hC ?_;rw [hcB])|wp_step)
 have nTb:T'≠b:=fun z=>by
  rw [z] at hC
  rw [hC] at g1
  have:=congrArg (fun o=>o.map Obj.data) g1
  simp [c5] at this
 have q3:(hp.update b (bC fun x=>x.setIfInBounds 3 cP)).get? b=some (Au T' none (vs.setIfInBounds 3 .none)):=bN _ g1 (cA (vs:=vs.setIfInBounds 3 .none) rfl)
 have q4:((hp.update b (bC fun x=>x.setIfInBounds 3 cP)).update b (bC fun x=>x.setIfInBounds 4 (eT true))).get? b=some (Au T' none ((vs.setIfInBounds 3 .none).setIfInBounds 4 (.bool true))):=bN _ q3 (cA (vs:=(vs.setIfInBounds 3 .none).setIfInBounds 4 (.bool true)) rfl)
 have keep:∀ c u,c≠b->hp.get? c=some u->((hp.update b (bC fun x=>x.setIfInBounds 3 cP)).update b (bC fun x=>x.setIfInBounds 4 (eT true))).get? c=some u:=fun c u ne e=>(bb _ _ ne.symm).trans ((bb _ _ ne.symm).trans e)
 have hC2:=keep _ _ nTb hC
 have ga':=keep _ _ nab ga1
 have w1:((vs.setIfInBounds 3 .none).setIfInBounds 4 (.bool true))[1]? = some cP:=by rw [bZ (by decide),bZ (by decide)];exact g3
 have wz:((vs.setIfInBounds 3 .none).setIfInBounds 4 (.bool true)).size=6:=by rw [cJ,cJ];exact g2
 generalize ((vs.setIfInBounds 3 .none).setIfInBounds 4 (.bool true))=v2 at q4 w1 wz
 generalize (hp.update b (bC fun x=>x.setIfInBounds 3 cP)).update b (bC fun x=>x.setIfInBounds 4 (eT true))=hp2 at q4 keep hC2 ga' ⊢
 repeat (first|with_reducible refine b8 q4 rfl w1 ?_|with_reducible refine a_ q4 ?_|with_reducible refine a_ hC2 ?_|wp_step)
 have q5:(hp2.update b (bC fun x=>x.setIfInBounds 2 (.ref a))).get? b=some (Au T' none (v2.setIfInBounds 2 (.ref a))):=bN _ q4 (cA (vs:=v2.setIfInBounds 2 (.ref a)) rfl)
 have wz5:(v2.setIfInBounds 2 (.ref a)).size=6:=by rw [cJ];exact wz
 have w5:(v2.setIfInBounds 2 (.ref a))[1]? = some cP:=by rw [bZ (by decide)];exact w1
 refine Qc rfl nab ga' rfl ga3 q4 rfl (by rw [wz];decide) ?_
 have I3:Inv X pins σ (upd H b (fcO b T' none)) { heap:=hp2.update b (bC fun x=>x.setIfInBounds 2 (.ref a)),gens:=g,drawn:=d,toks:=tk,os:=os }:=by
  have:=I2.write (x:=b) (e:=b) (h':=hp2.update b (bC fun x=>x.setIfInBounds 2 (.ref a))) (t':=tk) (o:=fcO b T' none) (by rw [Af];exact bn) (.inl rfl) (fun c u ne z=>(bb _ _ ne.symm).trans (keep c u ne z)) ⟨_,q5⟩ (Zg q5 wz5)
  rw [Ho] at this
  exact this
 exact hE b _ hb I3 ⟨T',none,_,.inr Af,q5,wz5,.inl w5⟩
theorem Ey {M:Model} {A:bt} {E:Value->ah->Prop} {σ:St} {H:Hp} {s:ah} {i:Nat} {x:Str} {pos:Pos} {Q:Unit->ah->Prop} (I:Inv X pins σ H s) (hN:X.N.Nodup) (hi:X.N[i]? = some x) (hk:X.env.scope.names.lookup x=some .local)
  (h:∀ s',Inv X pins (σ.set i none) H s'->Q () s'):aS M A (do bindName X.env x .none;unbindBehindTheSuite X.env x pos) Q E s:=by
 obtain⟨m,hn,hl⟩:=id I.loc
 refine wpAny_nameGoes_keeps hk hn (by rw [I.ok.kind];rfl) fun h' v hn' sb=>h _ ?_
 have old:∀ {b o},X.s₀.heap.get? b=some o->h'.get? b=s.heap.get? b:=fun {b o} e=>sb.2 b (bi (aD (aJ e) I.ok.above))
 exact {
  ok:=I.ok
  os:=⟨I.os.1,Nat.le_succ_of_le I.os.2⟩
  bare:=I.bare
  base:={ I.base with
   keep:=fun b o e n hb hx=>by show h'.get? b=_;rw [old e];exact I.base.keep b o e n hb hx
   slot:=fun b o e n hb hx=>by show ∃ sl,h'.get? b=_;rw [old e];exact I.base.slot b o e n hb hx
   there:=fun b o e hx=>by show ∃ o',h'.get? b=_;rw [old e];exact I.base.there b o e hx }
  loc:=⟨_,hn',fun j y w e1 e2 e3=>by
   have hj:j≠i:=fun z=>by
    have lt:i<σ.length:=by rw [I.len];exact (List.getElem?_eq_some_iff.mp hi).1
    rw [z,dg lt] at e2
    cases e2
   rw [dG (dj hj)] at e2
   obtain⟨u,r,q⟩:=hl j y w e1 e2 e3
   have ny:y≠x:=fun z=>hj (Iv hN e1 (z▸hi))
   refine⟨u,r,q.imp (fun⟨k,e⟩=>⟨k,(if_neg ny).trans e⟩) fun⟨k,c,e,z⟩=>⟨k,c,e,z.sameBut sb (I.cne y c e)⟩⟩⟩
  cell:=fun y c e=>let ⟨w,z⟩:=I.cell y c e;⟨w,z.sameBut sb (I.cne y c e)⟩
  free:=I.free
  freeC:=I.freeC
  pin:=fun p hp=>let ⟨e,n,ne,nf,d⟩:=I.pin p hp;⟨(sb.2 p.1 ne).trans e,n,ne,nf,d⟩
  hok:=fun b ob e=>(I.hok b ob e).stay (fun c w hc q=>(sb.2 c (by
   rintro rfl
   have f:=I.free
   rcases hc with rfl|hc
   ·rw [f] at e;cases e
   ·rw [f] at hc;cases hc)).trans q) (fun _ q=>q) fun _ _ q=>q
  len:=by rw [bO];exact I.len }
theorem V9 (hst:X.stack=X.env::X.outer) (hfr:X.env.frame=some X.env.locals) {Ex:St->EK} (mt:Meets X Ex) {D:Kr} {hl:List ExceptHandler} {us:List (Addr×HK×DS)} (K:Nx X hl us):∀ {σ:St} {H:Hp} {s:ah} {a C:Addr} {dx:Option Addr},Inv X pins σ H s->E5 X pins H a s->FlO H a C dx->ECls X.K C->Mg X.K C a us (an6 Ex D) σ H ->
  aS (model X.prog X.w) X.A (handleBy (.ref a) X.env hl) (SP X pins D) X.xe s:=by
 induction K with
 | nil=>intro σ H s a C dx I F e ec h;exact h.elim
 | @cons x p pos nm oi b suite rest T u us hg hm hd ecT ha hs r ih=>
  intro σ H s a C dx I F e ec h
  obtain⟨m,hm2,h⟩:=h
  have hx:∃ vs:Array Value,s.heap.get? a=some (Au C dx vs):=by
   obtain⟨vs,z,_⟩:=Ue I (.inr e)
   exact⟨vs,z⟩
  obtain⟨vs,hx⟩:=hx
  refine ig (gM (C2 (X:=X.hd a) (Gh I) hg hm ?_ hd)) (by intro q;cases q)
  refine Io (A:=(X.hd a).A) I.kIn ec ecT hx hm2 ?_
  cases m with
  | false=>exact ih I F e ec h
  | true=>
   cases ha with
   | no=>
    refine gu (Gf (A:=(X.hd a).A) I F fun s1 I1 F1=>?_)
    exact cg (hs a (fun _ _ _=>False) El pins s1 σ H D (Gh I1) h) (fun f s2 q=>U8 I.ok q) fun _ _ z=>z.elim
   | @as n i hN hi hlo=>
    refine codeAny_handlers_suite_as (Gf (A:=(X.hd a).A) I F fun s1 I1 F1=>?_)
    refine Fy (i:=i) (v:=.ref a) I1 hN hi (.inl hlo) rfl (fun s2 I2=>?_) (.inr hlo)
    refine cg (hs a (fun _ _ _=>False) El pins s2 (σ.set i (some (.ref a))) H ⟨fun σ' H'=>D.nx (σ'.set i none) H',D.rt,fun σ' H'=>D.bk (σ'.set i none) H',fun σ' H'=>D.ct (σ'.set i none) H'⟩ (Gh I2) h) (fun f s3 q=>?_) fun _ _ z=>z.elim
    have q:=U8 I.ok q
    cases f with
    | next=>obtain⟨σ',H',I',q⟩:=q;exact Ey I' hN hi hlo fun s4 I4=>⟨_,H',I4,q⟩
    | brk=>obtain⟨σ',H',I',q⟩:=q;exact Ey I' hN hi hlo fun s4 I4=>⟨_,H',I4,q⟩
    | cont=>obtain⟨σ',H',I',q⟩:=q;exact Ey I' hN hi hlo fun s4 I4=>⟨_,H',I4,q⟩
    | ret w=>obtain⟨v,σ',H',I',r,q⟩:=q;exact Ey I' hN hi hlo fun s4 I4=>⟨v,_,H',I4,r,q⟩
 | @up x y z p p1 p2 p3 p4 p5 pos k k2 rest T T' u us hg hm hd ecT hgy hmy hdy ecy kpy iny r ih=>
  intro σ H s a C dx I F e ec h
  obtain⟨m,hm2,h⟩:=h
  obtain⟨vs,hx,_⟩:=Ue I (.inr e)
  refine ig (gM (C2 (X:=X.hd a) (Gh I) hg hm ?_ hd)) (by intro q;cases q)
  refine Io (A:=(X.hd a).A) I.kIn ec ecT hx hm2 ?_
  cases m with
  | false=>exact ih I F e ec h
  | true=>
   refine gu (Gf (A:=(X.hd a).A) I F fun s1 I1 F1=>?_)
   obtain⟨⟨C1,dx1,ea⟩,hE⟩:=h
   refine wpAny_execs_cons (af5 I1 ea hgy hmy hdy ecy kpy iny fun b s2 hb I2 F2=>?_)
   refine ac0 (X:=X.hd a) (Gh I2) hst hfr hfr F2 fun s3 z I3 F3=>?_
   have I3:=Dq I.ok I3
   have F3:FlyT X pins (upd H b (fcO b T' none)) b s3 z:=F3
   obtain⟨Cb,dxb,vb,Tb,oT,ts,h1,h2,h3,q1,q2,q3,q4,q5,q6⟩:=id F3
   refine af (b8 h2 rfl q1 ?_)
   rw [if_neg (by simp)]
   refine U5 I3 F3 fun s4 I4 F4=>?_
   exact mt pins σ _ s4 b I4 F4.at (hE b hb)
theorem bf6 {Y:Cx} {body:List Stmt} {h0:ExceptHandler} {hs:List ExceptHandler} {pos:Pos} {tb:DS} {us:List (Addr×HK×DS)} (hst:Y.stack=Y.env::Y.outer) (hfr:Y.env.frame=some Y.env.locals)
  (hb:∀ pn xe,eZ (model Y.prog Y.w) Y.A Y.env xe->QSs (Y.tr pn xe) body tb) (hh:Nx Y (h0::hs) us):QS Y (.Try body (h0::hs) [] [] pos) (a29 Y.K tb us):=by
 intro Ex m pins s σ H D I hw
 refine wpAny_Try_except ?_
 refine cg (hb (Y.pn++pins) (fun e s1=>aS (model Y.prog Y.w) Y.A (ir e Y.env) (fun _ s2=>aS (model Y.prog Y.w) Y.A (gN e none) (fun _ s3=>aS (model Y.prog Y.w) Y.A (handleBy e Y.env (h0::hs)) (SP Y pins D) Y.xe s3) Y.xe s2) Y.xe s1) PassesOwn.looking
  (fun σ' a H'=>∃ C dx,FlO H' a C dx/\ECls Y.K C/\Mg Y.K C a us (an6 Ex D) σ' H') ?_ [] s σ H D (a50 I) hw) (fun f s1 q=>?_) fun _ _ z=>z
 ·intro pins' σ' H' s' a I' F' ⟨C,dx,e,ec,h⟩
  exact Uq (Ei I') hst hfr (Zm F') fun s2 I2 F2=>V9 hst hfr m hh I2 F2.at e ec h
 ·have q:=ar3 q
  cases f with
  | next=>exact gO q
  | _=>exact q
end
noncomputable def Gk:Expr->Bool
 | .ListComp _ _ _ _=>false
 | .SetComp _ _ _ _=>false
 | .DictComp _ _ _ _ _=>false
 | _=>true
theorem Gm {e:Expr} (h:Gk e=true) (t:Option Expr) (l:Nat) (env:Env):fO e t l env=pure false:=by
 cases e with
 | ListComp _ _ _ _=>cases h
 | SetComp _ _ _ _=>cases h
 | DictComp _ _ _ _ _=>cases h
 | _=>rfl
section
variable {X:Cx} {G:Sg} {st:Stmt} {rest:List Stmt} {t u:DS} {e:Expr} {de:DE} {pos p':Pos}
theorem Br:QS X st B7:=fun _ _ _ _ _ _ _ _ h=>h.elim
theorem ap6:QSs X [] Ah:=fun _ _=>ao6
theorem ae8 (h1:QS X st t) (h2:QSs X rest u):QSs X (st::rest) (Ag t u):=fun Ex m=>ad6 (h1 Ex m) (h2 Ex m)
theorem ap4:QS X (.Pass pos) Ah:=fun _ _=>ao4
theorem bf0:QS X (.Break pos) bw0:=fun _ _=>ad4
theorem bf1:QS X (.Continue pos) bw1:=fun _ _=>P6
theorem bf4 (h:QE X e de):QS X (.Return (some e) pos) (Am de):=fun Ex m=>bc5 (h Ex m)
theorem ap5:QS X (.Return none pos) as4:=fun _ _=>ao5
theorem ap3 (h:QE X e de) (hn:Gk e=true):QS X (.Expr e pos) (Bo de):=fun Ex m=>ao3 (h Ex m) (Gm hn _ _ _)
theorem b37 {c:Expr} {a b:List Stmt} {tc:DT} (hc:QT X c tc) (ha:QSs X a t) (hb:QSs X b u):QS X (.If c a b pos) (dIf tc t u):=fun Ex m=>b30 (hc Ex m) (ha Ex m) (hb Ex m)
theorem ae7 {i:Nat} {x:Str} (O:GOk X G) (hi:Bw G.N x 0=some i) (hx:Rg G x=true) (h:QE X e de) (hn:fO e (some (.Name x p')) pos.line X.env=pure false):QS X (.Assign [.Name x p'] e pos) (A1 i de):=by
 obtain⟨h1,h2⟩:=M5 O hx
 exact fun Ex m=>bc6 (by rw [O.N];exact O.nd) (by rw [O.N];exact Dv hi) h1 (h Ex m) hn h2
variable {tg iter elt:Expr} {ifs:List Expr} {sc:Scope} {wi:DI} {g:DG} {tc:DT}
theorem Rm {i:Nat} {x:Str} {cp:Pos} (O:GOk X G) (hi:Bw G.N x 0=some i) (hx:Rg G x=true) (hc:X.calm=true) (hk:Ed G sc=true) (hs:Iq iter=true) (hq:QI X tg iter wi) (hg:∀ X',GOk X' (Ch G sc.names)->PG X' tg g)
  (ht:∀ X',GOk X' (Ch G sc.names)->aj9 X' ifs tc) (he:∀ X',GOk X' (Ch G sc.names)->QE X' elt de) :
  QS X (.Assign [.Name x p'] (.ListComp elt [⟨tg,iter,ifs,0⟩] sc cp) pos) (A1 i (C5 (Es G sc.names) wi g tc de)):=by
 obtain⟨h1,h2⟩:=M5 O hx
 have sw:fO (.ListComp elt [⟨tg,iter,ifs,0⟩] sc cp) (some (.Name x p')) pos.line X.env=pure (X.env.blockKind==.function&&X.env.kindOf x==some .local&&p'.line==(Expr.ListComp elt [⟨tg,iter,ifs,0⟩] sc cp).pos.line
   && !(sc.names.any fun (n,k)=>n==x&&(k==.local||k==.cell))):=rfl
 cases hb:(X.env.blockKind==.function&&X.env.kindOf x==some .local&&p'.line==(Expr.ListComp elt [⟨tg,iter,ifs,0⟩] sc cp).pos.line
   && !(sc.names.any fun (n,k)=>n==x&&(k==.local||k==.cell))) with
 | false=>
  rw [hb] at sw
  exact ae7 O hi hx (Uu O hc hk hs hq hg ht he) sw
 | true=>
  rw [hb] at sw
  simp only [am] at hb
  have hl:X.env.scope.names.lookup x=some .local:=bP hb.1.1.2
  intro Ex m pins s σ H D I h
  exact Y9 hc (by rw [O.N];exact O.nd) (by rw [O.N];exact Dv hi) hl (Ml O hk) (hq Ex m) (fun us Q2 fp C D s2 H2 I2 f2 hC=>
   have M:=Ip (N':=(Ch G sc.names).N) (cl:=Cg X.env.cells sc.names []) (us:=us) (Q2:=Q2) (D:=D) m O.fr I2 f2 hC
   have K:=Ty O hk fp C s2 H2 (Bk X sc (Cg X.env.cells sc.names []) us Q2 D C)
   ⟨hg _ K,ht _ K _ M,he _ K _ M⟩) I h sw (fun x=>Ir hs X.env x)
theorem bf3 {body:List Stmt} (O:GOk X G) (ht:G.top=true) (hc:X.calm=true) (hi:QI X tg iter wi) (hg:PG X tg g) (hb:QSs X body t) (hs:Iq iter=true):QS X (.For tg iter body [] pos) (Mm wi g t):=by
 intro Ex m pins s σ H D I h
 refine cg (bc4 (O.own ht) hc (hi Ex m) hg (hb Ex m) (fun x=>Ir hs X.env x) pins s σ H { D with nx:=fun σ' H'=>Thaw H H' (D.nx σ') } I h) (fun f s' q=>?_) fun _ _ z=>z
 cases f with
 | next=>
  obtain⟨σ',H',I',q⟩:=q
  obtain⟨H2,I2,q2⟩:=Thaw.inv I I' q
  exact⟨σ',H2,I2,q2⟩
 | _=>exact q
noncomputable def Hz (K:aa) (e:DE):DS:=fun D σ H=>e σ H (Rn K (D.ex σ)) (D.ex σ)
theorem ae6 (O:GOk X G) (hc:X.A.handled=none) (h:QE X e de):QS X (.Raise (some e) none pos) (Hz X.K de):=fun Ex m=>ad5 m hc (h Ex m)
noncomputable def ab6:Expr->Bool
 | .Tuple _ _ _=>false
 | _=>true
theorem ab7 {e:Expr} (h:ab6 e=true) (tg:Expr) (env:Env):swappedStores [tg] e env=pure none:=by
 cases e with
 | Tuple _ _ _=>cases h
 | _=>cases tg <;> rfl
theorem be9 {ts:List Expr} {kt:Nat} {pt:Pos} {g:DG} (h:QE X e de) (hg:PG X (.Tuple ts kt pt) g) (hn:Gk e=true) (ht:ab6 e=true):QS X (.Assign [.Tuple ts kt pt] e pos) (V0 de g):=
 fun Ex m=>ad3 (h Ex m) hg (show ix [.Tuple ts kt pt] e pos.line X.env=pure false from Gm hn (some (.Tuple ts kt pt)) pos.line X.env) (ab7 ht _ _)
noncomputable def Pl (K:aa) (o i:DE):DG:=fun v σ H Q=>o σ H (fun x H1=>i σ H1 (fun y H2=>aw1 x y v H2 (Q σ)) fun _ _=>False) fun _ _=>False
theorem bf5 {o i:Expr} {do' di:DE} (hu:X.A.units+64<cLine) (ho:QE X o do') (hi:QE X i di) (h:QE X e de) (hsl:Ez i=true):QS X (.Assign [.Subscript o i p'] e pos) (V0 de (Pl X.K do' di)):=by
 intro Ex m
 have hg:PG X (.Subscript o i p') (Pl X.K do' di):=bc2 (ho _ El) (hi _ El) (ca4 hu) (by
  intro v
  cases i with
  | Slice _ _ _ _=>cases hsl
  | _=>rfl)
 exact ad3 (h Ex m) hg (show ix [.Subscript o i p'] e pos.line X.env=pure false from by show fO e (some (.Subscript o i p')) pos.line X.env=pure false;cases e <;> rfl) (by cases e <;> rfl)
noncomputable def Dc (K:aa) (f:Str) (o e:DE):DS:=fun D σ H=>e σ H (fun y H1=>o σ H1 (fun x H2=>aw0 K f x y H2 (D.nx σ)) (D.ex σ)) (D.ex σ)
theorem bf2 {o:Expr} {f:Str} {do':DE} (ho:QE X o do') (h:QE X e de):QS X (.Assign [.Attribute o f p'] e pos) (Dc X.K f do' de):=by
 intro Ex m pins s σ H D I hw
 refine plainObj_wpAny_Assign_Attribute (thn (h Ex m pins s σ H _ I hw) fun u s1 ⟨y,H1,I1,ry,q⟩=>thn (ho Ex m pins s1 σ H1 _ I1 q) fun ov s2 ⟨x,H2,I2,rx,q2⟩=>?_) (by cases e <;> rfl)
 exact b98 I2 rx ry q2 fun H' s' I' hN=>⟨σ,H',I',hN⟩
end
noncomputable def cf1:GB->GB
 | .val v u=>.val v u
 | .exc C _=>.val (.ref C) (.ref C)
 | .cls C _=>.val (.ref C) (.ref C)
 | .ini C _=>.val (.ref C) (.ref C)
 | _=>.met "" []
noncomputable def bq6 (gb:List (Str×GB)):List (Str×GB):=gb.map fun p=>(p.1,cf1 p.2)
noncomputable def hdG (G:Sg):Sg:={ G with gb:=bq6 G.gb,calm:=false }
noncomputable def Pj (gb:List (Str×GB)) (x:Str):Option Addr:=match gb.lookup x with
 | some (.exc T _)=>some T
 | _=>none
noncomputable def okH (G:Sg):ExceptHandler->Bool
 | .ExceptHandler (some (.Name x _)) nm (_::_) _=>He G x&&(Pj G.gb x).isSome&&(match nm with
  | none=>true
  | some n=>(Bw G.N n 0).isSome&&(G.sc.lookup n==some .local))
 | _=>false
noncomputable def bz0 (G:Sg):ExceptHandler->Option Nat
 | .ExceptHandler _ (some n) _ _=>Bw G.N n 0
 | _=>none
noncomputable def as5 (G:Sg) (y:Str):Option Addr:=match G.gb.lookup y with
 | some (.exc T none)=>if He G y=true then some T else none
 | _=>none
noncomputable def ab8:Expr->Bool
 | .Constant .none _ _=>true
 | _=>false
noncomputable def bp8:Expr->Bool
 | .Constant (.str _) _ _=>true
 | _=>false
theorem Rf {e:Expr} (h:ab8 e=true):∃ k p,e=.Constant .none k p:=by
 unfold ab8 at h
 split at h
 ·exact⟨_,_,rfl⟩
 ·cases h
theorem Wx {e:Expr} (h:bp8 e=true):∃ z k p,e=.Constant (.str z) k p:=by
 unfold bp8 at h
 split at h
 ·exact⟨_,_,_,rfl⟩
 ·cases h
noncomputable def as3 (G:Sg):Expr->Option Addr
 | .Call (.Name y _) [a] [] _=>if bp8 a=true then as5 G y else none
 | _=>none
noncomputable def bq5 (G:Sg):ExceptHandler->Option Addr
 | .ExceptHandler _ none [.Raise (some e) (some c) _] _=>if ab8 c=true then as3 G e else none
 | _=>none
noncomputable def Lq (G:Sg) (h:ExceptHandler):HK:=match bq5 G h with
 | some T=>.up T
 | none=>match bz0 G h with
  | some i=>.as i
  | none=>.no
noncomputable def a25 (G:Sg):ExceptHandler->Addr
 | .ExceptHandler (some (.Name x _)) _ _ _=>(Pj G.gb x).getD 0
 | _=>0
noncomputable def as2:ExceptHandler->List Stmt
 | .ExceptHandler _ _ b _=>b
theorem a39 {X:Cx} {G:Sg} (O:GOk X G) (a:Addr):GOk (X.hd a) (hdG G) where
 K:=O.K
 kind:=O.kind
 own:=fun _=>PassesOwn.never
 N:=O.N
 nd:=O.nd
 sc:=O.sc
 vis:=O.vis
 top:=O.top
 calm:=rfl
 hd:=fun z=>by cases z
 units:=O.units
 cel:=O.cel
 gb:=fun x g e=>by
  obtain⟨⟨y,g'⟩,hg,z⟩:=List.mem_map.mp (show (x,g)∈G.gb.map fun p=>(p.1,cf1 p.2) from e)
  cases z
  have h:=O.gb _ g' hg
  cases g' with
  | val v u=>exact h
  | exc C i=>exact⟨h.1,rfl⟩
  | cls C i=>exact⟨h.1,rfl⟩
  | ini C i=>exact⟨h.1,rfl⟩
  | fn i=>exact fun mi hm=>by cases hm
  | met m l=>exact fun mi hm=>by cases hm
  | dic a kvs=>exact fun mi hm=>by cases hm
 bl:=O.bl
 frm:=O.frm
 fr:=O.fr
theorem cf0 {X:Cx} {pn:List (Addr×Obj)} {xe:Value->ah->Prop} {i:FI} (F:D7 X i):D7 (X.tr pn xe) i:=⟨F.kp,F.ok,F.room,F.binds,F.vals⟩
theorem bq1 {X:Cx} {G:Sg} (O:GOk X G) {pn:List (Addr×Obj)} {xe:Value->ah->Prop} (ho:eZ (model X.prog X.w) X.A X.env xe):GOk (X.tr pn xe) G where
 K:=O.K
 kind:=O.kind
 own:=fun _=>ho
 N:=O.N
 nd:=O.nd
 sc:=O.sc
 vis:=O.vis
 top:=O.top
 calm:=O.calm
 hd:=O.hd
 units:=O.units
 cel:=O.cel
 gb:=fun x g e=>by
  refine GBOk.to (X:=X) ?_ ?_ ?_ ?_ ?_ ?_ (O.gb x g e)
  ·rfl
  ·rfl
  ·rfl
  ·rfl
  ·exact fun _ r=>r
  ·exact fun i F=>cf0 F
 bl:=O.bl
 frm:=O.frm
 fr:=O.fr
theorem ac1 {G:Sg} {h:ExceptHandler} (hh:okH G h=true):∃ x p nm b suite pos,h=.ExceptHandler (some (.Name x p)) nm (b::suite) pos/\He G x=true/\(Pj G.gb x).isSome=true /\ ∀ n,nm=some n->(Bw G.N n 0).isSome=true/\G.sc.lookup n=some .local:=by
 unfold okH at hh
 split at hh
 ·rw [am,am] at hh
  refine⟨_,_,_,_,_,_,rfl,hh.1.1,hh.1.2,fun n e=>?_⟩
  have h2:=hh.2
  rw [e] at h2
  have h2:((Bw G.N n 0).isSome&&(G.sc.lookup n==some .local))=true:=h2
  rw [am] at h2
  exact⟨h2.1,bP h2.2⟩
 ·cases hh
theorem Zw {X:Cx} {G:Sg} (O:GOk X G) {w:List Stmt->DS} (h:∀ a ss,QSs (X.hd a) ss (w ss)):∀ {hl:List ExceptHandler},hl.all (okH G)=true->Nx X hl (hl.map fun h=>(a25 G h,Lq G h,w (as2 h)))
 | [],_=>.nil
 | e0::r,hh=>by
  rw [bw,am] at hh
  obtain⟨h1,h2⟩:=hh
  obtain⟨x,p,nm,b,suite,pos,rfl,hg,hs,hnm⟩:=ac1 h1
  obtain⟨T,hT⟩:=Option.isSome_iff_exists.mp hs
  have hl:∃ oi,G.gb.lookup x=some (.exc T oi):=by
   unfold Pj at hT
   split at hT
   ·rename_i T' oi e;cases hT;exact⟨oi,e⟩
   ·cases hT
  obtain⟨oi,hl⟩:=hl
  obtain⟨m,kp,ec,_⟩:=O.at_ x _ hl
  have e:a25 G (.ExceptHandler (some (.Name x p)) nm (b::suite) pos)=T:=by show (Pj G.gb x).getD 0=T;rw [hT];rfl
  rw [ba,e]
  cases hu:bq5 G (.ExceptHandler (some (.Name x p)) nm (b::suite) pos) with
  | some T'=>
   have ek:Lq G (.ExceptHandler (some (.Name x p)) nm (b::suite) pos)=.up T':=by unfold Lq;rw [hu]
   rw [ek]
   unfold bq5 at hu
   split at hu
   ·rename_i heq
    cases heq
    split at hu
    ·rename_i hc
     obtain⟨k2,p4,rfl⟩:=Rf hc
     unfold as3 at hu
     split at hu
     ·split at hu
      ·rename_i hs'
       obtain⟨z,k,p2,rfl⟩:=Wx hs'
       unfold as5 at hu
       split at hu
       ·rename_i T'' hy
        split at hu
        ·rename_i hgy
         cases hu
         obtain⟨my,kpy,ecy,iny⟩:=O.at_ _ _ hy
         exact .up (O.gl hg) m (Gi hg).1 ec (O.gl hgy) my (Gi hgy).1 ecy kpy iny (Zw O h h2)
        ·cases hu
       ·cases hu
      ·cases hu
     ·cases hu
    ·cases hu
   ·cases hu
  | none=>
  have ao:W4 X nm (Lq G (.ExceptHandler (some (.Name x p)) nm (b::suite) pos)):=by
   unfold Lq
   rw [hu]
   cases nm with
   | none=>exact .no
   | some n=>
    obtain⟨z1,z2⟩:=hnm n rfl
    obtain⟨i,hi⟩:=Option.isSome_iff_exists.mp z1
    show W4 X (some n) (match Bw G.N n 0 with|some i=>HK.as i|none=>HK.no)
    rw [hi]
    exact .as (by rw [O.N];exact O.nd) (by rw [O.N];exact Dv hi) (by rw [O.sc];exact z2)
  exact .cons (O.gl hg) m (Gi hg).1 ec ao (fun a=>h a _) (Zw O h h2)
mutual
noncomputable def wS:Nat->Sg->Stmt->DS
 | 0,_,_=>B7
 | n+1,G,st=>match st with
  | .Pass _=>Ah
  | .Break _=>bw0
  | .Continue _=>bw1
  | .Return (some e) _=>Am (wE n G e)
  | .Return none _=>as4
  | .Expr e _=>if Gk e=true then Bo (wE n G e) else B7
  | .If c a b _=>dIf (wT n G c) (wSs n G a) (wSs n G b)
  | .Assign [.Name x _] (.ListComp elt [⟨tg,iter,ifs,0⟩] sc _) _=>match Bw G.N x 0 with
   | some i=>if Rg G x=true/\G.calm=true/\Ed G sc=true/\Iq iter=true then
     A1 i (C5 (Es G sc.names) (wI n G tg iter) (wG n (Ch G sc.names) tg) (match ifs with | []=>Fn | [c]=>wT n (Ch G sc.names) c|_=>tNo) (wE n (Ch G sc.names) elt)) else B7
   | none=>B7
  | .Assign [.Name x _] e _=>match Bw G.N x 0 with
   | some i=>if Rg G x=true/\Gk e=true then A1 i (wE n G e) else B7
   | none=>B7
  | .Assign [.Tuple ts kt pt] e _=>if Gk e=true/\ab6 e=true then V0 (wE n G e) (wG n G (.Tuple ts kt pt)) else B7
  | .Assign [.Attribute o f _] e _=>Dc G.K f (wE n G o) (wE n G e)
  | .Assign [.Subscript o i _] e _=>if Ez i=true then V0 (wE n G e) (Pl G.K (wE n G o) (wE n G i)) else B7
  | .Raise (some e) none _=>if G.calm=true then Hz G.K (wE n G e) else B7
  | .For tg iter body [] _=>if G.calm=true/\Iq iter=true/\G.top=true then Mm (wI n G tg iter) (wG n G tg) (wSs n G body) else B7
  | .Try body (h::hs) [] [] _=>if G.top=true/\(h::hs).all (okH G)=true then a29 G.K (wSs n G body) ((h::hs).map fun h=>(a25 G h,Lq G h,wSs n (hdG G) (as2 h))) else B7
  | _=>B7
noncomputable def wSs:Nat->Sg->List Stmt->DS
 | 0,_,_=>B7
 | _+1,_,[]=>Ah
 | n+1,G,s::r=>Ag (wS n G s) (wSs n G r)
end
theorem ay5:∀ (n:Nat) (X:Cx) (G:Sg),GOk X G->(∀ s,QS X s (wS n G s))/\(∀ ss,QSs X ss (wSs n G ss)):=by
 intro n
 induction n with
 | zero=>
  intro X G O
  refine⟨fun s=>?_,fun s=>?_⟩
  ·unfold wS;exact Br
  ·unfold wSs;exact fun _ _ _ _ _ _ _ _ h=>h.elim
 | succ n ih=>
  intro X G O
  obtain⟨hS,hSs⟩:=ih X G O
  obtain⟨hE,hT,hI⟩:=bu9 n X G O
  refine⟨fun s=>?_,fun s=>?_⟩
  ·unfold wS
   split
   ·exact ap4
   ·exact bf0
   ·exact bf1
   ·exact bf4 (hE _)
   ·exact ap5
   ·split
    ·exact ap3 (hE _) ‹_›
    ·exact Br
   ·exact b37 (hT _) (hSs _) (hSs _)
   ·split
    ·rename_i i e
     split
     ·rename_i hh
      obtain⟨h1,h2,h3,h4⟩:=hh
      refine Rm O e h1 (O.calm▸h2) h3 h4 (hI _ _) (fun X' O'=>Qn n X' _ O' _) (fun X' O'=>?_) (fun X' O'=>(bu9 n X' _ O').1 _)
      split
      ·exact P8
      ·exact P9 ((bu9 n X' _ O').2.1 _)
      ·exact fun _ _ _ _ _ _ _ _ h=>h.elim
     ·exact Br
    ·exact Br
   ·split
    ·rename_i i e
     split
     ·rename_i hh
      exact ae7 O e hh.1 (hE _) (Gm hh.2 _ _ _)
     ·exact Br
    ·exact Br
   ·split
    ·rename_i hh
     exact be9 (hE _) (Qn n X G O _) hh.1 hh.2
    ·exact Br
   ·rw [<- O.K];exact bf2 (hE _) (hE _)
   ·split
    ·rename_i hh
     rw [<- O.K];exact bf5 O.units (hE _) (hE _) (hE _) hh
    ·exact Br
   ·split
    ·rename_i hcm
     rw [<- O.K];exact ae6 O (O.hd (O.calm▸hcm)) (hE _)
    ·exact Br
   ·split
    ·rename_i hh
     exact bf3 O hh.2.2 (O.calm▸hh.1) (hI _ _) (Qn n X G O _) (hSs _) hh.2.1
    ·exact Br
   ·split
    ·rename_i hh
     rw [<- O.K]
     exact bf6 (O.frm hh.1).1 (O.frm hh.1).2 (fun pn xe ho=>(ih _ _ (bq1 O ho)).2 _) (Zw O (fun a ss=>(ih _ _ (a39 O a)).2 ss) hh.2)
    ·exact Br
   ·exact Br
  ·cases s with
   | nil=>unfold wSs;exact ap6
   | cons a r=>unfold wSs;exact ae8 (hS a) (hSs r)
section
variable {P:aI} {w:bq} {K:aa} {mg:Str->Option Value} {base:Heap}
structure FnIn (P:aI) (w:bq) (K:aa) (mg:Str->Option Value) (base:Heap) (k:Nat) (x:Str) (i:FI):Prop where
 at_:mg x=some (.ref i.f)
 kp:aj K (.ref i.f)=true
 ok:∃ CX,(∀ X':Cx,X'.prog=P->X'.w=w->K2 CX X')/\FnOk P w K mg base CX i.k i.f i.fd i.ps i.sp
 le:i.k<=k
 binds:∀ j,j<=i.dfs.length->Binds K i.fd i.ps (i.ds.drop j)
 vals:Vals i.dfs i.ds
noncomputable def ay9 (P:aI) (w:bq) (K:aa) (mg:Str->Option Value) (base:Heap) (k:Nat) (C:Addr):Option FI->Prop
 | none=>ac K (.ref C) "__init__" = some (some (.builtin "ValueError.__init__"))
 | some i=>ac K (.ref C) "__init__" = some (some (.ref i.f))/\cC K (.ref i.f)=true/\aj K (.ref i.f)=true/\(∃ CX,(∀ X':Cx,X'.prog=P->X'.w=w->K2 CX X')/\FnOk P w K mg base CX i.k i.f i.fd i.ps i.sp) /\
   i.k+1<=k/\(∀ j,j<=i.dfs.length->Binds K i.fd i.ps (i.ds.drop j))/\Vals i.dfs i.ds
structure ExcIn (P:aI) (w:bq) (K:aa) (mg:Str->Option Value) (base:Heap) (k:Nat) (x:Str) (C:Addr) (oi:Option FI):Prop where
 at_:mg x=some (.ref C)
 kp:aj K (.ref C)=true
 cls:ECls K C
 init:ay9 P w K mg base k C oi
structure FiIn (P:aI) (w:bq) (K:aa) (mg:Str->Option Value) (base:Heap) (k:Nat) (i:FI):Prop where
 kp:aj K (.ref i.f)=true
 ok:∃ CX,(∀ X':Cx,X'.prog=P->X'.w=w->K2 CX X')/\FnOk P w K mg base CX i.k i.f i.fd i.ps i.sp
 le:i.k<=k
 binds:∀ j,j<=i.dfs.length->Binds K i.fd i.ps (i.ds.drop j)
 vals:Vals i.dfs i.ds
theorem FiIn.mono {k k':Nat} {i:FI} (F:FiIn P w K mg base k i) (h:k<=k'):FiIn P w K mg base k' i:=⟨F.kp,F.ok,aM F.le h,F.binds,F.vals⟩
noncomputable def ci4 (P:aI) (w:bq) (K:aa) (mg:Str->Option Value) (base:Heap) (k:Nat) (C:Addr):Option FI->Prop
 | none=>aE K C=true/\ac K (.ref C) "__init__" = some (some (.builtin "object.__init__"))
 | some i=>aE K C=true/\ac K (.ref C) "__init__" = some (some (.ref i.f))/\cC K (.ref i.f)=true/\FiIn P w K mg base k i/\i.k+1<=k
structure ClsIn (P:aI) (w:bq) (K:aa) (mg:Str->Option Value) (base:Heap) (k:Nat) (x:Str) (C:Addr) (oi:Option FI):Prop where
 at_:mg x=some (.ref C)
 kp:aj K (.ref C)=true
 made:ci4 P w K mg base k C oi
theorem ClsIn.mono {k k':Nat} {x:Str} {C:Addr} {oi:Option FI} (F:ClsIn P w K mg base k x C oi) (h:k<=k'):ClsIn P w K mg base k' x C oi:=by
 refine⟨F.at_,F.kp,?_⟩
 cases oi with
 | none=>exact F.made
 | some i=>obtain⟨a,b,c,d,e⟩:=F.made;exact⟨a,b,c,d.mono h,aM e h⟩
structure MetIn (P:aI) (w:bq) (K:aa) (mg:Str->Option Value) (base:Heap) (k:Nat) (m:Str) (mi:MI):Prop where
 cls:Cls K mi.C
 at_:Dk K mi.C m mi.i.f
 fi:FiIn P w K mg base k mi.i
theorem MetIn.mono {k k':Nat} {m:Str} {mi:MI} (F:MetIn P w K mg base k m mi) (h:k<=k'):MetIn P w K mg base k' m mi:=⟨F.cls,F.at_,F.fi.mono h⟩
theorem ExcIn.mono {P:aI} {w:bq} {K:aa} {mg:Str->Option Value} {base:Heap} {k k':Nat} {x:Str} {C:Addr} {oi:Option FI} (F:ExcIn P w K mg base k x C oi) (h:k<=k'):ExcIn P w K mg base k' x C oi:=by
 refine⟨F.at_,F.kp,F.cls,?_⟩
 cases oi with
 | none=>exact F.init
 | some i=>obtain⟨a,b,c,d,e,f⟩:=F.init;exact⟨a,b,c,d,aM e h,f⟩
structure ar9 (P:aI) (w:bq) (K:aa) (mg:Str->Option Value) (base:Heap) (k:Nat) (x:Str) (C:Addr) (i:FI):Prop where
 at_:mg x=some (.ref C)
 sup:K3 K C i.f
 fi:FiIn P w K mg base k i
noncomputable def GBIn (P:aI) (w:bq) (K:aa) (mg:Str->Option Value) (base:Heap) (k:Nat) (x:Str):GB->Prop
 | .fn i=>FnIn P w K mg base k x i
 | .val v u=>mg x=some u/\RelV v u
 | .exc C oi=>ExcIn P w K mg base k x C oi
 | .cls C oi=>ClsIn P w K mg base k x C oi
 | .met m l=>∀ mi∈l,MetIn P w K mg base k m mi
 | .ini C i=>ar9 P w K mg base k x C i
 | .dic a kvs=>mg x=some (.ref a)/\Hs P w K a kvs
structure Tab (P:aI) (w:bq) (K:aa) (mg:Str->Option Value) (base:Heap) (k:Nat) (gb:List (Str×GB)) (bl:List Str):Prop where
 all:∀ x g,(x,g)∈gb->GBIn P w K mg base k x g
 bl:∀ x∈bl,mg x=none
theorem FnIn.mono {k k':Nat} {x:Str} {i:FI} (F:FnIn P w K mg base k x i) (h:k<=k'):FnIn P w K mg base k' x i:=⟨F.at_,F.kp,F.ok,aM F.le h,F.binds,F.vals⟩
theorem GBIn.mono {k k':Nat} {x:Str} {g:GB} (F:GBIn P w K mg base k x g) (h:k<=k'):GBIn P w K mg base k' x g:=by
 cases g with
 | fn i=>exact FnIn.mono F h
 | val v u=>exact F
 | exc C oi=>exact ExcIn.mono F h
 | cls C oi=>exact ClsIn.mono F h
 | met m l=>exact fun mi hm=>(F mi hm).mono h
 | ini C i=>exact⟨F.at_,F.sup,F.fi.mono h⟩
 | dic a kvs=>exact F
theorem Tab.nil {bl:List Str} (h:∀ x∈bl,mg x=none):Tab P w K mg base 0 [] bl:=⟨fun _ _ h=>(by cases h),h⟩
theorem Tab.mono {k k':Nat} {gb:List (Str×GB)} {bl:List Str} (T:Tab P w K mg base k gb bl) (h:k<=k'):Tab P w K mg base k' gb bl:=⟨fun x g hx=>(T.all x g hx).mono h,T.bl⟩
theorem Tab.put {k:Nat} {gb:List (Str×GB)} {bl:List Str} {x:Str} {g:GB} (T:Tab P w K mg base k gb bl) (F:GBIn P w K mg base k x g):Tab P w K mg base k ((x,g)::gb) bl:=
 ⟨fun y j hy=>by
  rcases List.mem_cons.mp hy with e|e
  ·cases e;exact F
  ·exact T.all y j e,T.bl⟩
theorem Tab.cons {k:Nat} {gb:List (Str×GB)} {bl:List Str} {x:Str} {i:FI} (T:Tab P w K mg base k gb bl) (F:FnIn P w K mg base k x i):Tab P w K mg base k ((x,.fn i)::gb) bl:=T.put F
theorem Tab.consX {k:Nat} {gb:List (Str×GB)} {bl:List Str} {x:Str} {C:Addr} {oi:Option FI} (T:Tab P w K mg base k gb bl) (F:ExcIn P w K mg base k x C oi):Tab P w K mg base k ((x,.exc C oi)::gb) bl:=T.put F
theorem Tab.consV {k:Nat} {gb:List (Str×GB)} {bl:List Str} {x:Str} {v:V} {u:Value} (T:Tab P w K mg base k gb bl) (F:mg x=some u) (r:RelV v u):Tab P w K mg base k ((x,.val v u)::gb) bl:=T.put ⟨F,r⟩
theorem Tab.consC {k:Nat} {gb:List (Str×GB)} {bl:List Str} {x:Str} {C:Addr} {oi:Option FI} (T:Tab P w K mg base k gb bl) (F:ClsIn P w K mg base k x C oi):Tab P w K mg base k ((x,.cls C oi)::gb) bl:=T.put F
theorem Tab.consM {k:Nat} {gb:List (Str×GB)} {bl:List Str} {x:Str} {m:Str} {l:List MI} (T:Tab P w K mg base k gb bl) (F:∀ mi∈l,MetIn P w K mg base k m mi):Tab P w K mg base k ((x,.met m l)::gb) bl:=T.put F
theorem Tab.consI {k:Nat} {gb:List (Str×GB)} {bl:List Str} {x:Str} {C:Addr} {i:FI} (T:Tab P w K mg base k gb bl) (F:ar9 P w K mg base k x C i):Tab P w K mg base k ((x,.ini C i)::gb) bl:=T.put F
theorem Tab.consD {k:Nat} {gb:List (Str×GB)} {bl:List Str} {x:Str} {a:Addr} {kvs:List (Key×V)} (T:Tab P w K mg base k gb bl) (F:mg x=some (.ref a)) (d:Hs P w K a kvs):Tab P w K mg base k ((x,.dic a kvs)::gb) bl:=T.put ⟨F,d⟩
theorem GBIn.there {X:Cx} {k:Nat} {x:Str} {g:GB} (F:GBIn X.prog X.w X.K X.mg X.base k x g) (hr:Room k X.A):GBOk X x g:=by
 cases g with
 | fn i=>exact⟨F.at_,F.kp,F.ok,hr.mono F.le,F.binds,F.vals⟩
 | val v u=>exact F
 | exc C oi=>
  refine⟨F.at_,F.kp,F.cls,?_⟩
  cases oi with
  | none=>exact F.init
  | some i=>obtain⟨a,b,c,d,e,f,g⟩:=F.init;exact⟨a,b,⟨c,d,hr.mono (by omega),f,g⟩,hr.mono e⟩
 | cls C oi=>
  refine⟨F.at_,F.kp,?_⟩
  cases oi with
  | none=>exact F.made
  | some i=>obtain⟨a,b,c,d,e⟩:=F.made;exact⟨a,b,c,⟨d.kp,d.ok,hr.mono d.le,d.binds,d.vals⟩,hr.mono e⟩
 | met m l=>exact fun mi hm=>⟨(F mi hm).cls,(F mi hm).at_,⟨(F mi hm).fi.kp,(F mi hm).fi.ok,hr.mono (F mi hm).fi.le,(F mi hm).fi.binds,(F mi hm).fi.vals⟩⟩
 | ini C i=>exact⟨F.at_,F.sup,⟨F.fi.kp,F.fi.ok,hr.mono F.fi.le,F.fi.binds,F.fi.vals⟩⟩
 | dic a kvs=>exact F
theorem P3 (X:Cx):K2 CX0 X:=fun _ _ _ _ _ _ _ _ _ h=>h.elim
noncomputable def Av (K:aa) (N:List Str) (sc:Scope) (gb:List (Str×GB)) (bl:List Str):Sg:=⟨K,N,sc.names,gb,bl,true,true⟩
noncomputable def An (N:List Str) (sc:Scope):Bool:=N.all fun x=>(sc.names.lookup x==some .local)||(sc.names.lookup x==some .cell)
noncomputable def a32 (Q:VK) (E:EK):Cy:=⟨fun _ H'=>Q .non H',Q,fun _ _=>False,fun _ _=>False,fun _=>E⟩
structure FunD (K:aa) (x qual:Str) (st:Stmt) (f:Addr) (fd:ai) (dV:Value):Prop where
 ex:∃ (oc:Value) (od:Option Addr) (kV doc pm:Value) (an:Option Addr) (cdv ct:Value) (osl:Array (Option Value)),
  fd=bY x qual (B9 st) (Ai st) (Ab st) dV kV doc pm an cdv ct/\K.lookup f=some ⟨oc,od,.func fd,osl⟩/\c_ K cdv qual=true
 kp:aj K (.ref f)=true
theorem Fun.toD {x qual:Str} {st:Stmt} {f:Addr} {fd:ai} (F:Fun K x qual st f fd):FunD K x qual st f fd .none:=⟨F.ex,F.kp⟩
theorem FunD.ok {x qual:Str} {st:Stmt} {f:Addr} {fd:ai} {dV:Value} {N ps:List Str} {k:Nat} {sp:Sp} (F:FunD K x qual st f fd dV) (S:Aj N ps (Ab st)) (len:∀ vs H Q E,sp vs H Q E->vs.length=ps.length)
  (hbody:∀ (cdv:Value) (A:bt) (outer:List Env) (s:ah) (H:Hp) (vs:List V) (Q:VK) (E:XK),Room k (A.deeper (iM qual (Ab st) s.heap.objs.size f cdv))->sp vs H Q E ->
   ∃ t,PSs (Hy CX0 P w K mg base N qual (Ab st) f cdv A outer s H E).nox (Ai st) t/\t { nx:=fun _ H'=>Q .non H',rt:=Q } (E8 N vs) H):FnOk P w K mg base CX0 (k+1) f fd ps sp:=by
 obtain⟨oc,od,kV,doc,pm,an,cdv,ct,osl,rfl,lk,hcd⟩:=F.ex
 refine as6 lk hcd S len fun A outer s H vs Q E hr hsp=>?_
 obtain⟨t,h,q⟩:=hbody cdv A outer s H vs Q E hr hsp
 exact⟨t,h.nox,q⟩
theorem FunD.okW0 {x qual:Str} {st:Stmt} {f:Addr} {fd:ai} {N ps:List Str} {k n:Nat} {sp:Sp} {gb:List (Str×GB)} {bl:List Str} {t:DS} {dV:Value} (F:FunD K x qual st f fd dV) (S:Aj N ps (Ab st)) (hv:An N (Ab st)=true)
  (T:Tab P w K mg base k gb bl) (rd:wSs n (Av K N (Ab st) gb bl) (Ai st)=t) (len:∀ vs H Q E,sp vs H Q E->vs.length=ps.length)
  (hbody:∀ (vs:List V) (H:Hp) (Q:VK) (E:XK),sp vs H Q E->t (a32 Q fun _ _=>False) (E8 N vs) H):FnOk P w K mg base CX0 (k+1) f fd ps sp:=by
 refine F.ok S len fun cdv A outer s H vs Q E hr h=>?_
 have O:GOk (Hy CX0 P w K mg base N qual (Ab st) f cdv A outer s H E).nox (Av K N (Ab st) gb bl):=by
  refine⟨rfl,S.kind,(fun _=>PassesOwn.never),rfl,S.nd,fun x=>rfl,fun x hx=>?_,fun _ _=>rfl,rfl,(fun _=>hr.hd),hr.units,fun x hx=>?_,fun x g e=>?_,fun x hx=>?_,(fun _=>⟨rfl,rfl⟩),⟨_,_,_,rfl,rfl,rfl⟩⟩
  ·have:=List.all_eq_true.mp hv x hx
   rw [cL] at this
   exact this.elim (fun z=>.inl (bP z)) fun z=>.inr (.inl (bP z))
  ·rcases hx with hx|hx
   ·exact Fk hx
   ·exact absurd rfl (S.nofree _ (bM hx))
  ·exact (T.all x g e).there hr
  ·exact T.bl x (by have hx':bl.contains x=true:=hx;simpa using hx')
 refine⟨_,(ay5 n _ _ O).2 (Ai st) (fun _ _ _=>False) (fun _ _ _ _ _ _ _ h=>h.elim),?_⟩
 rw [rd]
 exact hbody vs H Q E h
end
theorem Same.upd {H:Hp} {a:Addr} {o:HO} (h:H a=none):Same H (upd H a o):=fun b u e=>by rw [Ap (Ba e h)];exact e
theorem Same.set {H H':Hp} {a:Addr} {o:HO} (s:Same H H') (h:H a=none):Same H (L2.upd H' a o):=fun b u e=>by rw [Ap (Ba e h)];exact s b u e
theorem Same.seqT {K:aa} {H H':Hp} {a:Addr} {xs:List V} (e:Same H H') (h:SqT K H a xs):SqT K H' a xs:=by
 rcases h with (h|⟨o,h⟩)|h
 ·exact .inl (.inl (e _ _ h))
 ·exact .inl (.inr ⟨o,e _ _ h⟩)
 ·exact .inr h
structure Dl (J:It) (its:List V) (ok:Hp->Prop):Prop where
 go:∀ i H,ok H->i<its.length->J.go i H
 stop:∀ H,ok H->J.stop its.length H
 yld:∀ i H x H',ok H->i<its.length->J.yld i H x H'->H'=H/\its[i]? = some x
noncomputable def Ce (z:Str):List V:=z.cps.toList.map fun c=>V.str ⟨#[c]⟩
theorem Tn (z:Str):Dl (Its z) (Ce z) (fun _=>True):=by
 have e:(Ce z).length=z.cps.size:=by unfold Ce;simp
 refine⟨fun i H _ h=>?_,fun H _=>?_,fun i H x H' _ _ h=>?_⟩
 ·show i<z.cps.size;omega
 ·show (Ce z).length=z.cps.size;exact e
 ·obtain⟨h1,c,h2,h3⟩:=h
  refine⟨h1,?_⟩
  unfold Ce
  rw [bD,Array.getElem?_toList,h2,h3]
  rfl
theorem Nw {K:aa} {a:Addr} (xs:List V):Dl (Itl K a) xs (fun H=>SqL K H a xs):=by
 refine⟨fun i H q h=>⟨xs,xs[i],q,by simp [h]⟩,fun H q=>⟨xs,q,ae _⟩,fun i H x H' q _ h=>?_⟩
 obtain⟨h1,h2⟩:=h
 exact⟨h1,h2 xs q⟩
theorem Kq {K:aa} {a:Addr} (xs:List V):Dl (Itt K a) xs (fun H=>SqT K H a xs):=by
 refine⟨fun i H q h=>⟨xs,xs[i],q,by simp [h]⟩,fun H q=>⟨xs,q,ae _⟩,fun i H x H' q _ h=>?_⟩
 obtain⟨h1,h2⟩:=h
 exact⟨h1,h2 xs q⟩
noncomputable def Qh (lo:Int) (n:Nat):List V:=(c9 n).map fun (i:Nat)=>V.int (lo+(i:Int))
theorem Bz (lo:Int) (n:Nat):(Qh lo n).length=n:=by unfold Qh;simp
theorem Iz {lo:Int} {n i:Nat} (h:i<n):(Qh lo n)[i]? = some (.int (lo+(i:Int))):=by unfold Qh;simp [h]
theorem Ep (lo:Int) (n:Nat):Dl (Itr lo n) (Qh lo n) (fun _=>True):=by
 refine⟨fun i H _ h=>?_,fun H _=>?_,fun i H x H' _ hi h=>?_⟩
 ·rw [Bz] at h;exact h
 ·show n<=(Qh lo n).length;rw [Bz];exact ae _
 ·obtain⟨h1,h2⟩:=h
  rw [Bz] at hi
  exact⟨h1,by rw [Iz hi,h2]⟩
noncomputable def Rq (lo st:Int) (n:Nat):List V:=(c9 n).map fun (i:Nat)=>V.int (lo+(i:Int) * st)
theorem Iy (lo st:Int) (n:Nat):(Rq lo st n).length=n:=by unfold Rq;simp
theorem ar7 (lo st:Int) (n:Nat):Dl (aj8 lo st n) (Rq lo st n) (fun _=>True):=by
 refine⟨fun i H _ h=>?_,fun H _=>?_,fun i H x H' _ hi h=>?_⟩
 ·rw [Iy] at h;exact h
 ·show n<=(Rq lo st n).length;rw [Iy];exact ae _
 ·obtain⟨h1,h2⟩:=h
  rw [Iy] at hi
  exact⟨h1,by rw [h2];unfold Rq;simp [hi]⟩
section
variable {J:It} {its:List V} {ok:Hp->Prop} {g:DG} {tb:DS} {D:Cy} {σ:St} {H:Hp}
theorem Fa (Y:Dl J its ok) (Pv:Nat->St->Hp->Prop) (h0:Pv 0 σ H) (hok:∀ i σ H,i<=its.length->Pv i σ H->ok H)
  (hs:∀ i x σ H,its[i]? = some x->Pv i σ H->g x σ H fun σ2 H2=>tb { D with nx:=Pv (i+1),ct:=Pv (i+1),bk:=D.nx } σ2 H2) (hd:∀ σ H,Pv its.length σ H->D.nx σ H):bv4 J g tb D σ H:=by
 refine⟨fun i m σ H=>m=its.length - i/\i<=its.length/\Pv i σ H,⟨its.length,by simp,cY _,h0⟩,?_⟩
 rintro i m σ H ⟨rfl,hi,p⟩
 by_cases hlt:i<its.length
 ·refine .inr ⟨Y.go i H (hok i σ H hi p) hlt,Pv (i+1),fun σ' H' p'=>⟨its.length - (i+1),by omega,rfl,hlt,p'⟩,fun x H' y=>?_⟩
  obtain⟨e,y2⟩:=Y.yld i H x H' (hok i σ H hi p) hlt y
  subst e
  exact hs i x σ _ y2 p
 ·have e:i=its.length:=by omega
  subst e
  exact .inl ⟨Y.stop H (hok _ σ H hi p),hd σ H p⟩
variable {tc:DT} {te:DE} {L:Addr} {R:Hp->Prop} {E:EK}
theorem Hw (Y:Dl J its ok) (Pv:Nat->St->Hp->Prop) (h0:Pv 0 σ H) (hok:∀ i σ H,i<=its.length->Pv i σ H->ok H)
  (hs:∀ i x σ H,its[i]? = some x->Pv i σ H->g x σ H fun σ3 H3=>tc σ3 H3 (fun b H4=>if b=true then te σ3 H4 (fun v H5=>∃ ys,H5 L=some (.lst ys)/\ys.length<sizeLine/\Pv (i+1) σ3 (upd H5 L (.lst (ys++[v])))) E else Pv (i+1) σ3 H4) E)
  (hd:∀ σ H,Pv its.length σ H->R H):Vh J g tc te L R σ H E:=by
 refine⟨fun i m σ H=>m=its.length - i/\i<=its.length/\Pv i σ H,⟨its.length,by simp,cY _,h0⟩,?_⟩
 rintro i m σ H ⟨rfl,hi,p⟩
 by_cases hlt:i<its.length
 ·refine .inr ⟨Y.go i H (hok i σ H hi p) hlt,Pv (i+1),fun σ' H' p'=>⟨its.length - (i+1),by omega,rfl,hlt,p'⟩,fun x H' y=>?_⟩
  obtain⟨e,y2⟩:=Y.yld i H x H' (hok i σ H hi p) hlt y
  subst e
  exact hs i x σ _ y2 p
 ·have e:i=its.length:=by omega
  subst e
  exact .inl ⟨Y.stop H (hok _ σ H hi p),hd σ H p⟩
end
section
variable {K:aa} {H H':Hp}
theorem Same.seqL {a:Addr} {xs:List V} (e:Same H H') (h:SqL K H a xs):SqL K H' a xs:=by
 rcases h with (h|⟨o,h⟩)|h
 ·exact .inl (.inl (e _ _ h))
 ·exact .inl (.inr ⟨o,e _ _ h⟩)
 ·exact .inr h
mutual
theorem Hv (S:Same H H'):∀ {d:Dt} {x:V},At K H d x->At K H' d x
 | .at_ v,x,h=>by unfold At at h ⊢;exact h
 | .lst l,x,h=>by unfold At at h ⊢;obtain⟨a,xs,e,q,h⟩:=h;exact⟨a,xs,e,S.seqL q,Ec S h⟩
 | .tup l,x,h=>by unfold At at h ⊢;obtain⟨a,xs,e,q,h⟩:=h;exact⟨a,xs,e,S.seqT q,Ec S h⟩
theorem Ec (S:Same H H'):∀ {ds:List Dt} {xs:List V},AtL K H ds xs->AtL K H' ds xs
 | [],xs,h=>by unfold AtL at h ⊢;exact h
 | d::ds,xs,h=>by unfold AtL at h ⊢;obtain⟨y,ys,e,h1,h2⟩:=h;exact⟨y,ys,e,Hv S h1,Ec S h2⟩
end
theorem Dx:∀ {ds:List Dt} {xs:List V} {i:Nat} {d:Dt},AtL K H ds xs->ds[i]? = some d -> ∃ y,xs[i]? = some y/\At K H d y
 | [],_,_,_,_,e=>by simp at e
 | c::ds,xs,0,d,h,e=>by
  unfold AtL at h
  obtain⟨y,ys,rfl,h1,h2⟩:=h
  rw [fR] at e
  cases e
  exact⟨y,rfl,h1⟩
 | c::ds,xs,i+1,d,h,e=>by
  unfold AtL at h
  obtain⟨y,ys,rfl,h1,h2⟩:=h
  rw [cV] at e
  obtain⟨z,e1,e2⟩:=Dx h2 e
  exact⟨z,by rw [cV];exact e1,e2⟩
theorem Er:AtL K H [] []:=by unfold AtL;rfl
theorem Dp {d:Dt} {ds:List Dt} {x:V} {xs:List V} (h:At K H d x) (t:AtL K H ds xs):AtL K H (d::ds) (x::xs):=by unfold AtL;exact⟨x,xs,rfl,h,t⟩
theorem Ma:∀ {ds:List Dt} {xs:List V} {es:List Dt} {ys:List V},AtL K H ds xs->AtL K H es ys->AtL K H (ds++es) (xs++ys)
 | [],_,_,_,h,g=>by unfold AtL at h;rw [h];exact g
 | c::ds,xs,es,ys,h,g=>by
  unfold AtL at h
  obtain⟨y,zs,rfl,h1,h2⟩:=h
  exact Dp h1 (Ma h2 g)
noncomputable def A0 (z:Str):Dt:=.at_ (.str z)
theorem B6 {z:Str}:At K H (A0 z) (.str z):=by unfold A0 At;exact⟨rfl,rfl⟩
theorem O8:∀ {r:List Str},AtL K H (r.map A0) (r.map V.str)
 | []=>Er
 | _::_=>Dp B6 O8
theorem K4:∀ {r:List Str} {xs:List V},AtL K H (r.map A0) xs->xs=r.map V.str
 | [],xs,h=>by unfold iQ AtL at h;exact h
 | z::r,xs,h=>by
  rw [ba] at h
  unfold AtL at h
  obtain⟨y,ys,rfl,h1,h2⟩:=h
  unfold A0 At at h1
  rw [h1.1,K4 h2]
  rfl
theorem Mc {a:Addr} {r:List Str} (h:SqT K H a (r.map V.str)):At K H (.tup (r.map A0)) (.ref a):=by unfold At;exact⟨a,_,rfl,h,O8⟩
theorem Y4 {x:V} {r:List Str} (h:At K H (.tup (r.map A0)) x):∃ a,x=.ref a/\SqT K H a (r.map V.str):=by
 unfold At at h
 obtain⟨a,xs,e,q,h⟩:=h
 rw [K4 h] at q
 exact⟨a,e,q⟩
theorem Hu {a:Addr} {ds:List Dt} {xs:List V} (h:SqT K H a xs) (g:AtL K H ds xs):At K H (.tup ds) (.ref a):=by unfold At;exact⟨a,xs,rfl,h,g⟩
theorem a20 {a:Addr} {ds:List Dt} {xs:List V} (h:SqL K H a xs) (g:AtL K H ds xs):At K H (.lst ds) (.ref a):=by unfold At;exact⟨a,xs,rfl,h,g⟩
theorem B0 {x:V} {ds:List Dt} (h:At K H (.tup ds) x):∃ a xs,x=.ref a/\SqT K H a xs/\AtL K H ds xs:=by unfold At at h;exact h
theorem Fj {v:V} (f:Bn v=true):At K H (.at_ v) v:=by unfold At;exact⟨rfl,f⟩
end
theorem Ia {α:Type} {f:α->Dt} {n:Nat} (h:∀ a,dep (f a)<=n):∀ (l:List α),Dd (l.map f)<=n
 | []=>by unfold iQ Dd;exact cY _
 | a::l=>by
  rw [ba]
  unfold Dd
  exact Nat.max_le.mpr ⟨h a,Ia h l⟩
theorem Pc (z:Str):dep (A0 z)<=0:=by unfold A0 dep;exact ae _
noncomputable def TKeep (K:aa) (H H':Hp):Prop:=∀ a xs,SqT K H a xs->SqT K H' a xs
section
variable {K:aa} {H H':Hp}
theorem TKeep.of (S:Same H H'):TKeep K H H':=fun _ _ h=>S.seqT h
theorem TKeep.lst {l:Addr} {ys zs:List V} (h:H l=some (.lst ys)):TKeep K H (upd H l (.lst zs)):=fun a xs q=>by
 rcases q with (q|⟨o,q⟩)|q
 ·have ne:a≠l:=fun e=>by subst e;rw [h] at q;cases q
  exact .inl (.inl (by rw [Ap ne];exact q))
 ·have ne:a≠l:=fun e=>by subst e;rw [h] at q;cases q
  exact .inl (.inr ⟨o,by rw [Ap ne];exact q⟩)
 ·exact .inr q
theorem Wy {x:V} {r:List Str} (h:At K H (.tup (r.map A0)) x) (k:TKeep K H H'):At K H' (.tup (r.map A0)) x:=by
 obtain⟨a,rfl,q⟩:=Y4 h
 exact Mc (k _ _ q)
theorem Ja (k:TKeep K H H'):∀ {rs:List (List Str)} {xs:List V},AtL K H (rs.map fun r=>.tup (r.map A0)) xs->AtL K H' (rs.map fun r=>.tup (r.map A0)) xs
 | [],xs,h=>by rw [eI] at h ⊢;unfold AtL at h ⊢;exact h
 | r::rs,xs,h=>by
  rw [ba] at h ⊢
  unfold AtL at h
  obtain⟨y,ys,rfl,h1,h2⟩:=h
  exact Dp (Wy h1 k) (Ja k h2)
end
end L2
namespace L2
open PySem PySem.Spec PySem.W
structure XC (K:aa) (C:Addr) (bm:List Value):Prop where
 lk:∃ nm q N bs sn sub ab col dd k0 k1 k2 k3 k5,K.lookup C=some (c5 nm q C N bs bm true sn sub ab col dd k0 k1 k2 k3 k5 "ValueError.__new__")
 ty:typeIn K (.ref C)=some (.type "type")
 sa:findIn K (.ref C) "__setattr__" = some (some (.builtin "object.__setattr__"))
 ga:findIn K (.ref C) "__getattribute__" = some (some (.builtin "BaseException.__getattribute__"))
 gt:findIn K (.ref C) "__getattr__" = some none
 ca:findIn K (.ref C) "__class__" = some (some (.builtin "object.__class__"))
 hn:specialIn K (.builtin "object.__class__") "__get__" = some (some (.builtin "getset_descriptor.__get__"))
 htk:takesIn K (.builtin "object.__class__")=some true
theorem xc_mk {K:aa} {C N:Addr} {bm bs:List Value} {nm q:Str} {sn:List Str} {sub:List Value} {ab:Bool} {col:Option Bool} {dd:Option Addr} {k0 k1 k2 k3 k5:Option Value}
  (lk:K.lookup C=some (c5 nm q C N bs bm true sn sub ab col dd k0 k1 k2 k3 k5 "ValueError.__new__")) (ty:typeIn K (.ref C)=some (.type "type")) (sa:findIn K (.ref C) "__setattr__" = some (some (.builtin "object.__setattr__")))
  (ga:findIn K (.ref C) "__getattribute__" = some (some (.builtin "BaseException.__getattribute__"))) (gt:findIn K (.ref C) "__getattr__" = some none) (ca:findIn K (.ref C) "__class__" = some (some (.builtin "object.__class__")))
  (hn:specialIn K (.builtin "object.__class__") "__get__" = some (some (.builtin "getset_descriptor.__get__"))) (htk:takesIn K (.builtin "object.__class__")=some true):XC K C bm:=⟨⟨_,_,_,_,_,_,_,_,_,_,_,_,_,_,lk⟩,ty,sa,ga,gt,ca,hn,htk⟩
theorem XC.ecls {K:aa} {C:Addr} {bm:List Value} (x:XC K C bm) (h:A4 bm=true):ECls K C:=by
 obtain⟨nm,q,N,bs,sn,sub,ab,col,dd,k0,k1,k2,k3,k5,lk⟩:=x.lk
 exact⟨⟨_,_,_,_,bm,true,_,_,_,_,_,_,_,_,_,_,lk,h,rfl⟩,x.sa,x.ga,x.gt,x.ca,x.hn,x.htk⟩
theorem XC.cls {K:aa} {C:Addr} {bm:List Value} (x:XC K C bm):∃ cd,iX K C=some cd/\cd.mro=.ref C::bm:=by
 obtain⟨nm,q,N,bs,sn,sub,ab,col,dd,k0,k1,k2,k3,k5,lk⟩:=x.lk
 exact⟨_,by unfold iX;rw [lk],rfl⟩
theorem XC.kit {K:aa} {C D:Addr} {bm bd:List Value} (x:XC K C bm) (y:XC K D bd) {b:Bool} (h:(aC C::bm).contains (.ref D)=b):kitOne K (.ref C) (.ref D)=some b:=by
 obtain⟨cd,h1,h2⟩:=x.cls
 obtain⟨cd',h3,_⟩:=y.cls
 unfold kitOne
 by_cases e:(aC C==aC D)=true
 ·rw [if_pos e]
  have e':aC D=aC C:=(bP e).symm
  rw [<- h,a0,e']
  simp
 ·rw [if_neg e]
  unfold kitCls
  dsimp only
  rw [h3,y.ty,if_pos (by rfl)]
  show mroIn K C (.ref D)=_
  unfold mroIn
  rw [h1,c7,h2,h]
  rfl
theorem XC.kitV {K:aa} {C:Addr} {bm:List Value} (x:XC K C bm) (h:A4 bm=true):kitOne K (.ref C) (.type "ValueError")=some true:=by
 unfold kitOne
 rw [if_neg (by intro z;cases z)]
 unfold kitCls
 dsimp only
 rw [if_pos (by decide +kernel)]
 exact (x.ecls h).sub (by decide +kernel)
end L2
namespace L2
open PySem PySem.Spec PyProof.Rows
open Sem (wp)
section
variable {X:Cx} {pins:List (Addr×Obj)} {σ:St} {H:Hp} {s:ah} {a C:Addr} {dx:Option Addr} {h':Heap}
theorem P4 (X:Cx):K2 (CXE X.prog X.w) X:=by
 intro Ex m pins σ H s e s' I h
 obtain⟨a,H',rfl,os,bare,u,hok,F,a',e',hE⟩:=h
 cases e'
 have I':=I.call' os u hok bare (fun b z=>absurd z (by simp))
 obtain⟨C,dx,vs,T,oT,ts,h1,h2,h3,h4,h5,h6,h7,h8,h9,h10⟩:=F
 exact m pins σ H' s' a I' ⟨C,dx,vs,h1,h2,h3,.inr ⟨T,oT,ts,h4,h5,h6,h7,⟨_,h8⟩,I.fpOk h9 h10⟩⟩ hE
end
section
variable {P:aI} {w:bq} {K:aa} {mg:Str->Option Value} {base:Heap}
theorem Wg {N:List Str} {qual:Str} {scope:Scope} {f:Addr} {cdv:Value} {A:bt} {outer:List Env} {s:ah} {H:Hp} {E:XK} :
  Meets (Hy (CXE P w) P w K mg base N qual scope f cdv A outer s H E) (fun _ a H'=>E (.ref a) none H'):=by
 intro pins σ H1 s1 a I F hE
 refine af (Uq (X:=Hy (CXE P w) P w K mg base N qual scope f cdv A outer s H E) I rfl rfl F fun s' I' F'=>?_)
 obtain⟨C,dx,vs,T,oT,ts,h1,h2,h3,q1,q2,q3,q4,q5,q6⟩:=F'
 exact⟨a,H1,rfl,I'.os,I'.bare,I'.base,I'.hok,⟨C,dx,vs,T,oT,ts,h1,h2,h3,q1,q2,q3,q4,q5,q6.2.2.2.1.elim (fun z=>absurd z (by simp [Hy])) id,q6.1⟩,hE⟩
noncomputable def bw6 (Q:VK) (E:XK):Cy:=⟨fun _ H'=>Q .non H',Q,fun _ _=>False,fun _ _=>False,fun _ a H'=>E (.ref a) none H'⟩
theorem FunD.okWX {x qual:Str} {st:Stmt} {f:Addr} {fd:ai} {N ps:List Str} {k n:Nat} {sp:Sp} {gb:List (Str×GB)} {bl:List Str} {t:DS} {dV:Value} (F:FunD K x qual st f fd dV) (S:Aj N ps (Ab st)) (hv:An N (Ab st)=true)
  (T:Tab P w K mg base k gb bl) (rd:wSs n (Av K N (Ab st) gb bl) (Ai st)=t) (len:∀ vs H Q E,sp vs H Q E->vs.length=ps.length)
  (hbody:∀ (vs:List V) (H:Hp) (Q:VK) (E:XK),sp vs H Q E->t (bw6 Q E) (E8 N vs) H):FnOk P w K mg base (CXE P w) (k+1) f fd ps sp:=by
 obtain⟨oc,od,kV,doc,pm,an,cdv,ct,osl,rfl,lk,hcd⟩:=F.ex
 refine as6 lk hcd S len fun A outer s H vs Q E hr h=>?_
 have O:GOk (Hy (CXE P w) P w K mg base N qual (Ab st) f cdv A outer s H E) (Av K N (Ab st) gb bl):=by
  refine⟨rfl,S.kind,(fun _=>PassesOwn.leaving),rfl,S.nd,fun x=>rfl,fun x hx=>?_,fun _ _=>rfl,rfl,(fun _=>hr.hd),hr.units,fun x hx=>?_,fun x g e=>?_,fun x hx=>?_,(fun _=>⟨rfl,rfl⟩),⟨_,_,_,rfl,rfl,rfl⟩⟩
  ·have:=List.all_eq_true.mp hv x hx
   rw [cL] at this
   exact this.elim (fun z=>.inl (bP z)) fun z=>.inr (.inl (bP z))
  ·rcases hx with hx|hx
   ·exact Fk hx
   ·exact absurd rfl (S.nofree _ (bM hx))
  ·exact (T.all x g e).there hr
  ·exact T.bl x (by have hx':bl.contains x=true:=hx;simpa using hx')
 refine⟨_,(ay5 n _ _ O).2 (Ai st) (fun _ a H'=>E (.ref a) none H') Wg,?_⟩
 rw [rd]
 exact hbody vs H Q E h
end
end L2
namespace L2
open PySem PySem.Spec PyProof.Rows
section
variable {P:aI} {w:bq} {K:aa} {mg:Str->Option Value} {base:Heap} {x q:Str} {st:Stmt} {f:Addr} {d:ai} {ps:List Str}
noncomputable def bv2 (K:aa) (x q:Str) (st:Stmt) (f:Addr):Prop:=∃ d,Fun K x q st f d
structure TopD (K:aa) (q:Str) (st:Stmt) (f:Addr):Prop where
 at_:aF K aw q=some (some (.ref f))
 d:bv2 K q q st f
structure MetD (K:aa) (x q:Str) (st:Stmt) (f:Addr):Prop where
 fn:cC K (.ref f)=true
 d:bv2 K x q st f
theorem top_mk {oc:Value} {od an:Option Addr} {osl:Array (Option Value)} {kV doc pm cdv ct:Value} (a:aF K aw q=some (some (.ref f))) (l:K.lookup f=some ⟨oc,od,.func (bY q q (B9 st) (Ai st) (Ab st) .none kV doc pm an cdv ct),osl⟩)
  (c:c_ K cdv q=true) (k:aj K (.ref f)=true):TopD K q st f:=⟨a,_,Q5 l c k⟩
theorem met_mk {oc:Value} {od an:Option Addr} {osl:Array (Option Value)} {kV doc pm cdv ct:Value} (l:K.lookup f=some ⟨oc,od,.func (bY x q (B9 st) (Ai st) (Ab st) .none kV doc pm an cdv ct),osl⟩)
  (c:c_ K cdv q=true) (k:aj K (.ref f)=true) (i:cC K (.ref f)=true):MetD K x q st f:=⟨i,_,Q5 l c k⟩
structure DOk (K:aa) (mg:Str->Option Value) (q:Str) (st:Stmt) (f:Addr) (d:ai) (ps:List Str):Prop where
 F:FunD K q q st f d .none
 b:Binds K d ps []
 m:mg q=some (.ref f)
structure MOk (K:aa) (x q:Str) (st:Stmt) (f:Addr) (d:ai) (ps:List Str):Prop where
 F:FunD K x q st f d .none
 b:Binds K d ps []
 i:cC K (.ref f)=true
theorem TopD.ok {h:Heap} (D:TopD K q st f) (X:K.In h) (G:h.Ns aw mg) (hb:∀ (kV doc pm:Value) (an:Option Addr) (cdv ct:Value) (us:List Value),us.length=ps.length->ja (bY q q (B9 st) (Ai st) (Ab st) .none kV doc pm an cdv ct) ⟨us,[]⟩=pure (ps.zip us)):∃ d,DOk K mg q st f d ps:=by
 obtain⟨a,d,F⟩:=D
 exact⟨d,F.toD,F.binds hb,aV X G a⟩
theorem MetD.ok (D:MetD K x q st f) (hb:∀ (kV doc pm:Value) (an:Option Addr) (cdv ct:Value) (us:List Value),us.length=ps.length->ja (bY x q (B9 st) (Ai st) (Ab st) .none kV doc pm an cdv ct) ⟨us,[]⟩=pure (ps.zip us)):∃ d,MOk K x q st f d ps:=by
 obtain⟨a,d,F⟩:=D
 exact⟨d,F.toD,F.binds hb,a⟩
theorem am4 {i:FI} (h2:i.ds=[]) (b:Binds K i.fd i.ps []):∀ j,j<=i.dfs.length->Binds K i.fd i.ps (i.ds.drop j):=fun j _=>by
 rw [h2,List.drop_nil];exact b
theorem Tab.con {k:Nat} {gb:List (Str×GB)} {bl:List Str} (T:Tab P w K mg base k gb bl) (i:FI) (g:DOk K mg q st i.f i.fd i.ps) (ok:FnOk P w K mg base CX0 i.k i.f i.fd i.ps i.sp) (hk:i.k<=k:=by exact ae _) (h1:i.dfs=[]:=by rfl) (h2:i.ds=[]:=by rfl):Tab P w K mg base k ((q,.fn i)::gb) bl:=
 T.cons ⟨g.m,g.F.kp,⟨CX0,fun X' _ _=>P3 X',ok⟩,hk,am4 h2 g.b,by rw [h1,h2];exact .nil⟩
theorem Tab.conE {k:Nat} {gb:List (Str×GB)} {bl:List Str} (T:Tab P w K mg base k gb bl) (i:FI) (g:DOk K mg q st i.f i.fd i.ps) (ok:FnOk P w K mg base (CXE P w) i.k i.f i.fd i.ps i.sp) (hk:i.k<=k:=by exact ae _) (h1:i.dfs=[]:=by rfl) (h2:i.ds=[]:=by rfl):Tab P w K mg base k ((q,.fn i)::gb) bl:=
 T.cons ⟨g.m,g.F.kp,⟨CXE P w,fun X' e1 e2=>e1▸e2▸P4 X',ok⟩,hk,am4 h2 g.b,by rw [h1,h2];exact .nil⟩
theorem MOk.fi {k:Nat} (i:FI) (g:MOk K x q st i.f i.fd i.ps) (ok:FnOk P w K mg base CX0 i.k i.f i.fd i.ps i.sp) (hk:i.k<=k:=by exact cy rfl) (h1:i.dfs=[]:=by rfl) (h2:i.ds=[]:=by rfl):FiIn P w K mg base k i:=
 ⟨g.F.kp,⟨CX0,fun X' _ _=>P3 X',ok⟩,hk,am4 h2 g.b,by rw [h1,h2];exact .nil⟩
theorem MOk.fiE {k:Nat} (i:FI) (g:MOk K x q st i.f i.fd i.ps) (ok:FnOk P w K mg base (CXE P w) i.k i.f i.fd i.ps i.sp) (hk:i.k<=k:=by exact cy rfl) (h1:i.dfs=[]:=by rfl) (h2:i.ds=[]:=by rfl):FiIn P w K mg base k i:=
 ⟨g.F.kp,⟨CXE P w,fun X' e1 e2=>e1▸e2▸P4 X',ok⟩,hk,am4 h2 g.b,by rw [h1,h2];exact .nil⟩
end
end L2
namespace K28
open PySem L2
set_option genInjectivity false in
set_option genSizeOfSpec false in
structure Adr where
 f_zav:Addr
 d_zav:ai
 f_zz:Addr
 d_zz:ai
 f_zbb:Addr
 d_zbb:ai
 f_zao:Addr
 d_zao:ai
 f_zq:Addr
 d_zq:ai
 f_zba:Addr
 d_zba:ai
 f_zax:Addr
 d_zax:ai
 f_zap:Addr
 d_zap:ai
 f_zy:Addr
 d_zy:ai
 f_zan:Addr
 d_zan:ai
 f_zi:Addr
 d_zi:ai
 f_zr:Addr
 d_zr:ai
 f_zs:Addr
 d_zs:ai
 f_zh:Addr
 d_zh:ai
 f_zaw:Addr
 d_zaw:ai
 f_zay:Addr
 d_zay:ai
 f_zat:Addr
 d_zat:ai
 f_zw:Addr
 d_zw:ai
 f_zo:Addr
 d_zo:ai
 f_zab:Addr
 d_zab:ai
 f_zk:Addr
 d_zk:ai
 f_zm:Addr
 d_zm:ai
 f_zar:Addr
 d_zar:ai
 f_zae:Addr
 d_zae:ai
 f_zah:Addr
 d_zah:ai
 f_zx:Addr
 d_zx:ai
 f_zal:Addr
 d_zal:ai
 f_zak:Addr
 d_zak:ai
 f_ze:Addr
 d_ze:ai
 f_zbg:Addr
 d_zbg:ai
 f_zau:Addr
 d_zau:ai
 f_zbh:Addr
 d_zbh:ai
 f_zf:Addr
 d_zf:ai
 f_zbi:Addr
 d_zbi:ai
 f_zac:Addr
 d_zac:ai
 f_zp:Addr
 d_zp:ai
 f_zbn:Addr
 d_zbn:ai
 f_zt:Addr
 d_zt:ai
 f_zd:Addr
 d_zd:ai
 f_zaf:Addr
 d_zaf:ai
 f_zu:Addr
 d_zu:ai
 f_zg:Addr
 d_zg:ai
 f_zbm:Addr
 d_zbm:ai
 f_zam:Addr
 d_zam:ai
 f_zas:Addr
 d_zas:ai
 f_zbo:Addr
 d_zbo:ai
 f_zb:Addr
 d_zb:ai
 f_zc:Addr
 d_zc:ai
 f_zv:Addr
 d_zv:ai
 f_zbd:Addr
 d_zbd:ai
 f_zn:Addr
 d_zn:ai
 f_zaq:Addr
 d_zaq:ai
 f_za:Addr
 d_za:ai
 f_zaa:Addr
 d_zaa:ai
 f_zbe:Addr
 d_zbe:ai
 f_zj:Addr
 d_zj:ai
 f_zai:Addr
 d_zai:ai
 f_zl:Addr
 d_zl:ai
 f_zaj:Addr
 d_zaj:ai
 f_zbl:Addr
 d_zbl:ai
 f_zad:Addr
 d_zad:ai
 f_zbj:Addr
 d_zbj:ai
 f_zag:Addr
 d_zag:ai
 f_zbk:Addr
 d_zbk:ai
 f_zbf:Addr
 d_zbf:ai
 f_zaz:Addr
 d_zaz:ai
 f_zbc:Addr
 d_zbc:ai
 f_zbp:Addr
 d_zbp:ai
 c_zbv:Addr
 c_zbx:Addr
 c_zby:Addr
 c_zbu:Addr
 c_zbz:Addr
 c_zch:Addr
 c_zcd:Addr
 c_zck:Addr
 c_zce:Addr
 c_zcc:Addr
 c_zcf:Addr
 c_zca:Addr
 c_zcb:Addr
 c_zcj:Addr
 c_zcg:Addr
 c_zci:Addr
 c_PartEdit:Addr
 c_TextEdit:Addr
 c_TableEdit:Addr
 u_zbq:Value
 u_zbr:Value
 u_zbs:Value
 u_zbw:Value
 u_zbt:Value
 u_zcl:Value
 a_FORMS:Addr
 q_FORMS_put:Addr
 q_FORMS_write:Addr
 q_FORMS_splice:Addr
 q_FORMS_cell:Addr
 q_FORMS_addrow:Addr
 q_FORMS_cutrow:Addr
 q_FORMS_cut:Addr
 q_FORMS_move:Addr
 q_FORMS_wrap:Addr
noncomputable def Cd (t:Adr):List (Key×V):=[(.inr "put", .ref t.q_FORMS_put),(.inr "write", .ref t.q_FORMS_write),(.inr "splice", .ref t.q_FORMS_splice),(.inr "cell", .ref t.q_FORMS_cell),(.inr "addrow", .ref t.q_FORMS_addrow),(.inr "cutrow", .ref t.q_FORMS_cutrow),(.inr "cut", .ref t.q_FORMS_cut),(.inr "move", .ref t.q_FORMS_move),(.inr "wrap", .ref t.q_FORMS_wrap)]
end K28
set_option maxHeartbeats 400000
namespace K28
open PySem L2
noncomputable def B5 (c:Nat):Bool:=(decide (32<=c)&&decide (c<=126))&&c != 37
noncomputable def Ev (c:Nat):Bool:=decide (97<=c)&&decide (c<=122)
noncomputable def V4 (c:Nat):Bool:=decide (48<=c)&&decide (c<=57)
noncomputable def Dg (c:Nat):Bool:=Ev c||(V4 c||c==46)
noncomputable def Ck (a b:Nat) (z:Str):Bool:=decide (a<=z.length)&&decide (z.length<=b)
noncomputable def wfB (z:Str):Bool:=Ck 0 60 z&&z.cps.toList.all B5
noncomputable def nmB (z:Str):Bool:=Ck 1 12 z&&z.cps.toList.all Dg
noncomputable abbrev Th:=Option Dt
noncomputable def AtO (K:aa) (H:Hp):Th->V->Prop
 | some d,x=>At K H d x
 | none,x=>∃ a,x=.ref a/\H a=some (.dK [])
noncomputable def A7:Th->Option Str
 | some (.at_ (.str z))=>some z
 | _=>none
noncomputable def txO (o:Th):Bool:=((A7 o).map wfB).getD false
noncomputable def nmO (o:Th):Bool:=((A7 o).map nmB).getD false
noncomputable def prO (o:Th):Bool:=nmO o||decide (A7 o=some ("" : Str))
noncomputable def whO:Th->Bool
 | some (.at_ (.int _))=>true
 | _=>false
noncomputable def rkO:Th->Bool
 | some (.at_ (.int i))=>decide (0<=i)&&decide (i<=1000000000)
 | _=>false
noncomputable def in6 (n:Nat):Bool:=decide (1<=n)&&decide (n<=6)
noncomputable def rwD:Dt->Bool
 | .tup ds=>in6 ds.length&&ds.all fun d=>txO (some d)
 | _=>false
noncomputable def C3:Dt->Nat
 | .tup ds=>ds.length
 | _=>0
noncomputable def al1:Dt->Bool
 | .tup ds=>in6 ds.length&&(ds.all rwD&&ds.all fun d=>decide (C3 d=C3 (ds.headD (.tup []))))
 | _=>false
noncomputable def rwO (o:Th):Bool:=(o.map rwD).getD false
noncomputable def V5 (o:Th):Bool:=(o.map al1).getD false
noncomputable def kdS (z:Str):Bool:=decide (z = "chapter")||(decide (z = "para")||decide (z = "table"))
noncomputable def kdO (o:Th):Bool:=((A7 o).map kdS).getD false
noncomputable def By (k c:Th):Bool:=if A7 k=some ("table" : Str) then V5 c else txO c
inductive StD:Dt->Prop where
 | at_ (v:V) (h:∀ z,v=.str z->z.length<=100):StD (.at_ v)
 | tup (ds:List Dt) (hl:ds.length<=100) (h:∀ d∈ds,StD d):StD (.tup ds)
 | lst (ds:List Dt) (hl:ds.length<=100) (h:∀ d∈ds,StD d):StD (.lst ds)
noncomputable def stO:Th->Prop
 | some d=>StD d/\dep d<=10
 | none=>True
noncomputable def wds:List Str:=["put", "write", "splice", "cell", "addrow", "cutrow", "cut", "move", "wrap"]
noncomputable def wd (i:Nat):Str:=wds.getD i ""
noncomputable def ars:List Nat:=[5,2,4,4,3,2,1,3,3]
noncomputable def ar (i:Nat):Nat:=ars.getD i 0
noncomputable def okE:Nat->List Th->Bool
 | 0,[n,k,p,r,c]=>(nmO n&&(prO p&&rkO r))&&(kdO k&&By k c)
 | 1,[n,x]=>nmO n&&txO x
 | 2,[n,a,s,x]=>nmO n&&(rkO a&&(rkO s&&txO x))
 | 3,[n,a,s,x]=>nmO n&&(rkO a&&(rkO s&&txO x))
 | 4,[n,a,r]=>nmO n&&(rkO a&&rwO r)
 | 5,[n,a]=>nmO n&&rkO a
 | 6,[n]=>nmO n
 | 7,[n,p,r]=>nmO n&&(prO p&&rkO r)
 | 8,[n,m,x]=>nmO n&&(nmO m&&txO x)
 | _,_=>false
noncomputable def Vz (t:Adr):List Addr:=[t.c_zck,t.c_zce,t.c_zcc,t.c_zcf,t.c_zca,t.c_zcb,t.c_zcj,t.c_zcg,t.c_zci]
noncomputable def cls (t:Adr) (i:Nat):Addr:=(Vz t).getD i 0
noncomputable def Ge:Nat->List Str
 | 0=>["name", "kind", "parent", "rank", "content"]
 | 1=>["part", "text"]
 | 2=>["part", "at", "size", "text"]
 | 3=>["part", "row", "column", "text"]
 | 4=>["part", "at", "cells"]
 | 5=>["part", "at"]
 | 6=>["part"]
 | 7=>["part", "parent", "rank"]
 | 8=>["part", "name", "text"]
 | _=>[]
noncomputable def Ths (K:aa) (H:Hp):List Th->List V->Prop
 | [],xs=>xs=[]
 | o::os,xs=>∃ y ys,xs=y::ys/\AtO K H o y/\Ths K H os ys
noncomputable def TpAt (K:aa) (H:Hp) (os:List Th) (p:Addr):Prop:=∃ xs,SqT K H p xs/\Ths K H os xs
noncomputable def EdAt (K:aa) (t:Adr) (H:Hp) (i:Nat) (as:List Th) (a:Addr):Prop:=∃ dx xs,H a=some (.ins (cls t i) dx ((Ge i).zip xs))/\Ths K H as xs/\as.length=ar i
noncomputable def wdO (i:Nat):Th:=some (A0 (wd i))
noncomputable def But (d:Addr) (H H':Hp):Prop:=∀ b o,b≠d->H b=some o->H' b=some o
noncomputable def Hq (t:Adr) (H:Hp) (b:Addr):Prop:=H b=some (flO b t.c_zby none)
inductive Tg where
 | th (o:Th)
 | tp (os:List Th)
noncomputable def a19 (K:aa) (H:Hp):Tg->V->Prop
 | .th o,x=>AtO K H o x /\ ∀ ds,o≠some (.tup ds)
 | .tp os,x=>∃ p,x=.ref p/\TpAt K H os p
noncomputable def Cc:List Th->Bool
 | o::as=>match A7 o with
  | some z=>decide (as.length=ar (wds.idxOf z))&&okE (wds.idxOf z) as
  | none=>false
 | []=>false
noncomputable def Li:Tg->Bool
 | .tp os=>Cc os
 | .th _=>false
noncomputable def G8 (o:Th):Int:=match A7 o with
 | some z=>if wds.idxOf z<9 then (ar (wds.idxOf z):Int)+1 else -1
 | none=>-1
noncomputable def stL (os:List Th):Prop:=os.length<=10 /\ ∀ o∈os,stO o
noncomputable def kcl (t:Adr) (z:Str):Addr:=if z = "chapter" then t.c_zbz else if z = "para" then t.c_zch else t.c_zcd
noncomputable def Kx:List Str:=["part", "text", "at", "size", "row", "column", "cells", "name", "kind", "parent", "rank", "content"]
noncomputable def ofs (t:Adr):List Addr:=[t.f_zbo,t.f_zbd,t.f_zaq,t.f_zbe,t.f_zai,t.f_zaj,t.f_zbl,t.f_zbj,t.f_zbk]
noncomputable def qfs (t:Adr):List Addr:=[t.q_FORMS_put,t.q_FORMS_write,t.q_FORMS_splice,t.q_FORMS_cell,t.q_FORMS_addrow,t.q_FORMS_cutrow,t.q_FORMS_cut,t.q_FORMS_move,t.q_FORMS_wrap]
structure Al (K:aa) (t:Adr):Prop where
 ed:∀ C∈Vz t,Cls K C /\ ∀ f∈Kx,NoAttr K C f
 kd:∀ C∈[t.c_zbz,t.c_zch,t.c_zcd],Cls K C
 bad:ECls K t.c_zby/\cZ K t.c_zby (.ref t.c_zby)=some true/\bV K (.ref t.c_zby) (.ref t.c_zbv)=some true/\bV K (.ref t.c_zby) (.type "ValueError")=some true/\df K (.ref t.c_zby) [.ref t.c_zbu,.ref t.c_zbx]=some false
 fr:∀ i,i<9 -> ∀ H,SqT K H ((qfs t).getD i 0) [.int (ar i),.ref ((ofs t).getD i 0)]
section
noncomputable def Ve (K:aa) (t:Adr):Sp:=fun vs H Q _=>∃ (x:V) (o:Th) (a b:Nat),vs=[x,.int a,.int b]/\AtO K H o x/\stO o/\Q (.bl (((A7 o).map (Ck a b)).getD false)) H
noncomputable def Sv (K:aa) (t:Adr):Sp:=fun vs H Q _=>∃ c,vs=[.str ⟨#[c]⟩]/\Q (.bl (Ev c)) H
noncomputable def Su (K:aa) (t:Adr):Sp:=fun vs H Q _=>∃ c,vs=[.str ⟨#[c]⟩]/\Q (.bl (V4 c)) H
noncomputable def ai2 (K:aa) (t:Adr):Sp:=fun vs H Q _=>∃ c,vs=[.str ⟨#[c]⟩]/\Q (.bl (Dg c)) H
noncomputable def ai3 (K:aa) (t:Adr):Sp:=fun vs H Q _=>∃ c,vs=[.str ⟨#[c]⟩]/\Q (.bl (B5 c)) H
noncomputable def E7 (f:Th->Bool) (K:aa):Sp:=fun vs H Q _=>∃ (x:V) (o:Th),vs=[x]/\AtO K H o x/\stO o /\ ∀ H',Same H H'->Q (.bl (f o)) H'
noncomputable def Gu (K:aa) (t:Adr):Sp:=E7 nmO K
noncomputable def Sy (K:aa) (t:Adr):Sp:=E7 whO K
noncomputable def Dm (K:aa) (t:Adr):Sp:=E7 rkO K
noncomputable def Eo (K:aa) (t:Adr):Sp:=E7 txO K
noncomputable def Nm (K:aa) (t:Adr):Sp:=E7 prO K
noncomputable def Nn (K:aa) (t:Adr):Sp:=E7 rwO K
noncomputable def G7 (K:aa) (t:Adr):Sp:=E7 rkO K
noncomputable def Ly (K:aa) (t:Adr):Sp:=E7 nmO K
noncomputable def Kk (K:aa) (t:Adr):Sp:=E7 txO K
noncomputable def Vb (K:aa) (t:Adr):Sp:=E7 rwO K
noncomputable def ag4 (K:aa) (t:Adr):Sp:=fun vs H Q _=>∃ (s x:V) (o:Th),vs=[s,x]/\AtO K H o x/\stO o /\ ∀ H',Same H H'->Q (.bl (txO o)) H'
noncomputable def ax1 (K:aa) (t:Adr):Sp:=fun vs H Q _=>∃ (s x:V) (o:Th),vs=[s,x]/\AtO K H o x/\stO o /\ ∀ H',Same H H'->Q (.bl (V5 o)) H'
noncomputable def Vc (K:aa) (t:Adr):Sp:=fun vs H Q _=>∃ (x:V) (o:Th),vs=[x,.int 6]/\AtO K H o x/\Q (.bl (match o with|some (.tup ds)=>in6 ds.length|_=>false)) H
noncomputable def Nl (z:Str):Sp:=fun vs H Q _=>∃ s,vs=[s]/\Q (.str z) H
noncomputable def aw4 (K:aa) (t:Adr):Sp:=Nl "chapter"
noncomputable def ag7 (K:aa) (t:Adr):Sp:=Nl "para"
noncomputable def ax2 (K:aa) (t:Adr):Sp:=Nl "table"
noncomputable def Va (K:aa) (t:Adr):Sp:=fun vs H Q _=>∃ (x:V) (o:Th),vs=[x]/\AtO K H o x/\stO o/\(∀ z,A7 o=some z->kdS z=true -> ∀ H' a dx,Same H H'->H' a=some (.ins (kcl t z) dx [])->Q (.ref a) H')/\(kdO o=false -> ∀ H',Same H H'->Q .non H')
noncomputable def Cl (K:aa) (t:Adr):Sp:=fun vs H Q E=>∃ b:Bool,vs=[.bl b]/\(b=true->Q .non H)/\(b=false -> ∀ H' a,Same H H'->Hq t H' a->E (.ref a) none H')
noncomputable def Cu (i:Nat) (ok:List Th->Bool) (fs:List Str) (K:aa) (t:Adr):Sp:=fun vs H Q E=>∃ (a C dx:Addr) (xs:List V) (as:List Th),vs=.ref a::xs/\H a=some (.ins C dx [])/\(C∈Vz t)/\Ths K H as xs/\stL as/\as.length=fs.length /\
 (ok as=true -> ∀ H',Same H H'->Q .non (upd H' a (.ins C dx (fs.zip xs))))/\(ok as=false -> ∀ H' b,But a H H'->Hq t H' b->E (.ref b) none H')
noncomputable def Lx (K:aa) (t:Adr):Sp:=Cu 6 (okE 6) ["part"] K t
noncomputable def U9 (K:aa) (t:Adr):Sp:=Cu 6 (okE 6) ["part"] K t
noncomputable def Qi (K:aa) (t:Adr):Sp:=Cu 6 (okE 6) ["part"] K t
noncomputable def ah4 (K:aa) (t:Adr):Sp:=Cu 0 (okE 0) (Ge 0) K t
noncomputable def ax3 (K:aa) (t:Adr):Sp:=Cu 1 (okE 1) (Ge 1) K t
noncomputable def aw9 (K:aa) (t:Adr):Sp:=Cu 2 (okE 2) (Ge 2) K t
noncomputable def ag2 (K:aa) (t:Adr):Sp:=Cu 3 (okE 3) (Ge 3) K t
noncomputable def aw5 (K:aa) (t:Adr):Sp:=Cu 4 (okE 4) (Ge 4) K t
noncomputable def aw7 (K:aa) (t:Adr):Sp:=Cu 5 (okE 5) (Ge 5) K t
noncomputable def ag5 (K:aa) (t:Adr):Sp:=Cu 7 (okE 7) (Ge 7) K t
noncomputable def ag8 (K:aa) (t:Adr):Sp:=Cu 8 (okE 8) (Ge 8) K t
noncomputable def C4 (i:Nat) (K:aa) (t:Adr):Sp:=fun vs H Q _=>∃ (a:Addr) (as:List Th),vs=[.ref a]/\EdAt K t H i as a /\ ∀ H' p,Same H H'->TpAt K H' (wdO i::as) p->Q (.ref p) H'
noncomputable def ah5 (K:aa) (t:Adr):Sp:=C4 0 K t
noncomputable def ax4 (K:aa) (t:Adr):Sp:=C4 1 K t
noncomputable def ax0 (K:aa) (t:Adr):Sp:=C4 2 K t
noncomputable def ag3 (K:aa) (t:Adr):Sp:=C4 3 K t
noncomputable def aw6 (K:aa) (t:Adr):Sp:=C4 4 K t
noncomputable def aw8 (K:aa) (t:Adr):Sp:=C4 5 K t
noncomputable def ah3 (K:aa) (t:Adr):Sp:=C4 6 K t
noncomputable def ag6 (K:aa) (t:Adr):Sp:=C4 7 K t
noncomputable def ag9 (K:aa) (t:Adr):Sp:=C4 8 K t
noncomputable def EdO (K:aa) (t:Adr) (H:Hp) (good:Bool) (i:Nat) (as:List Th) (Q:VK) (E:XK):Prop:=(good=true -> ∀ H' a,Same H H'->EdAt K t H' i as a->Q (.ref a) H')/\(good=false -> ∀ H' b,Same H H'->Hq t H' b->E (.ref b) none H')
noncomputable def Fx (i:Nat) (K:aa) (t:Adr):Sp:=fun vs H Q E=>∃ (p:Addr) (as:List Th),vs=[.ref p]/\TpAt K H as p/\stL as/\as.length=ar i/\EdO K t H (okE i as) i as Q E
noncomputable def ai1 (K:aa) (t:Adr):Sp:=Fx 0 K t
noncomputable def ah6 (K:aa) (t:Adr):Sp:=Fx 1 K t
noncomputable def ah2 (K:aa) (t:Adr):Sp:=Fx 2 K t
noncomputable def ah7 (K:aa) (t:Adr):Sp:=Fx 3 K t
noncomputable def ah0 (K:aa) (t:Adr):Sp:=Fx 4 K t
noncomputable def ah1 (K:aa) (t:Adr):Sp:=Fx 5 K t
noncomputable def ai0 (K:aa) (t:Adr):Sp:=Fx 6 K t
noncomputable def ah8 (K:aa) (t:Adr):Sp:=Fx 7 K t
noncomputable def ah9 (K:aa) (t:Adr):Sp:=Fx 8 K t
noncomputable def Td (K:aa) (t:Adr):Sp:=fun vs H Q E=>∃ (x:V) (g:Tg),vs=[x]/\a19 K H g x/\(∀ os,g=.tp os->stL os) /\
 (∀ i as,g=.tp (wdO i::as)->i<9->as.length=ar i->okE i as=true -> ∀ H' a,Same H H'->EdAt K t H' i as a->Q (.ref a) H')/\(Li g=false -> ∀ H' b,Same H H'->Hq t H' b->E (.ref b) none H')
noncomputable def Tc (K:aa) (t:Adr):Sp:=fun vs H Q E=>∃ (p:Addr) (i:Nat) (as:List Th),vs=[.ref p]/\i<9/\TpAt K H (wdO i::as) p/\stL as/\as.length=ar i/\EdO K t H (okE i as) i as Q E
noncomputable def Gq (K:aa) (t:Adr):Sp:=fun vs H Q _=>∃ (a:Addr) (ns:List Int) (k:Nat),vs=[.ref a,.int k]/\SqL K H a (ns.map V.int) /\ ∀ r:Int,Q (.int r) H
noncomputable def Lz (K:aa) (t:Adr):Sp:=fun vs H Q _=>∃ (c:Int) (n:Nat),vs=[.int c,.int n]/\n<=100 /\ ∀ H' l (ns:List Int),Same H H'->H l=none->H' l=some (.lst (ns.map V.int))->ns.length=n->(∀ i∈ns,0<=i/\i<2147483648)->Q (.ref l) H'
noncomputable def Gs (K:aa) (t:Adr):Sp:=fun vs H Q _=>∃ c:Int,vs=[.int c] /\ ∀ z H',Same H H'->wfB z=true->Q (.str z) H'
noncomputable def Sw (K:aa) (t:Adr):Sp:=fun vs H Q _=>∃ c:Int,vs=[.int c] /\ ∀ d H' x,Same H H'->al1 d=true->StD d->dep d<=3->At K H' d x->Q x H'
noncomputable def Vd (K:aa) (t:Adr):Sp:=fun vs H Q _=>∃ (c:Int) (z:Str),vs=[.str z,.int c]/\kdS z=true /\ ∀ o H' x,Same H H'->By (some (A0 z)) o=true->stO o->AtO K H' o x->Q x H'
noncomputable def Gr (K:aa) (t:Adr):Sp:=fun vs H Q _=>∃ (c:Int) (k:Nat),vs=[.int c,.int k]/\k<=100 /\ ∀ z H',Same H H'->nmB z=true->Q (.str z) H'
noncomputable def S0 (K:aa) (t:Adr):Sp:=fun vs H Q _=>∃ c:Int,vs=[.int c] /\ ∀ H' p i as,Same H H'->i<9->as.length=ar i->okE i as=true->stL (wdO i::as)->TpAt K H' (wdO i::as) p->Q (.ref p) H'
noncomputable def Sx (K:aa) (t:Adr):Sp:=fun vs H Q _=>∃ c:Int,vs=[.int c] /\ ∀ H' o x,Same H H'->stO o->AtO K H' o x->Q x H'
noncomputable def ai4 (K:aa) (t:Adr):Sp:=fun vs H Q _=>∃ (p:Addr) (os:List Th) (c d:Int),vs=[.ref p,.int c,.int d]/\TpAt K H os p/\(∀ o∈os,stO o)/\2<=os.length/\os.length<=6 /\ ∀ H' q os',Same H H'->TpAt K H' os' q->stL os'->1<=os'.length->Q (.ref q) H'
noncomputable def Sz (K:aa) (t:Adr):Sp:=fun vs H Q _=>∃ (x y:V) (k o:Th),vs=[x,y]/\AtO K H k x/\AtO K H o y/\stO k/\stO o /\ ∀ H',Same H H'->Q (.bl (kdO k&&By k o)) H'
noncomputable def Kj (K:aa) (t:Adr):Sp:=fun vs H Q _=>∃ (x:V) (o:Th),vs=[x]/\AtO K H o x/\stO o /\ ∀ H',Same H H'->Q (.int (G8 o)) H'
noncomputable def Ta (K:aa) (t:Adr):Sp:=fun vs H Q _=>∃ (p:Addr) (os:List Th),vs=[.ref p]/\TpAt K H os p/\stL os /\ ∀ H',Same H H'->Q (.bl (Cc os)) H'
noncomputable def Cv (K:aa) (t:Adr):Sp:=fun vs H Q _=>∃ (x:V) (g:Tg) (b:Bool),vs=[x,.bl b]/\a19 K H g x/\(∀ os,g=.tp os->stL os)/\(b=true -> ∃ i as,g=.tp (wdO i::as)/\i<9/\as.length=ar i) /\
 (∀ os,g=.tp os->Cc os=true -> ∀ H' p,Same H H'->TpAt K H' os p->Q (.ref p) H')/\(Li g=false -> ∀ H',Same H H'->Q (.str "refused") H')
noncomputable def No (K:aa) (t:Adr):Sp:=fun vs H Q _=>∃ (a:Addr) (ns:List Int),vs=[.ref a]/\SqL K H a (ns.map V.int)/\ns.length<=63 /\ ∀ H',Q (.bl true) H'
end
end K28
set_option maxHeartbeats 4000000
namespace K28
open PySem L2
noncomputable def top (i:Nat):Stmt:=PySem.Challenge.pw_manyleaf_k28_no_edit.main.body.getD i (.Pass ⟨0,0,0,0⟩)
noncomputable def bl:List Str:=["ValueError", "all", "bool", "int", "isinstance", "len", "list", "max", "min", "ord", "range", "str", "tuple"]
section
variable (K:aa) (t:Adr)
noncomputable abbrev Jw:Stmt:=top 59
noncomputable abbrev Xs:List Str:=["_law_script", "_law_k"]
noncomputable abbrev Oj:List Str:=["_law_script", "_law_k"]
noncomputable def at5:FI:=⟨t.f_zav,t.d_zav,Oj,1,Gq K t,[],[]⟩
noncomputable abbrev Sq:Stmt:=top 60
noncomputable abbrev a15:List Str:=["_law_cell_here", "_law_many", "_law_found", "_law_left", "_law_number", "_law_k"]
noncomputable abbrev Y3:List Str:=["_law_cell_here", "_law_many"]
noncomputable def by3:FI:=⟨t.f_zz,t.d_zz,Y3,1,Lz K t,[],[]⟩
noncomputable abbrev J2:Stmt:=top 61
noncomputable abbrev Xy:List Str:=["_law_cell_here", "_law_signs", "_law_xs", "_law_size", "_law_text_here", "_law_x"]
noncomputable abbrev Oq:List Str:=["_law_cell_here"]
noncomputable def au1:FI:=⟨t.f_zbb,t.d_zbb,Oq,2,Gs K t,[],[]⟩
noncomputable abbrev Jp:Stmt:=top 62
noncomputable abbrev Xl:List Str:=["_law_cell_here", "_law_xs", "_law_many", "_law_wide", "_law_rows", "_law_j"]
noncomputable abbrev Oc:List Str:=["_law_cell_here"]
noncomputable def at2:FI:=⟨t.f_zao,t.d_zao,Oc,3,Sw K t,[],[]⟩
noncomputable abbrev Sd:Stmt:=top 63
noncomputable abbrev a06:List Str:=["_law_kind", "_law_cell_here"]
noncomputable abbrev Yu:List Str:=["_law_kind", "_law_cell_here"]
noncomputable def bx8:FI:=⟨t.f_zq,t.d_zq,Yu,4,Vd K t,[],[]⟩
noncomputable abbrev J1:Stmt:=top 64
noncomputable abbrev Xx:List Str:=["_law_cell_here", "_law_k", "_law_some", "_law_signs", "_law_tail", "_law_size", "_law_at", "_law_base"]
noncomputable abbrev Op:List Str:=["_law_cell_here", "_law_k"]
noncomputable def au0:FI:=⟨t.f_zba,t.d_zba,Op,1,Gr K t,[],[]⟩
noncomputable abbrev Jy:Stmt:=top 65
noncomputable abbrev Xu:List Str:=["_law_cell_here", "_law_xs", "_law_part", "_law_other", "_law_text_here", "_law_at", "_law_size", "_law_cells", "_law_kind", "_law_forms"]
noncomputable abbrev Om:List Str:=["_law_cell_here"]
noncomputable def at7:FI:=⟨t.f_zax,t.d_zax,Om,5,S0 K t,[],[]⟩
noncomputable abbrev Jq:Stmt:=top 66
noncomputable abbrev Xm:List Str:=["_law_cell_here", "_law_some"]
noncomputable abbrev Od:List Str:=["_law_cell_here"]
noncomputable def at3:FI:=⟨t.f_zap,t.d_zap,Od,1,Sx K t,[],[]⟩
noncomputable abbrev So:Stmt:=top 67
noncomputable abbrev a14:List Str:=["_law_told_here", "_law_cell_here", "_law_other", "_law_at", "_law_to", "_law_things"]
noncomputable abbrev Y2:List Str:=["_law_told_here", "_law_cell_here", "_law_other"]
noncomputable def by2:FI:=⟨t.f_zy,t.d_zy,Y2,2,ai4 K t,[],[]⟩
noncomputable abbrev Jo:Stmt:=top 73
noncomputable abbrev Xk:List Str:=["_law_word", "_law_counts", "_law_known", "_law_many"]
noncomputable abbrev Ob:List Str:=["_law_word"]
noncomputable def at1:FI:=⟨t.f_zan,t.d_zan,Ob,1,Kj K t,[],[]⟩
noncomputable abbrev R5:Stmt:=top 68
noncomputable abbrev az8:List Str:=["_law_thing_here"]
noncomputable abbrev Ym:List Str:=["_law_thing_here"]
noncomputable def bx6:FI:=⟨t.f_zi,t.d_zi,Ym,1,G7 K t,[],[]⟩
noncomputable abbrev Se:Stmt:=top 69
noncomputable abbrev a07:List Str:=["_law_thing_here"]
noncomputable abbrev Yv:List Str:=["_law_thing_here"]
noncomputable def bx9:FI:=⟨t.f_zr,t.d_zr,Yv,1,Ly K t,[],[]⟩
noncomputable abbrev Sf:Stmt:=top 70
noncomputable abbrev a08:List Str:=["_law_thing_here"]
noncomputable abbrev Yw:List Str:=["_law_thing_here"]
noncomputable def by0:FI:=⟨t.f_zs,t.d_zs,Yw,1,Kk K t,[],[]⟩
noncomputable abbrev R0:Stmt:=top 71
noncomputable abbrev az7:List Str:=["_law_thing_here"]
noncomputable abbrev Yl:List Str:=["_law_thing_here"]
noncomputable def bx5:FI:=⟨t.f_zh,t.d_zh,Yl,2,Vb K t,[],[]⟩
noncomputable abbrev Jx:Stmt:=top 72
noncomputable abbrev Xt:List Str:=["_law_kind", "_law_thing_here", "_law_row"]
noncomputable abbrev Ol:List Str:=["_law_kind", "_law_thing_here"]
noncomputable def at6:FI:=⟨t.f_zaw,t.d_zaw,Ol,3,Sz K t,[],[]⟩
noncomputable abbrev Jz:Stmt:=top 74
noncomputable abbrev Xv:List Str:=["_law_told_here", "_law_word"]
noncomputable abbrev On:List Str:=["_law_told_here"]
noncomputable def at8:FI:=⟨t.f_zay,t.d_zay,On,4,Ta K t,[],[]⟩
noncomputable abbrev Ju:Stmt:=A3 (top 32) 3
noncomputable abbrev Xq:List Str:=["self"]
noncomputable abbrev Oh:List Str:=["self"]
noncomputable def Z7:FI:=⟨t.f_zat,t.d_zat,Oh,1,ah5 K t,[],[]⟩
noncomputable abbrev Sk:Stmt:=A3 (top 35) 1
noncomputable abbrev a12:List Str:=["self"]
noncomputable abbrev Y0:List Str:=["self"]
noncomputable def a48:FI:=⟨t.f_zw,t.d_zw,Y0,1,ax4 K t,[],[]⟩
noncomputable abbrev Sb:Stmt:=A3 (top 36) 1
noncomputable abbrev a04:List Str:=["self"]
noncomputable abbrev Ys:List Str:=["self"]
noncomputable def a45:FI:=⟨t.f_zo,t.d_zo,Ys,1,ax0 K t,[],[]⟩
noncomputable abbrev Jc:Stmt:=A3 (top 38) 1
noncomputable abbrev W8:List Str:=["self"]
noncomputable abbrev Nz:List Str:=["self"]
noncomputable def Zx:FI:=⟨t.f_zab,t.d_zab,Nz,1,ag3 K t,[],[]⟩
noncomputable abbrev R7:Stmt:=A3 (top 39) 1
noncomputable abbrev a00:List Str:=["self"]
noncomputable abbrev Yo:List Str:=["self"]
noncomputable def a43:FI:=⟨t.f_zk,t.d_zk,Yo,1,aw6 K t,[],[]⟩
noncomputable abbrev R9:Stmt:=A3 (top 40) 1
noncomputable abbrev a02:List Str:=["self"]
noncomputable abbrev Yq:List Str:=["self"]
noncomputable def a44:FI:=⟨t.f_zm,t.d_zm,Yq,1,aw8 K t,[],[]⟩
noncomputable abbrev Js:Stmt:=A3 (top 41) 0
noncomputable abbrev Xo:List Str:=["self"]
noncomputable abbrev Of:List Str:=["self"]
noncomputable def Z6:FI:=⟨t.f_zar,t.d_zar,Of,1,ah3 K t,[],[]⟩
noncomputable abbrev Jf:Stmt:=A3 (top 42) 1
noncomputable abbrev Xb:List Str:=["self"]
noncomputable abbrev N2:List Str:=["self"]
noncomputable def Zy:FI:=⟨t.f_zae,t.d_zae,N2,1,ag6 K t,[],[]⟩
noncomputable abbrev Ji:Stmt:=A3 (top 43) 2
noncomputable abbrev Xe:List Str:=["self"]
noncomputable abbrev N5:List Str:=["self"]
noncomputable def Z0:FI:=⟨t.f_zah,t.d_zah,N5,1,ag9 K t,[],[]⟩
noncomputable abbrev Sl:Stmt:=top 14
noncomputable abbrev a13:List Str:=["thing", "least", "greatest"]
noncomputable abbrev Y1:List Str:=["thing", "least", "greatest"]
noncomputable def by1:FI:=⟨t.f_zx,t.d_zx,Y1,1,Ve K t,[],[]⟩
noncomputable abbrev Jm:Stmt:=top 15
noncomputable abbrev Xi:List Str:=["sign"]
noncomputable abbrev N9:List Str:=["sign"]
noncomputable def as9:FI:=⟨t.f_zal,t.d_zal,N9,1,Sv K t,[],[]⟩
noncomputable abbrev Jl:Stmt:=top 16
noncomputable abbrev Xh:List Str:=["sign"]
noncomputable abbrev N8:List Str:=["sign"]
noncomputable def as8:FI:=⟨t.f_zak,t.d_zak,N8,1,Su K t,[],[]⟩
noncomputable abbrev Rx:Stmt:=top 17
noncomputable abbrev az4:List Str:=["sign"]
noncomputable abbrev Yi:List Str:=["sign"]
noncomputable def bx2:FI:=⟨t.f_ze,t.d_ze,Yi,2,ai2 K t,[],[]⟩
noncomputable abbrev J7:Stmt:=top 11
noncomputable abbrev X3:List Str:=["thing"]
noncomputable abbrev Ow:List Str:=["thing"]
noncomputable def au4:FI:=⟨t.f_zbg,t.d_zbg,Ow,3,Gu K t,[],[]⟩
noncomputable abbrev Jv:Stmt:=top 10
noncomputable abbrev Xr:List Str:=["thing"]
noncomputable abbrev Oi:List Str:=["thing"]
noncomputable def at4:FI:=⟨t.f_zau,t.d_zau,Oi,1,Sy K t,[],[]⟩
noncomputable abbrev J8:Stmt:=top 13
noncomputable abbrev X4:List Str:=["thing"]
noncomputable abbrev Ox:List Str:=["thing"]
noncomputable def au5:FI:=⟨t.f_zbh,t.d_zbh,Ox,2,Dm K t,[],[]⟩
noncomputable abbrev Ry:Stmt:=top 18
noncomputable abbrev az5:List Str:=["sign"]
noncomputable abbrev Yj:List Str:=["sign"]
noncomputable def bx3:FI:=⟨t.f_zf,t.d_zf,Yj,1,ai3 K t,[],[]⟩
noncomputable abbrev J9:Stmt:=top 12
noncomputable abbrev X5:List Str:=["thing"]
noncomputable abbrev Oy:List Str:=["thing"]
noncomputable def au6:FI:=⟨t.f_zbi,t.d_zbi,Oy,2,Eo K t,[],[]⟩
noncomputable abbrev Jd:Stmt:=A3 (top 22) 1
noncomputable abbrev W9:List Str:=["self", "content"]
noncomputable abbrev N0:List Str:=["self", "content"]
noncomputable def Ll:FI:=⟨t.f_zac,t.d_zac,N0,3,ag4 K t,[],[]⟩
noncomputable abbrev Sc:Stmt:=top 27
noncomputable abbrev a05:List Str:=["thing", "most"]
noncomputable abbrev Yt:List Str:=["thing", "most"]
noncomputable def bx7:FI:=⟨t.f_zp,t.d_zp,Yt,1,Vc K t,[],[]⟩
noncomputable abbrev Ke:Stmt:=top 28
noncomputable abbrev Ya:List Str:=["thing"]
noncomputable abbrev O3:List Str:=["thing"]
noncomputable def au8:FI:=⟨t.f_zbn,t.d_zbn,O3,3,Nn K t,[],[]⟩
noncomputable abbrev Sh:Stmt:=A3 (top 25) 1
noncomputable abbrev a09:List Str:=["self", "content"]
noncomputable abbrev Yx:List Str:=["self", "content"]
noncomputable def a46:FI:=⟨t.f_zt,t.d_zt,Yx,4,ax1 K t,[],[]⟩
noncomputable abbrev Rw:Stmt:=A3 (top 23) 0
noncomputable abbrev az3:List Str:=["self"]
noncomputable abbrev Yh:List Str:=["self"]
noncomputable def a42:FI:=⟨t.f_zd,t.d_zd,Yh,1,aw4 K t,[],[]⟩
noncomputable abbrev Jg:Stmt:=A3 (top 24) 0
noncomputable abbrev Xc:List Str:=["self"]
noncomputable abbrev N3:List Str:=["self"]
noncomputable def Zz:FI:=⟨t.f_zaf,t.d_zaf,N3,1,ag7 K t,[],[]⟩
noncomputable abbrev Si:Stmt:=A3 (top 25) 0
noncomputable abbrev a10:List Str:=["self"]
noncomputable abbrev Yy:List Str:=["self"]
noncomputable def a47:FI:=⟨t.f_zu,t.d_zu,Yy,1,ax2 K t,[],[]⟩
noncomputable abbrev Rz:Stmt:=top 26
noncomputable abbrev az6:List Str:=["word", "kind"]
noncomputable abbrev Yk:List Str:=["word"]
noncomputable def bx4:FI:=⟨t.f_zg,t.d_zg,Yk,2,Va K t,[],[]⟩
noncomputable abbrev Kd:Stmt:=top 44
noncomputable abbrev X9:List Str:=["truth"]
noncomputable abbrev O2:List Str:=["truth"]
noncomputable def au7:FI:=⟨t.f_zbm,t.d_zbm,O2,1,Cl K t,[],[]⟩
noncomputable abbrev Jn:Stmt:=top 45
noncomputable abbrev Xj:List Str:=["thing"]
noncomputable abbrev Oa:List Str:=["thing"]
noncomputable def at0:FI:=⟨t.f_zam,t.d_zam,Oa,4,Nm K t,[],[]⟩
noncomputable abbrev Jt:Stmt:=A3 (top 32) 0
noncomputable abbrev Xp:List Str:=["self", "name", "kind", "parent", "rank", "content"]
noncomputable abbrev Og:List Str:=["self", "name", "kind", "parent", "rank", "content"]
noncomputable def Pt:FI:=⟨t.f_zas,t.d_zas,Og,5,ah4 K t,[],[]⟩
noncomputable abbrev Kf:Stmt:=top 47
noncomputable abbrev Yb:List Str:=["things"]
noncomputable abbrev O4:List Str:=["things"]
noncomputable def aa3:FI:=⟨t.f_zbo,t.d_zbo,O4,7,ai1 K t,[],[]⟩
noncomputable abbrev Ru:Stmt:=A3 (top 33) 0
noncomputable abbrev az1:List Str:=["self", "part"]
noncomputable abbrev Yf:List Str:=["self", "part"]
noncomputable def Pu:FI:=⟨t.f_zb,t.d_zb,Yf,4,Lx K t,[],[]⟩
noncomputable abbrev Rv:Stmt:=A3 (top 34) 0
noncomputable abbrev az2:List Str:=["self", "part"]
noncomputable abbrev Yg:List Str:=["self", "part"]
noncomputable def a41:FI:=⟨t.f_zc,t.d_zc,Yg,6,U9 K t,[],[]⟩
noncomputable abbrev Sj:Stmt:=A3 (top 35) 0
noncomputable abbrev a11:List Str:=["self", "part", "text"]
noncomputable abbrev Yz:List Str:=["self", "part", "text"]
noncomputable def aa7:FI:=⟨t.f_zv,t.d_zv,Yz,8,ax3 K t,[],[]⟩
noncomputable abbrev J4:Stmt:=top 48
noncomputable abbrev X0:List Str:=["things"]
noncomputable abbrev Ot:List Str:=["things"]
noncomputable def Z8:FI:=⟨t.f_zbd,t.d_zbd,Ot,10,ah6 K t,[],[]⟩
noncomputable abbrev Sa:Stmt:=A3 (top 36) 0
noncomputable abbrev a03:List Str:=["self", "part", "at", "size", "text"]
noncomputable abbrev Yr:List Str:=["self", "part", "at", "size", "text"]
noncomputable def aa6:FI:=⟨t.f_zn,t.d_zn,Yr,8,aw9 K t,[],[]⟩
noncomputable abbrev Jr:Stmt:=top 49
noncomputable abbrev Xn:List Str:=["things"]
noncomputable abbrev Oe:List Str:=["things"]
noncomputable def Z5:FI:=⟨t.f_zaq,t.d_zaq,Oe,10,ah2 K t,[],[]⟩
noncomputable abbrev Rt:Stmt:=A3 (top 37) 0
noncomputable abbrev az0:List Str:=["self", "part"]
noncomputable abbrev Ye:List Str:=["self", "part"]
noncomputable def a40:FI:=⟨t.f_za,t.d_za,Ye,6,Qi K t,[],[]⟩
noncomputable abbrev Jb:Stmt:=A3 (top 38) 0
noncomputable abbrev W7:List Str:=["self", "part", "row", "column", "text"]
noncomputable abbrev Ny:List Str:=["self", "part", "row", "column", "text"]
noncomputable def Pp:FI:=⟨t.f_zaa,t.d_zaa,Ny,8,ag2 K t,[],[]⟩
noncomputable abbrev J5:Stmt:=top 50
noncomputable abbrev X1:List Str:=["things"]
noncomputable abbrev Ou:List Str:=["things"]
noncomputable def Z9:FI:=⟨t.f_zbe,t.d_zbe,Ou,10,ah7 K t,[],[]⟩
noncomputable abbrev R6:Stmt:=A3 (top 39) 0
noncomputable abbrev az9:List Str:=["self", "part", "at", "cells"]
noncomputable abbrev Yn:List Str:=["self", "part", "at", "cells"]
noncomputable def aa4:FI:=⟨t.f_zj,t.d_zj,Yn,8,aw5 K t,[],[]⟩
noncomputable abbrev Jj:Stmt:=top 51
noncomputable abbrev Xf:List Str:=["things"]
noncomputable abbrev N6:List Str:=["things"]
noncomputable def Z3:FI:=⟨t.f_zai,t.d_zai,N6,10,ah0 K t,[],[]⟩
noncomputable abbrev R8:Stmt:=A3 (top 40) 0
noncomputable abbrev a01:List Str:=["self", "part", "at"]
noncomputable abbrev Yp:List Str:=["self", "part", "at"]
noncomputable def aa5:FI:=⟨t.f_zl,t.d_zl,Yp,8,aw7 K t,[],[]⟩
noncomputable abbrev Jk:Stmt:=top 52
noncomputable abbrev Xg:List Str:=["things"]
noncomputable abbrev N7:List Str:=["things"]
noncomputable def Z4:FI:=⟨t.f_zaj,t.d_zaj,N7,10,ah1 K t,[],[]⟩
noncomputable abbrev Kc:Stmt:=top 53
noncomputable abbrev X8:List Str:=["things"]
noncomputable abbrev O1:List Str:=["things"]
noncomputable def aa2:FI:=⟨t.f_zbl,t.d_zbl,O1,6,ai0 K t,[],[]⟩
noncomputable abbrev Je:Stmt:=A3 (top 42) 0
noncomputable abbrev Xa:List Str:=["self", "part", "parent", "rank"]
noncomputable abbrev N1:List Str:=["self", "part", "parent", "rank"]
noncomputable def Pq:FI:=⟨t.f_zad,t.d_zad,N1,6,ag5 K t,[],[]⟩
noncomputable abbrev Ka:Stmt:=top 54
noncomputable abbrev X6:List Str:=["things"]
noncomputable abbrev Oz:List Str:=["things"]
noncomputable def aa0:FI:=⟨t.f_zbj,t.d_zbj,Oz,8,ah8 K t,[],[]⟩
noncomputable abbrev Jh:Stmt:=A3 (top 43) 0
noncomputable abbrev Xd:List Str:=["self", "part", "name", "text"]
noncomputable abbrev N4:List Str:=["self", "part", "name", "text"]
noncomputable def Ps:FI:=⟨t.f_zag,t.d_zag,N4,6,ag8 K t,[],[]⟩
noncomputable abbrev Kb:Stmt:=top 55
noncomputable abbrev X7:List Str:=["things"]
noncomputable abbrev O0:List Str:=["things"]
noncomputable def aa1:FI:=⟨t.f_zbk,t.d_zbk,O0,8,ah9 K t,[],[]⟩
noncomputable abbrev J6:Stmt:=top 57
noncomputable abbrev X2:List Str:=["told", "form", "make"]
noncomputable abbrev Ov:List Str:=["told"]
noncomputable def au3:FI:=⟨t.f_zbf,t.d_zbf,Ov,11,Td K t,[],[]⟩
noncomputable abbrev J0:Stmt:=top 75
noncomputable abbrev Xw:List Str:=["_law_told_here"]
noncomputable abbrev Oo:List Str:=["_law_told_here"]
noncomputable def at9:FI:=⟨t.f_zaz,t.d_zaz,Oo,10,Tc K t,[],[]⟩
noncomputable abbrev J3:Stmt:=top 76
noncomputable abbrev Xz:List Str:=["_law_thing_here", "_law_by_class", "_law_told_here", "e"]
noncomputable abbrev Os:List Str:=["_law_thing_here", "_law_by_class"]
noncomputable def au2:FI:=⟨t.f_zbc,t.d_zbc,Os,12,Cv K t,[],[]⟩
noncomputable abbrev Du:Stmt:=top 77
noncomputable abbrev Yc:List Str:=["_law_script", "_law_k", "_law_told_here", "_law_spoilt_here", "_law_due", "_law_things"]
noncomputable abbrev O5:List Str:=["_law_script"]
noncomputable def Fu:List MI:=[⟨t.c_zbz,Ll K t⟩,⟨t.c_zch,Ll K t⟩,⟨t.c_zcd,a46 K t⟩]
noncomputable def Ew:List MI:=[⟨t.c_zck,Z7 K t⟩,⟨t.c_zce,a48 K t⟩,⟨t.c_zcc,a45 K t⟩,⟨t.c_zcf,Zx K t⟩,⟨t.c_zca,a43 K t⟩,⟨t.c_zcb,a44 K t⟩,⟨t.c_zcj,Z6 K t⟩,⟨t.c_zcg,Zy K t⟩,⟨t.c_zci,Z0 K t⟩]
noncomputable def Hk:List MI:=[⟨t.c_zbz,a42 K t⟩,⟨t.c_zch,Zz K t⟩,⟨t.c_zcd,a47 K t⟩]
noncomputable def A8 (K:aa) (t:Adr):List (Str×GB):=[("LeafError", .exc t.c_zbv none),("BadCond", .exc t.c_zbx none),("BadEdit", .exc t.c_zby none),("EditError", .val (.ref t.c_zbu) (.ref t.c_zbu)),("Chapter", .cls t.c_zbz none),("Para", .cls t.c_zch none),("Table", .cls t.c_zcd none),("Put", .val (.ref t.c_zck) (.ref t.c_zck)),("Write", .val (.ref t.c_zce) (.ref t.c_zce)),("Splice", .val (.ref t.c_zcc) (.ref t.c_zcc)),("Cell", .val (.ref t.c_zcf) (.ref t.c_zcf)),("AddRow", .val (.ref t.c_zca) (.ref t.c_zca)),("CutRow", .val (.ref t.c_zcb) (.ref t.c_zcb)),("Cut", .val (.ref t.c_zcj) (.ref t.c_zcj)),("Move", .val (.ref t.c_zcg) (.ref t.c_zcg)),("Wrap", .val (.ref t.c_zci) (.ref t.c_zci)),("GREATEST_RANK", .val (.int 1000000000) t.u_zbq),("LONGEST_TEXT", .val (.int 60) t.u_zbr),("PERCENT_SIGN", .val (.int 37) t.u_zbs),("MOST_ROWS", .val (.int 6) t.u_zbw),("MOST_CELLS", .val (.int 6) t.u_zbt),("TOP", .val (.str "") t.u_zcl),("FORMS", .dic t.a_FORMS (Cd t))]
noncomputable def E3:List (Str×GB):=("", .met "told" (Ew K t))::("", .met "word" (Hk K t))::("_law_cell", .fn (at5 K t))::("_law_stream", .fn (by3 K t))::("_law_name", .fn (au0 K t))::("_law_thing", .fn (at3 K t))::("_law_count", .fn (at1 K t))::("_law_is_whole", .fn (bx6 K t))::("_law_is_name", .fn (bx9 K t))::("_law_is_text", .fn (by0 K t))::("has_length", .fn (by1 K t))::("is_letter", .fn (as9 K t))::("is_figure", .fn (as8 K t))::("is_whole", .fn (at4 K t))::("is_text_sign", .fn (bx3 K t))::("is_tuple_of", .fn (bx7 K t))::("insist", .fn (au7 K t))::A8 K t
noncomputable def G9:List (Str×GB):=("_law_text", .fn (au1 K t))::("_law_spoilt", .fn (by2 K t))::("_law_is_cells", .fn (bx5 K t))::("is_name_sign", .fn (bx2 K t))::("is_rank", .fn (au5 K t))::("is_text", .fn (au6 K t))::("kind_of_word", .fn (bx4 K t))::E3 K t
noncomputable def Hb:List (Str×GB):=("_law_table", .fn (at2 K t))::("_law_fits", .fn (at6 K t))::("is_name", .fn (au4 K t))::("is_row", .fn (au8 K t))::G9 K t
noncomputable def V6:List (Str×GB):=("", .met "fits" (Fu K t))::("_law_content", .fn (bx8 K t))::("_law_good", .fn (at8 K t))::("is_parent", .fn (at0 K t))::("PartEdit", .ini t.c_PartEdit (Pu K t))::Hb K t
noncomputable def Hc:List (Str×GB):=("_law_form", .fn (at7 K t))::("Cut", .cls t.c_zcj (some (Pu K t)))::V6 K t
noncomputable def Gg:List (Str×GB):=("cut_of", .fn (aa2 K t))::("Put", .cls t.c_zck (some (Pt K t)))::("TextEdit", .ini t.c_TextEdit (a41 K t))::("TableEdit", .ini t.c_TableEdit (a40 K t))::Hc K t
noncomputable def Cp:List (Str×GB):=("put_of", .fn (aa3 K t))::("Move", .cls t.c_zcg (some (Pq K t)))::("Wrap", .cls t.c_zci (some (Ps K t)))::Gg K t
noncomputable def Ie:List (Str×GB):=("move_of", .fn (aa0 K t))::("wrap_of", .fn (aa1 K t))::Cp K t
noncomputable def C9:List (Str×GB):=("Write", .cls t.c_zce (some (aa7 K t)))::("Splice", .cls t.c_zcc (some (aa6 K t)))::("Cell", .cls t.c_zcf (some (Pp K t)))::("AddRow", .cls t.c_zca (some (aa4 K t)))::("CutRow", .cls t.c_zcb (some (aa5 K t)))::Ie K t
noncomputable def C8:List (Str×GB):=("write_of", .fn (Z8 K t))::("splice_of", .fn (Z5 K t))::("cell_of", .fn (Z9 K t))::("addrow_of", .fn (Z3 K t))::("cutrow_of", .fn (Z4 K t))::("_law_made", .fn (at9 K t))::C9 K t
noncomputable def Uh:List (Str×GB):=("edit_of", .fn (au3 K t))::C8 K t
noncomputable def Zr:List (Str×GB):=("_law_told", .fn (au2 K t))::Uh K t
end
noncomputable def cc7 (K:aa) (t:Adr):DS:=
 (Ag (dIf (Az (Ad bg8 (Ac 1) (dFn (fun vs H Q _=>(Ct K) vs H Q) (Aa (Ac 0) Ae)))) (Ag (Am (Ad (Ak K) (Ac 0) (Ac 1)))
  Ah) Ah)
 (Ag (Am (Ad (Ci K) (Ad (As K) (Ac 1) (dC (.int 3))) (dC (.int 7919))))
 Ah))
theorem bj1 (K:aa) (t:Adr):wSs 40 (Av K Xs (Ab Jw) (A8 K t) bl) (Ai Jw)=cc7 K t:=by kernel_rfl
theorem bn4:Aj Xs Oj (Ab Jw):=⟨rfl,rfl,rfl,by decide +kernel,rfl,by decide +kernel,by decide +kernel⟩
theorem bs8:An Xs (Ab Jw)=true:=by decide +kernel
noncomputable def cn7 (K:aa) (t:Adr):DS:=
 (Ag (A1 2 (Bm Ae))
 (Ag (A1 3 (Ad A5 (Ac 0) (dC (.int 2))))
 (Ag (A1 4 (Ad (As K) (Ad Ar (Ac 0) (dC (.int 2147483629))) (dC (.int 17))))
 (Ag (Mm (Po (Aa (Ac 1) Ae)) (gdN 5) (Ag (A1 4 (Ad Ar (Ad (As K) (Ad (As K) (Ad (Ci K) (Ac 4) (dC (.int 48271))) (Ad (Ci K) (dC (.int 7919)) (Ac 5))) (dC (.int 1))) (dC (.int 2147483647))))
  (Ag (dIf (Gb (Az (Ad (Aw K false) (Ad Ar (Ac 0) (dC (.int 2))) (dC (.int 1)))) (Gb (Az (Ad (Aw K true) (Ac 3) (dC (.int 0)))) (Az (Ad (Aw K true) (Ac 3) (dUn Fw (dC (.int 1))))))) (Ag (Bo (dMt (rMt K [⟨"list", "list.append", D3⟩]) (Ac 2) (Aa (Ad Ar (Ac 3) (dC (.int 268435456))) Ae)))
   (Ag (A1 3 (Ad A5 (Ac 3) (dC (.int 268435456))))
   Ah)) (Ag (Bo (dMt (rMt K [⟨"list", "list.append", D3⟩]) (Ac 2) (Aa (Ad A5 (Ad Ar (Ad (As K) (Ad (Ci K) (Ad Ar (Ad (Ci K) (Ac 4) (Ac 4)) (dC (.int 2147483629))) (dC (.int 16807))) (Ac 5)) (dC (.int 2147483587))) (dC (.int 8))) Ae)))
   Ah))
  Ah)))
 (Ag (Am (Ac 2))
 Ah)))))
theorem b69 (K:aa) (t:Adr):wSs 40 (Av K a15 (Ab Sq) (A8 K t) bl) (Ai Sq)=cn7 K t:=by kernel_rfl
theorem b96:Aj a15 Y3 (Ab Sq):=⟨rfl,rfl,rfl,by decide +kernel,rfl,by decide +kernel,by decide +kernel⟩
theorem ch8:An a15 (Ab Sq)=true:=by decide +kernel
noncomputable def cd1 (K:aa) (t:Adr):DS:=
 (Ag (A1 1 (Ad (As K) (dC (.str " !#$&'()*+,-./0123456789:;<=>?@ABCDEFGHIJKLMNOPQRSTUVWXYZ[\\]^_`abcdefghijklmnopqrstuvwxyz{|}~")) (dC (.str "\""))))
 (Ag (A1 2 (dFn (spE (Lz K t) []) (Aa (Ac 0) (Aa (dC (.int 4)) Ae))))
 (Ag (A1 3 (Ad (Ak K) (Bm (Aa (dC (.int 0)) (Aa (Ad Ar (Ad (Ak K) (Ac 2) (dC (.int 1))) (dC (.int 4))) (Aa (Ad Ar (Ad (Ak K) (Ac 2) (dC (.int 1))) (dC (.int 12))) (Aa (Ad Ar (Ad (Ak K) (Ac 2) (dC (.int 1))) (dC (.int 61))) Ae))))) (Ad Ar (Ad (Ak K) (Ac 2) (dC (.int 0))) (dC (.int 4)))))
 (Ag (A1 4 (dC (.str "")))
 (Ag (Mm (D8 K (dFn (spE (Lz K t) []) (Aa (Ad (As K) (Ac 0) (dC (.int 1))) (Aa (Ac 3) Ae)))) (gdN 5) (Ag (dIf (Az (Ad (Aw K false) (Ad Ar (Ad (Ak K) (Ac 2) (dC (.int 2))) (dC (.int 2))) (dC (.int 0)))) (Ag (A1 4 (Ad (As K) (Ac 4) (Ad (Ak K) (dC (.str "|/\\a ")) (Ad Ar (Ac 5) (dC (.int 5))))))
   Ah) (Ag (A1 4 (Ad (As K) (Ac 4) (Ad (Ak K) (Ac 1) (Ad Ar (Ac 5) (dC (.int 94))))))
   Ah))
  Ah))
 (Ag (Am (Ac 4))
 Ah))))))
theorem bj7 (K:aa) (t:Adr):wSs 40 (Av K Xy (Ab J2) (E3 K t) bl) (Ai J2)=cd1 K t:=by kernel_rfl
theorem bo0:Aj Xy Oq (Ab J2):=⟨rfl,rfl,rfl,by decide +kernel,rfl,by decide +kernel,by decide +kernel⟩
theorem bt4:An Xy (Ab J2)=true:=by decide +kernel
noncomputable def cc1 (K:aa) (t:Adr):DS:=
 (Ag (A1 1 (dFn (spE (Lz K t) []) (Aa (Ac 0) (Aa (dC (.int 3)) Ae))))
 (Ag (A1 2 (Ad (Ak K) (Bm (Aa (Ad (As K) (dC (.int 1)) (Ad Ar (Ad A5 (Ad (Ak K) (Ac 1) (dC (.int 0))) (dC (.int 3))) (dC (.int 3)))) (Aa (Ad (As K) (dC (.int 1)) (Ad Ar (Ad A5 (Ad (Ak K) (Ac 1) (dC (.int 0))) (dC (.int 3))) (dC (.int 6)))) (Aa (dC (.int 6)) Ae)))) (Ad Ar (Ad (Ak K) (Ac 1) (dC (.int 0))) (dC (.int 3)))))
 (Ag (A1 3 (Ad (Ak K) (Bm (Aa (Ad (As K) (dC (.int 1)) (Ad Ar (Ad A5 (Ad (Ak K) (Ac 1) (dC (.int 1))) (dC (.int 3))) (dC (.int 3)))) (Aa (Ad (As K) (dC (.int 1)) (Ad Ar (Ad A5 (Ad (Ak K) (Ac 1) (dC (.int 1))) (dC (.int 3))) (dC (.int 6)))) (Aa (dC (.int 6)) Ae)))) (Ad Ar (Ad (Ak K) (Ac 1) (dC (.int 1))) (dC (.int 3)))))
 (Ag (A1 4 (Bm Ae))
 (Ag (Mm (Po (Aa (Ac 2) Ae)) (gdN 5) (Ag (Bo (dMt (rMt K [⟨"list", "list.append", D3⟩]) (Ac 4) (Aa (dFn (fun vs H Q _=>(Fc K) vs H Q) (Aa (C5 [none,some 0,some 5] (Po (Aa (Ac 3) Ae)) (gdN 0) Fn (dFn (spE (Gs K t) []) (Aa (Ad (As K) (Ad (As K) (Ad (As K) (Ac 1) (Ad (Ci K) (dC (.int 101)) (Ac 2))) (Ad (Ci K) (dC (.int 1009)) (Ac 0))) (dC (.int 7))) Ae))) Ae)) Ae)))
  Ah))
 (Ag (Am (dFn (fun vs H Q _=>(Fc K) vs H Q) (Aa (Ac 4) Ae)))
 Ah))))))
theorem bi4 (K:aa) (t:Adr):wSs 40 (Av K Xl (Ab Jp) (G9 K t) bl) (Ai Jp)=cc1 K t:=by kernel_rfl
theorem bm7:Aj Xl Oc (Ab Jp):=⟨rfl,rfl,rfl,by decide +kernel,rfl,by decide +kernel,by decide +kernel⟩
theorem bs1:An Xl (Ab Jp)=true:=by decide +kernel
noncomputable def cn1 (K:aa) (t:Adr):DS:=
 (Ag (dIf (Az (Ad (Aw K false) (Ac 0) (dC (.str "table")))) (Ag (Am (dFn (spE (Sw K t) []) (Aa (Ac 1) Ae)))
  Ah) Ah)
 (Ag (Am (dFn (spE (Gs K t) []) (Aa (Ac 1) Ae)))
 Ah))
theorem b60 (K:aa) (t:Adr):wSs 40 (Av K a06 (Ab Sd) (Hb K t) bl) (Ai Sd)=cn1 K t:=by kernel_rfl
theorem b87:Aj a06 Yu (Ab Sd):=⟨rfl,rfl,rfl,by decide +kernel,rfl,by decide +kernel,by decide +kernel⟩
theorem cg8:An a06 (Ab Sd)=true:=by decide +kernel
noncomputable def cd0 (K:aa) (t:Adr):DS:=
 (Ag (A1 2 (Bm (Aa (dC (.str "chapter")) (Aa (dC (.str "put")) (Aa (dC (.str "para")) (Aa (dC (.str "table")) (Aa (dC (.str "top")) (Aa (dC (.str "cut")) (Aa (dC (.str "wrap")) (Aa (dC (.str "move")) (Aa (dC (.str "write")) (Aa (dC (.str "none")) (Aa (dC (.str "cell")) (Aa (dC (.str "0")) Ae))))))))))))))
 (Ag (dIf (Az (Ad (Aw K false) (Ad Ar (Ac 0) (dC (.int 5))) (dC (.int 4)))) (Ag (Am (Ad (Ak K) (Ac 2) (Ad Ar (Ad (As K) (Ac 1) (Ad A5 (Ac 0) (dC (.int 5)))) (dC (.int 12)))))
  Ah) Ah)
 (Ag (A1 3 (dC (.str "abcdefghijklmnopqrstuvwxyz0123456789.")))
 (Ag (A1 4 (dMt (rMt K [⟨"str", "str.join", af2 K⟩]) (dC (.str "")) (Aa (C5 [none,some 0,some 3] (Po (Aa (dC (.int 1)) (Aa (dC (.int 12)) Ae))) (gdN 0) Fn (Ad (Ak K) (Ac 2) (Ad Ar (Ad (As K) (Ad A5 (Ac 1) (dC (.int 37))) (Ad (Ci K) (Ad (Ci K) (dC (.int 7)) (Ac 0)) (Ac 0))) (dC (.int 37))))) Ae)))
 (Ag (dIf (Az (Ad (Aw K false) (Ad Ar (Ac 0) (dC (.int 5))) (dC (.int 3)))) (Ag (Am (Ad (As K) (Ad (Ak K) (Ac 3) (Ad Ar (Ad (As K) (Ad A5 (Ac 0) (dC (.int 5))) (Ad A5 (Ac 1) (dC (.int 12)))) (dC (.int 37)))) (dSl K (Ac 4) Bu (Co (Ad Ar (Ac 1) (dC (.int 12)))))))
  Ah) Ah)
 (Ag (A1 5 (Ad (As K) (dC (.int 1)) (Ad Ar (Ad A5 (Ac 0) (dC (.int 5))) (dC (.int 12)))))
 (Ag (A1 6 (Ad Ar (Ad A5 (Ac 0) (dC (.int 60))) (Ac 5)))
 (Ag (A1 7 (dSl K (Ad (As K) (Ad (Ak K) (Ac 3) (Ad Ar (Ad A5 (Ac 0) (dC (.int 720))) (dC (.int 37)))) (Ac 4)) Bu (Co (Ac 5))))
 (Ag (Am (Ad (As K) (Ad (As K) (dSl K (Ac 7) Bu (Co (Ac 6))) (Ad (Ak K) (Ac 3) (Ad Ar (Ad (As K) (Ad A5 (Ac 0) (dC (.int 26640))) (Ac 1)) (dC (.int 37))))) (dSl K (Ac 7) (Co (Ad (As K) (Ac 6) (dC (.int 1)))) Bu)))
 Ah)))))))))
theorem bj6 (K:aa) (t:Adr):wSs 40 (Av K Xx (Ab J1) (A8 K t) bl) (Ai J1)=cd0 K t:=by kernel_rfl
theorem bn9:Aj Xx Op (Ab J1):=⟨rfl,rfl,rfl,by decide +kernel,rfl,by decide +kernel,by decide +kernel⟩
theorem bt3:An Xx (Ab J1)=true:=by decide +kernel
noncomputable def ay1 (K:aa) (t:Adr):DS:=
 (Ag (A1 1 (dFn (spE (Lz K t) []) (Aa (Ac 0) (Aa (dC (.int 9)) Ae))))
 (Ag (A1 2 (dFn (spE (Gr K t) []) (Aa (Ad (Ak K) (Ac 1) (dC (.int 1))) (Aa (Ad Ar (Ad (Ak K) (Ac 1) (dC (.int 2))) (dC (.int 10))) Ae))))
 (Ag (A1 3 (Ad (Ak K) (Bm (Aa (dFn (spE (Gr K t) []) (Aa (Ad (Ak K) (Ac 1) (dC (.int 1))) (Aa (Ad Ar (Ad (Ak K) (Ac 1) (dC (.int 3))) (dC (.int 10))) Ae))) (Aa (dC (.str "")) Ae))) (dFn (fun vs H Q _=>ap9 vs H Q) (Aa (Ad (Aw K false) (Ad Ar (Ad A5 (Ad (Ak K) (Ac 1) (dC (.int 3))) (dC (.int 10))) (dC (.int 4))) (dC (.int 0))) Ae))))
 (Ag (A1 4 (dFn (spE (Gs K t) []) (Aa (Ad (Ak K) (Ac 1) (dC (.int 4))) Ae)))
 (Ag (A1 5 (Ad (Ak K) (Bm (Aa (Ad Ar (Ad A5 (Ad (Ak K) (Ac 1) (dC (.int 5))) (dC (.int 3))) (dC (.int 9))) (Aa (Ad G5 (Ad Dh (dC (.int 10)) (dC (.int 9))) (Ad Ar (Ad A5 (Ad (Ak K) (Ac 1) (dC (.int 5))) (dC (.int 3))) (dC (.int 2)))) (Aa (Ad Ar (Ad A5 (Ad (Ak K) (Ac 1) (dC (.int 5))) (dC (.int 3))) (Ad Dh (dC (.int 10)) (dC (.int 9)))) Ae)))) (Ad Ar (Ad (Ak K) (Ac 1) (dC (.int 5))) (dC (.int 3)))))
 (Ag (A1 6 (Ad (Ak K) (Bm (Aa (Ad Ar (Ad A5 (Ad (Ak K) (Ac 1) (dC (.int 6))) (dC (.int 3))) (dC (.int 9))) (Aa (Ad G5 (Ad Dh (dC (.int 10)) (dC (.int 9))) (Ad Ar (Ad A5 (Ad (Ak K) (Ac 1) (dC (.int 6))) (dC (.int 3))) (dC (.int 2)))) (Aa (Ad Ar (Ad A5 (Ad (Ak K) (Ac 1) (dC (.int 6))) (dC (.int 3))) (Ad Dh (dC (.int 10)) (dC (.int 9)))) Ae)))) (Ad Ar (Ad (Ak K) (Ac 1) (dC (.int 6))) (dC (.int 3)))))
 (Ag (A1 7 (dFn (fun vs H Q _=>(Fc K) vs H Q) (Aa (C5 [none,some 1] (Po (Aa (Ad (As K) (dC (.int 1)) (Ad Ar (Ad (Ak K) (Ac 1) (dC (.int 7))) (dC (.int 6)))) Ae)) (gdN 0) Fn (dFn (spE (Gs K t) []) (Aa (Ad (As K) (Ad (Ak K) (Ac 1) (dC (.int 7))) (Ac 0)) Ae))) Ae)))
 (Ag (A1 8 (Ad (Ak K) (Bm (Aa (dC (.str "chapter")) (Aa (dC (.str "para")) (Aa (dC (.str "table")) Ae)))) (Ad Ar (Ad (Ak K) (Ac 1) (dC (.int 8))) (dC (.int 3)))))
 (Ag (A1 9 (Bm (Aa (A6 (Aa (dC (.str "put")) (Aa (Ac 2) (Aa (Ac 8) (Aa (Ac 3) (Aa (Ac 5) (Aa (dFn (spE (Vd K t) []) (Aa (Ac 8) (Aa (Ad (Ak K) (Ac 1) (dC (.int 4))) Ae))) Ae))))))) (Aa (A6 (Aa (dC (.str "write")) (Aa (Ac 2) (Aa (Ac 4) Ae)))) Ae))))
 (Ag (A1 9 (Ad (As K) (Ac 9) (Bm (Aa (A6 (Aa (dC (.str "splice")) (Aa (Ac 2) (Aa (Ac 5) (Aa (Ac 6) (Aa (Ac 4) Ae)))))) (Aa (A6 (Aa (dC (.str "cell")) (Aa (Ac 2) (Aa (Ac 5) (Aa (Ac 6) (Aa (Ac 4) Ae)))))) (Aa (A6 (Aa (dC (.str "addrow")) (Aa (Ac 2) (Aa (Ac 5) (Aa (Ac 7) Ae))))) Ae))))))
 (Ag (A1 9 (Ad (As K) (Ac 9) (Bm (Aa (A6 (Aa (dC (.str "cutrow")) (Aa (Ac 2) (Aa (Ac 5) Ae)))) (Aa (A6 (Aa (dC (.str "cut")) (Aa (Ac 2) Ae))) (Aa (A6 (Aa (dC (.str "move")) (Aa (Ac 2) (Aa (Ac 3) (Aa (Ac 5) Ae))))) Ae))))))
 (Ag (Am (Ad (Ak K) (Ad (As K) (Ac 9) (Bm (Aa (A6 (Aa (dC (.str "wrap")) (Aa (Ac 2) (Aa (dFn (spE (Gr K t) []) (Aa (Ad (Ak K) (Ac 1) (dC (.int 1))) (Aa (Ad Ar (Ad (Ak K) (Ac 1) (dC (.int 3))) (dC (.int 10))) Ae))) (Aa (Ac 4) Ae))))) Ae))) (Ad Ar (Ad (Ak K) (Ac 1) (dC (.int 0))) (dC (.int 9)))))
 Ah))))))))))))
theorem bj3 (K:aa) (t:Adr):wSs 40 (Av K Xu (Ab Jy) (V6 K t) bl) (Ai Jy)=ay1 K t:=by kernel_rfl
theorem bn6:Aj Xu Om (Ab Jy):=⟨rfl,rfl,rfl,by decide +kernel,rfl,by decide +kernel,by decide +kernel⟩
theorem bt0:An Xu (Ab Jy)=true:=by decide +kernel
noncomputable def ax9 (K:aa) (t:Adr):DS:=
  (Ag (A1 1 (Bm (Aa (dC .non) (Aa (dC (.bl true)) (Aa (dUn Fw (dC (.int 1))) (Aa (Ad (As K) (Ad Dh (dC (.int 10)) (dC (.int 9))) (dC (.int 1))) (Aa (Ad Dh (dC (.int 10)) (dC (.int 9))) (Aa (dC (.int 0)) (Aa (dC (.str "")) (Aa (dC (.str "a")) (Aa (dC (.str "A")) (Aa (dC (.str "a b")) (Aa (dC (.str ".")) (Aa (Ad (Ci K) (dC (.str "a")) (dC (.int 13))) (Aa (Ad (Ci K) (dC (.str "a")) (dC (.int 12))) (Aa (Ad (Ci K) (dC (.str "a")) (dC (.int 61))) (Aa (Ad (Ci K) (dC (.str "b")) (dC (.int 60))) Ae)))))))))))))))))
  (Ag (A1 1 (Ad (As K) (Ac 1) (Bm (Aa (dC (.str "a\n")) (Aa (Bm Ae) (Aa Ld (Aa (A6 Ae) (Aa (A6 (Aa (dC (.str "a")) Ae)) (Aa (Bm (Aa (dC (.str "a")) Ae)) (Aa (A6 (Aa (A6 (Aa (dC (.str "a")) Ae)) Ae)) (Aa (A6 (Aa (A6 (Aa (dC (.str "a")) Ae)) (Aa (A6 (Aa (dC (.str "a")) (Aa (dC (.str "b")) Ae))) Ae))) (Aa (Ad (Ci K) (A6 (Aa (dC (.str "a")) Ae)) (dC (.int 6))) (Aa (Ad (Ci K) (A6 (Aa (dC (.str "a")) Ae)) (dC (.int 7))) (Aa (A6 (Aa (dC (.str "a")) (Aa (dC (.int 1)) Ae))) Ae))))))))))))))
  (Ag (Bo (dMt (rMt K [⟨"list", "list.append", D3⟩]) (Ac 1) (Aa (dC (.str "table")) Ae)))
  (Ag (Am (Ad (Ak K) (Ad (As K) (Ac 1) (Bm (Aa (dC (.str "para")) (Aa (dC (.str "put")) (Aa (dC (.str "wrap")) (Aa (dC (.str "chapter")) (Aa (Ad G5 (dUn Fw (dC (.int 1))) (Ad Ar (Ad A5 (Ac 0) (dC (.int 32))) (Ad Dh (dC (.int 10)) (dC (.int 9))))) Ae))))))) (Ad Ar (Ac 0) (dC (.int 32)))))
  Ah))))
theorem bi5 (K:aa) (t:Adr):wSs 40 (Av K Xm (Ab Jq) (A8 K t) bl) (Ai Jq)=ax9 K t:=by kernel_rfl
theorem bm8:Aj Xm Od (Ab Jq):=⟨rfl,rfl,rfl,by decide +kernel,rfl,by decide +kernel,by decide +kernel⟩
theorem bs2:An Xm (Ab Jq)=true:=by decide +kernel
noncomputable def cn6 (K:aa) (t:Adr):DS:=
 (Ag (A1 3 (Ad Ar (Ad A5 (Ac 1) (dC (.int 6))) (dFn (fun vs H Q _=>(Ct K) vs H Q) (Aa (Ac 0) Ae))))
 (Ag (dIf (Az (Ad bg8 (Ad Ar (Ac 1) (dC (.int 6))) (dC (.int 3)))) (Ag (Am (Ad (As K) (Ad (As K) (dSl K (Ac 0) Bu (Co (Ac 3))) (A6 (Aa (dFn (spE (Sx K t) []) (Aa (Ac 2) Ae)) Ae))) (dSl K (Ac 0) (Co (Ad (As K) (Ac 3) (dC (.int 1)))) Bu)))
  Ah) Ah)
 (Ag (dIf (Az (Ad (Aw K false) (Ad Ar (Ac 1) (dC (.int 6))) (dC (.int 3)))) (Ag (Am (Ad (As K) (dSl K (Ac 0) Bu (Co (Ac 3))) (dSl K (Ac 0) (Co (Ad (As K) (Ac 3) (dC (.int 1)))) Bu)))
  Ah) Ah)
 (Ag (dIf (Az (Ad (Aw K false) (Ad Ar (Ac 1) (dC (.int 6))) (dC (.int 4)))) (Ag (Am (Ad (As K) (Ad (As K) (dSl K (Ac 0) Bu (Co (Ac 3))) (A6 (Aa (Ad (Ak K) (Ac 0) (Ac 3)) Ae))) (dSl K (Ac 0) (Co (Ac 3)) Bu)))
  Ah) Ah)
 (Ag (A1 4 (Ad Ar (Ac 2) (dFn (fun vs H Q _=>(Ct K) vs H Q) (Aa (Ac 0) Ae))))
 (Ag (A1 5 (dFn (fun vs H Q _=>(af3 K true) vs H Q) (Aa (Ac 0) Ae)))
 (Ag (V0 (Ad (Ak K) (Ac 0) (Ac 4)) (Pl K (Ac 5) (Ac 3)))
 (Ag (V0 (Ad (Ak K) (Ac 0) (Ac 3)) (Pl K (Ac 5) (Ac 4)))
 (Ag (Am (dFn (fun vs H Q _=>(Fc K) vs H Q) (Aa (Ac 5) Ae)))
 Ah)))))))))
theorem b68 (K:aa) (t:Adr):wSs 40 (Av K a14 (Ab So) (E3 K t) bl) (Ai So)=cn6 K t:=by kernel_rfl
theorem b95:Aj a14 Y2 (Ab So):=⟨rfl,rfl,rfl,by decide +kernel,rfl,by decide +kernel,by decide +kernel⟩
theorem ch7:An a14 (Ab So)=true:=by decide +kernel
noncomputable def cc0 (K:aa) (t:Adr):DS:=
 (Ag (A1 1 (Bm (Aa (A6 (Aa (dC (.str "put")) (Aa (dC (.int 6)) Ae))) (Aa (A6 (Aa (dC (.str "write")) (Aa (dC (.int 3)) Ae))) (Aa (A6 (Aa (dC (.str "splice")) (Aa (dC (.int 5)) Ae))) (Aa (A6 (Aa (dC (.str "cell")) (Aa (dC (.int 5)) Ae))) (Aa (A6 (Aa (dC (.str "addrow")) (Aa (dC (.int 4)) Ae))) (Aa (A6 (Aa (dC (.str "cutrow")) (Aa (dC (.int 3)) Ae))) (Aa (A6 (Aa (dC (.str "cut")) (Aa (dC (.int 2)) Ae))) Ae)))))))))
 (Ag (Mm (D8 K (Ad (As K) (Ac 1) (Bm (Aa (A6 (Aa (dC (.str "move")) (Aa (dC (.int 4)) Ae))) (Aa (A6 (Aa (dC (.str "wrap")) (Aa (dC (.int 4)) Ae))) Ae))))) (gdT K 2 [(gdN 2),(gdN 3)]) (Ag (dIf (Az (Ad (Aw K false) (Ac 0) (Ac 2))) (Ag (Am (Ac 3))
   Ah) Ah)
  Ah))
 (Ag (Am (dUn Fw (dC (.int 1))))
 Ah)))
theorem bi3 (K:aa) (t:Adr):wSs 40 (Av K Xk (Ab Jo) (A8 K t) bl) (Ai Jo)=cc0 K t:=by kernel_rfl
theorem bm6:Aj Xk Ob (Ab Jo):=⟨rfl,rfl,rfl,by decide +kernel,rfl,by decide +kernel,by decide +kernel⟩
theorem bs0:An Xk (Ab Jo)=true:=by decide +kernel
noncomputable def cm3 (K:aa) (t:Adr):DS:=
 (Ag (Am (Bh K (dFn (fun vs H Q _=>(Bs K) vs H Q) (Aa (Ac 0) (Aa (dC (.ty "int")) Ae))) (Bh K (Tz K (dFn (fun vs H Q _=>(Bs K) vs H Q) (Aa (Ac 0) (Aa (dC (.ty "bool")) Ae)))) (Bx Cr Cr (dC (.int 0)) (Ac 0) (Ad Dh (dC (.int 10)) (dC (.int 9)))))))
 Ah)
theorem b52 (K:aa) (t:Adr):wSs 40 (Av K az8 (Ab R5) (A8 K t) bl) (Ai R5)=cm3 K t:=by kernel_rfl
theorem b79:Aj az8 Ym (Ab R5):=⟨rfl,rfl,rfl,by decide +kernel,rfl,by decide +kernel,by decide +kernel⟩
theorem cg0:An az8 (Ab R5)=true:=by decide +kernel
noncomputable def ce6 (K:aa) (t:Adr):DS:=
 (Ag (dIf (dOr (Cj (B8 K (dFn (fun vs H Q _=>(Bs K) vs H Q) (Aa (Ac 0) (Aa (dC (.ty "str")) Ae))))) (Cj (Az (Bx Cr Cr (dC (.int 1)) (dFn (fun vs H Q _=>(Ct K) vs H Q) (Aa (Ac 0) Ae)) (dC (.int 12)))))) (Ag (Am (dC (.bl false)))
  Ah) Ah)
 (Ag (Am (Ad (Aw K false) (dFn (fun vs H Q _=>(Ct K) vs H Q) (Aa (C5 [none] (D8 K (Ac 0)) (gdN 0) (Az (Ad (bg6 K true) (Ac 0) (dC (.str "abcdefghijklmnopqrstuvwxyz0123456789.")))) (Ac 0)) Ae)) (dC (.int 0))))
 Ah))
theorem b61 (K:aa) (t:Adr):wSs 40 (Av K a07 (Ab Se) (A8 K t) bl) (Ai Se)=ce6 K t:=by kernel_rfl
theorem b88:Aj a07 Yv (Ab Se):=⟨rfl,rfl,rfl,by decide +kernel,rfl,by decide +kernel,by decide +kernel⟩
theorem cg9:An a07 (Ab Se)=true:=by decide +kernel
noncomputable def ce7 (K:aa) (t:Adr):DS:=
 (Ag (dIf (dOr (Cj (B8 K (dFn (fun vs H Q _=>(Bs K) vs H Q) (Aa (Ac 0) (Aa (dC (.ty "str")) Ae))))) (Az (Ad b40 (dFn (fun vs H Q _=>(Ct K) vs H Q) (Aa (Ac 0) Ae)) (dC (.int 60))))) (Ag (Am (dC (.bl false)))
  Ah) Ah)
 (Ag (Am (Ad (Aw K false) (dFn (fun vs H Q _=>(Ct K) vs H Q) (Aa (C5 [none] (D8 K (Ac 0)) (gdN 0) (dOr (Cj (Az (Bx Cr Cr (dC (.int 32)) (dFn (fun vs H Q _=>Wq vs H Q) (Aa (Ac 0) Ae)) (dC (.int 126))))) (Az (Ad (Aw K false) (dFn (fun vs H Q _=>Wq vs H Q) (Aa (Ac 0) Ae)) (dC (.int 37))))) (Ac 0)) Ae)) (dC (.int 0))))
 Ah))
theorem b62 (K:aa) (t:Adr):wSs 40 (Av K a08 (Ab Sf) (A8 K t) bl) (Ai Sf)=ce7 K t:=by kernel_rfl
theorem b89:Aj a08 Yw (Ab Sf):=⟨rfl,rfl,rfl,by decide +kernel,rfl,by decide +kernel,by decide +kernel⟩
theorem ch0:An a08 (Ab Sf)=true:=by decide +kernel
noncomputable def ce5 (K:aa) (t:Adr):DS:=
 (Ag (dIf (dOr (Cj (B8 K (dFn (fun vs H Q _=>(Bs K) vs H Q) (Aa (Ac 0) (Aa (dC (.ty "tuple")) Ae))))) (Cj (Az (Bx Cr Cr (dC (.int 1)) (dFn (fun vs H Q _=>(Ct K) vs H Q) (Aa (Ac 0) Ae)) (dC (.int 6)))))) (Ag (Am (dC (.bl false)))
  Ah) Ah)
 (Ag (Am (Ad (Aw K false) (dFn (fun vs H Q _=>(Ct K) vs H Q) (Aa (C5 [none] (D8 K (Ac 0)) (gdN 0) (Cj (B8 K (dFn (spE (Kk K t) []) (Aa (Ac 0) Ae)))) (Ac 0)) Ae)) (dC (.int 0))))
 Ah))
theorem b51 (K:aa) (t:Adr):wSs 40 (Av K az7 (Ab R0) (E3 K t) bl) (Ai R0)=ce5 K t:=by kernel_rfl
theorem b78:Aj az7 Yl (Ab R0):=⟨rfl,rfl,rfl,by decide +kernel,rfl,by decide +kernel,by decide +kernel⟩
theorem cf9:An az7 (Ab R0)=true:=by decide +kernel
noncomputable def ay0 (K:aa) (t:Adr):DS:=
 (Ag (dIf (dOr (Az (Ad (Aw K false) (Ac 0) (dC (.str "chapter")))) (Az (Ad (Aw K false) (Ac 0) (dC (.str "para"))))) (Ag (Am (dFn (spE (Kk K t) []) (Aa (Ac 1) Ae)))
  Ah) Ah)
 (Ag (dIf (dOr (Az (Ad (Aw K true) (Ac 0) (dC (.str "table")))) (dOr (Cj (B8 K (dFn (fun vs H Q _=>(Bs K) vs H Q) (Aa (Ac 1) (Aa (dC (.ty "tuple")) Ae))))) (Cj (Az (Bx Cr Cr (dC (.int 1)) (dFn (fun vs H Q _=>(Ct K) vs H Q) (Aa (Ac 1) Ae)) (dC (.int 6))))))) (Ag (Am (dC (.bl false)))
  Ah) Ah)
 (Ag (Mm (D8 K (Ac 1)) (gdN 2) (Ag (dIf (dOr (Cj (B8 K (dFn (spE (Vb K t) []) (Aa (Ac 2) Ae)))) (Az (Ad (Aw K true) (dFn (fun vs H Q _=>(Ct K) vs H Q) (Aa (Ac 2) Ae)) (dFn (fun vs H Q _=>(Ct K) vs H Q) (Aa (Ad (Ak K) (Ac 1) (dC (.int 0))) Ae))))) (Ag (Am (dC (.bl false)))
   Ah) Ah)
  Ah))
 (Ag (Am (dC (.bl true)))
 Ah))))
theorem bj2 (K:aa) (t:Adr):wSs 40 (Av K Xt (Ab Jx) (G9 K t) bl) (Ai Jx)=ay0 K t:=by kernel_rfl
theorem bn5:Aj Xt Ol (Ab Jx):=⟨rfl,rfl,rfl,by decide +kernel,rfl,by decide +kernel,by decide +kernel⟩
theorem bs9:An Xt (Ab Jx)=true:=by decide +kernel
noncomputable def cc8 (K:aa) (t:Adr):DS:=
 (Ag (dIf (dOr (Cj (B8 K (dFn (fun vs H Q _=>(Bs K) vs H Q) (Aa (Ac 0) (Aa (dC (.ty "tuple")) Ae))))) (dOr (Az (Ad (Aw K false) (Ac 0) (A6 Ae))) (dOr (Az (Ad (Aw K true) (dFn (spE (Kj K t) []) (Aa (Ad (Ak K) (Ac 0) (dC (.int 0))) Ae)) (dFn (fun vs H Q _=>(Ct K) vs H Q) (Aa (Ac 0) Ae)))) (Cj (B8 K (dFn (spE (Ly K t) []) (Aa (Ad (Ak K) (Ac 0) (dC (.int 1))) Ae))))))) (Ag (Am (dC (.bl false)))
  Ah) Ah)
 (Ag (A1 1 (Ad (Ak K) (Ac 0) (dC (.int 0))))
 (Ag (dIf (Az (Ad (Aw K false) (Ac 1) (dC (.str "put")))) (Ag (dIf (dOr (Gb (Az (Ad (Aw K true) (Ad (Ak K) (Ac 0) (dC (.int 3))) (dC (.str "")))) (Cj (B8 K (dFn (spE (Ly K t) []) (Aa (Ad (Ak K) (Ac 0) (dC (.int 3))) Ae))))) (Cj (B8 K (dFn (spE (G7 K t) []) (Aa (Ad (Ak K) (Ac 0) (dC (.int 4))) Ae))))) (Ag (Am (dC (.bl false)))
   Ah) Ah)
  (Ag (Am (dFn (spE (Sz K t) []) (Aa (Ad (Ak K) (Ac 0) (dC (.int 2))) (Aa (Ad (Ak K) (Ac 0) (dC (.int 5))) Ae))))
  Ah)) Ah)
 (Ag (dIf (Az (Ad (Aw K false) (Ac 1) (dC (.str "write")))) (Ag (Am (dFn (spE (Kk K t) []) (Aa (Ad (Ak K) (Ac 0) (dC (.int 2))) Ae)))
  Ah) Ah)
 (Ag (dIf (dOr (Az (Ad (Aw K false) (Ac 1) (dC (.str "splice")))) (Az (Ad (Aw K false) (Ac 1) (dC (.str "cell"))))) (Ag (Am (Bh K (dFn (spE (G7 K t) []) (Aa (Ad (Ak K) (Ac 0) (dC (.int 2))) Ae)) (Bh K (dFn (spE (G7 K t) []) (Aa (Ad (Ak K) (Ac 0) (dC (.int 3))) Ae)) (dFn (spE (Kk K t) []) (Aa (Ad (Ak K) (Ac 0) (dC (.int 4))) Ae)))))
  Ah) Ah)
 (Ag (dIf (Az (Ad (Aw K false) (Ac 1) (dC (.str "addrow")))) (Ag (Am (Bh K (dFn (spE (G7 K t) []) (Aa (Ad (Ak K) (Ac 0) (dC (.int 2))) Ae)) (dFn (spE (Vb K t) []) (Aa (Ad (Ak K) (Ac 0) (dC (.int 3))) Ae))))
  Ah) Ah)
 (Ag (dIf (Az (Ad (Aw K false) (Ac 1) (dC (.str "cutrow")))) (Ag (Am (dFn (spE (G7 K t) []) (Aa (Ad (Ak K) (Ac 0) (dC (.int 2))) Ae)))
  Ah) Ah)
 (Ag (dIf (Az (Ad (Aw K false) (Ac 1) (dC (.str "move")))) (Ag (Am (Bh K (Qu K (Ad (Aw K false) (Ad (Ak K) (Ac 0) (dC (.int 2))) (dC (.str ""))) (dFn (spE (Ly K t) []) (Aa (Ad (Ak K) (Ac 0) (dC (.int 2))) Ae))) (dFn (spE (G7 K t) []) (Aa (Ad (Ak K) (Ac 0) (dC (.int 3))) Ae))))
  Ah) Ah)
 (Ag (Am (Qu K (Ad (Aw K false) (Ac 1) (dC (.str "cut"))) (Bh K (dFn (spE (Ly K t) []) (Aa (Ad (Ak K) (Ac 0) (dC (.int 2))) Ae)) (dFn (spE (Kk K t) []) (Aa (Ad (Ak K) (Ac 0) (dC (.int 3))) Ae)))))
 Ah)))))))))
theorem bj4 (K:aa) (t:Adr):wSs 40 (Av K Xv (Ab Jz) (Hb K t) bl) (Ai Jz)=cc8 K t:=by kernel_rfl
theorem bn7:Aj Xv On (Ab Jz):=⟨rfl,rfl,rfl,by decide +kernel,rfl,by decide +kernel,by decide +kernel⟩
theorem bt1:An Xv (Ab Jz)=true:=by decide +kernel
noncomputable def cc5 (K:aa) (t:Adr):DS:=
 (Ag (Am (A6 (Aa (dC (.str "put")) (Aa (dUn (Bf K "name") (Ac 0)) (Aa (dUn (Bf K "kind") (Ac 0)) (Aa (dUn (Bf K "parent") (Ac 0)) (Aa (dUn (Bf K "rank") (Ac 0)) (Aa (dUn (Bf K "content") (Ac 0)) Ae))))))))
 Ah)
theorem bi9 (K:aa) (t:Adr):wSs 40 (Av K Xq (Ab Ju) (A8 K t) bl) (Ai Ju)=cc5 K t:=by kernel_rfl
theorem bn2:Aj Xq Oh (Ab Ju):=⟨rfl,rfl,rfl,by decide +kernel,rfl,by decide +kernel,by decide +kernel⟩
theorem bs6:An Xq (Ab Ju)=true:=by decide +kernel
noncomputable def cn5 (K:aa) (t:Adr):DS:=
 (Ag (Am (A6 (Aa (dC (.str "write")) (Aa (dUn (Bf K "part") (Ac 0)) (Aa (dUn (Bf K "text") (Ac 0)) Ae)))))
 Ah)
theorem b66 (K:aa) (t:Adr):wSs 40 (Av K a12 (Ab Sk) (A8 K t) bl) (Ai Sk)=cn5 K t:=by kernel_rfl
theorem b93:Aj a12 Y0 (Ab Sk):=⟨rfl,rfl,rfl,by decide +kernel,rfl,by decide +kernel,by decide +kernel⟩
theorem ch5:An a12 (Ab Sk)=true:=by decide +kernel
noncomputable def cm9 (K:aa) (t:Adr):DS:=
 (Ag (Am (A6 (Aa (dC (.str "splice")) (Aa (dUn (Bf K "part") (Ac 0)) (Aa (dUn (Bf K "at") (Ac 0)) (Aa (dUn (Bf K "size") (Ac 0)) (Aa (dUn (Bf K "text") (Ac 0)) Ae)))))))
 Ah)
theorem b58 (K:aa) (t:Adr):wSs 40 (Av K a04 (Ab Sb) (A8 K t) bl) (Ai Sb)=cm9 K t:=by kernel_rfl
theorem b85:Aj a04 Ys (Ab Sb):=⟨rfl,rfl,rfl,by decide +kernel,rfl,by decide +kernel,by decide +kernel⟩
theorem cg6:An a04 (Ab Sb)=true:=by decide +kernel
noncomputable def cb0 (K:aa) (t:Adr):DS:=
 (Ag (Am (A6 (Aa (dC (.str "cell")) (Aa (dUn (Bf K "part") (Ac 0)) (Aa (dUn (Bf K "row") (Ac 0)) (Aa (dUn (Bf K "column") (Ac 0)) (Aa (dUn (Bf K "text") (Ac 0)) Ae)))))))
 Ah)
theorem bh1 (K:aa) (t:Adr):wSs 40 (Av K W8 (Ab Jc) (A8 K t) bl) (Ai Jc)=cb0 K t:=by kernel_rfl
theorem bl4:Aj W8 Nz (Ab Jc):=⟨rfl,rfl,rfl,by decide +kernel,rfl,by decide +kernel,by decide +kernel⟩
theorem bq8:An W8 (Ab Jc)=true:=by decide +kernel
noncomputable def cm5 (K:aa) (t:Adr):DS:=
 (Ag (Am (A6 (Aa (dC (.str "addrow")) (Aa (dUn (Bf K "part") (Ac 0)) (Aa (dUn (Bf K "at") (Ac 0)) (Aa (dUn (Bf K "cells") (Ac 0)) Ae))))))
 Ah)
theorem b54 (K:aa) (t:Adr):wSs 40 (Av K a00 (Ab R7) (A8 K t) bl) (Ai R7)=cm5 K t:=by kernel_rfl
theorem b81:Aj a00 Yo (Ab R7):=⟨rfl,rfl,rfl,by decide +kernel,rfl,by decide +kernel,by decide +kernel⟩
theorem cg2:An a00 (Ab R7)=true:=by decide +kernel
noncomputable def cm7 (K:aa) (t:Adr):DS:=
 (Ag (Am (A6 (Aa (dC (.str "cutrow")) (Aa (dUn (Bf K "part") (Ac 0)) (Aa (dUn (Bf K "at") (Ac 0)) Ae)))))
 Ah)
theorem b56 (K:aa) (t:Adr):wSs 40 (Av K a02 (Ab R9) (A8 K t) bl) (Ai R9)=cm7 K t:=by kernel_rfl
theorem b83:Aj a02 Yq (Ab R9):=⟨rfl,rfl,rfl,by decide +kernel,rfl,by decide +kernel,by decide +kernel⟩
theorem cg4:An a02 (Ab R9)=true:=by decide +kernel
noncomputable def cc3 (K:aa) (t:Adr):DS:=
 (Ag (Am (A6 (Aa (dC (.str "cut")) (Aa (dUn (Bf K "part") (Ac 0)) Ae))))
 Ah)
theorem bi7 (K:aa) (t:Adr):wSs 40 (Av K Xo (Ab Js) (A8 K t) bl) (Ai Js)=cc3 K t:=by kernel_rfl
theorem bn0:Aj Xo Of (Ab Js):=⟨rfl,rfl,rfl,by decide +kernel,rfl,by decide +kernel,by decide +kernel⟩
theorem bs4:An Xo (Ab Js)=true:=by decide +kernel
noncomputable def cb3 (K:aa) (t:Adr):DS:=
 (Ag (Am (A6 (Aa (dC (.str "move")) (Aa (dUn (Bf K "part") (Ac 0)) (Aa (dUn (Bf K "parent") (Ac 0)) (Aa (dUn (Bf K "rank") (Ac 0)) Ae))))))
 Ah)
theorem bh4 (K:aa) (t:Adr):wSs 40 (Av K Xb (Ab Jf) (A8 K t) bl) (Ai Jf)=cb3 K t:=by kernel_rfl
theorem bl7:Aj Xb N2 (Ab Jf):=⟨rfl,rfl,rfl,by decide +kernel,rfl,by decide +kernel,by decide +kernel⟩
theorem br1:An Xb (Ab Jf)=true:=by decide +kernel
noncomputable def cb6 (K:aa) (t:Adr):DS:=
 (Ag (Am (A6 (Aa (dC (.str "wrap")) (Aa (dUn (Bf K "part") (Ac 0)) (Aa (dUn (Bf K "name") (Ac 0)) (Aa (dUn (Bf K "text") (Ac 0)) Ae))))))
 Ah)
theorem bh7 (K:aa) (t:Adr):wSs 40 (Av K Xe (Ab Ji) (A8 K t) bl) (Ai Ji)=cb6 K t:=by kernel_rfl
theorem bm0:Aj Xe N5 (Ab Ji):=⟨rfl,rfl,rfl,by decide +kernel,rfl,by decide +kernel,by decide +kernel⟩
theorem br4:An Xe (Ab Ji)=true:=by decide +kernel
noncomputable def ce8 (K:aa) (t:Adr):DS:=
 (Ag (Am (Bh K (dFn (fun vs H Q _=>(Bs K) vs H Q) (Aa (Ac 0) (Aa (dC (.ty "str")) Ae))) (Bx Cr Cr (Ac 1) (dFn (fun vs H Q _=>(Ct K) vs H Q) (Aa (Ac 0) Ae)) (Ac 2))))
 Ah)
theorem b67 (K:aa) (t:Adr):wSs 40 (Av K a13 (Ab Sl) (A8 K t) bl) (Ai Sl)=ce8 K t:=by kernel_rfl
theorem b94:Aj a13 Y1 (Ab Sl):=⟨rfl,rfl,rfl,by decide +kernel,rfl,by decide +kernel,by decide +kernel⟩
theorem ch6:An a13 (Ab Sl)=true:=by decide +kernel
noncomputable def ax8 (K:aa) (t:Adr):DS:=
 (Ag (Am (Bx Cr Cr (dC (.str "a")) (Ac 0) (dC (.str "z"))))
 Ah)
theorem bi1 (K:aa) (t:Adr):wSs 40 (Av K Xi (Ab Jm) (A8 K t) bl) (Ai Jm)=ax8 K t:=by kernel_rfl
theorem bm4:Aj Xi N9 (Ab Jm):=⟨rfl,rfl,rfl,by decide +kernel,rfl,by decide +kernel,by decide +kernel⟩
theorem br8:An Xi (Ab Jm)=true:=by decide +kernel
noncomputable def ax7 (K:aa) (t:Adr):DS:=
 (Ag (Am (Bx Cr Cr (dC (.str "0")) (Ac 0) (dC (.str "9"))))
 Ah)
theorem bi0 (K:aa) (t:Adr):wSs 40 (Av K Xh (Ab Jl) (A8 K t) bl) (Ai Jl)=ax7 K t:=by kernel_rfl
theorem bm3:Aj Xh N8 (Ab Jl):=⟨rfl,rfl,rfl,by decide +kernel,rfl,by decide +kernel,by decide +kernel⟩
theorem br7:An Xh (Ab Jl)=true:=by decide +kernel
noncomputable def cm1 (K:aa) (t:Adr):DS:=
 (Ag (Am (Qu K (dFn (spE (Sv K t) []) (Aa (Ac 0) Ae)) (Qu K (dFn (spE (Su K t) []) (Aa (Ac 0) Ae)) (Ad (Aw K false) (Ac 0) (dC (.str "."))))))
 Ah)
theorem b48 (K:aa) (t:Adr):wSs 40 (Av K az4 (Ab Rx) (E3 K t) bl) (Ai Rx)=cm1 K t:=by kernel_rfl
theorem b75:Aj az4 Yi (Ab Rx):=⟨rfl,rfl,rfl,by decide +kernel,rfl,by decide +kernel,by decide +kernel⟩
theorem cf6:An az4 (Ab Rx)=true:=by decide +kernel
noncomputable def cd5 (K:aa) (t:Adr):DS:=
 (Ag (Am (Bh K (dFn (spE (Ve K t) []) (Aa (Ac 0) (Aa (dC (.int 1)) (Aa (dC (.int 12)) Ae)))) (dFn (fun vs H Q _=>(Nd K) vs H Q) (Aa (C5 [none] (D8 K (Ac 0)) (gdN 0) Fn (dFn (spE (ai2 K t) []) (Aa (Ac 0) Ae))) Ae))))
 Ah)
theorem bk2 (K:aa) (t:Adr):wSs 40 (Av K X3 (Ab J7) (G9 K t) bl) (Ai J7)=cd5 K t:=by kernel_rfl
theorem bo5:Aj X3 Ow (Ab J7):=⟨rfl,rfl,rfl,by decide +kernel,rfl,by decide +kernel,by decide +kernel⟩
theorem bt9:An X3 (Ab J7)=true:=by decide +kernel
noncomputable def cc6 (K:aa) (t:Adr):DS:=
 (Ag (Am (Bh K (dFn (fun vs H Q _=>(Bs K) vs H Q) (Aa (Ac 0) (Aa (dC (.ty "int")) Ae))) (Tz K (dFn (fun vs H Q _=>(Bs K) vs H Q) (Aa (Ac 0) (Aa (dC (.ty "bool")) Ae))))))
 Ah)
theorem bj0 (K:aa) (t:Adr):wSs 40 (Av K Xr (Ab Jv) (A8 K t) bl) (Ai Jv)=cc6 K t:=by kernel_rfl
theorem bn3:Aj Xr Oi (Ab Jv):=⟨rfl,rfl,rfl,by decide +kernel,rfl,by decide +kernel,by decide +kernel⟩
theorem bs7:An Xr (Ab Jv)=true:=by decide +kernel
noncomputable def cd6 (K:aa) (t:Adr):DS:=
 (Ag (Am (Bh K (dFn (spE (Sy K t) []) (Aa (Ac 0) Ae)) (Bx Cr Cr (dC (.int 0)) (Ac 0) (dC (.int 1000000000)))))
 Ah)
theorem bk3 (K:aa) (t:Adr):wSs 40 (Av K X4 (Ab J8) (E3 K t) bl) (Ai J8)=cd6 K t:=by kernel_rfl
theorem bo6:Aj X4 Ox (Ab J8):=⟨rfl,rfl,rfl,by decide +kernel,rfl,by decide +kernel,by decide +kernel⟩
theorem bu0:An X4 (Ab J8)=true:=by decide +kernel
noncomputable def ce4 (K:aa) (t:Adr):DS:=
 (Ag (Am (Bh K (Bx Cr Cr (dC (.str " ")) (Ac 0) (dC (.str "~"))) (Ad (Aw K true) (dFn (fun vs H Q _=>Wq vs H Q) (Aa (Ac 0) Ae)) (dC (.int 37)))))
 Ah)
theorem b49 (K:aa) (t:Adr):wSs 40 (Av K az5 (Ab Ry) (A8 K t) bl) (Ai Ry)=ce4 K t:=by kernel_rfl
theorem b76:Aj az5 Yj (Ab Ry):=⟨rfl,rfl,rfl,by decide +kernel,rfl,by decide +kernel,by decide +kernel⟩
theorem cf7:An az5 (Ab Ry)=true:=by decide +kernel
noncomputable def cd7 (K:aa) (t:Adr):DS:=
 (Ag (Am (Bh K (dFn (spE (Ve K t) []) (Aa (Ac 0) (Aa (dC (.int 0)) (Aa (dC (.int 60)) Ae)))) (dFn (fun vs H Q _=>(Nd K) vs H Q) (Aa (C5 [none] (D8 K (Ac 0)) (gdN 0) Fn (dFn (spE (ai3 K t) []) (Aa (Ac 0) Ae))) Ae))))
 Ah)
theorem bk4 (K:aa) (t:Adr):wSs 40 (Av K X5 (Ab J9) (E3 K t) bl) (Ai J9)=cd7 K t:=by kernel_rfl
theorem bo7:Aj X5 Oy (Ab J9):=⟨rfl,rfl,rfl,by decide +kernel,rfl,by decide +kernel,by decide +kernel⟩
theorem bu1:An X5 (Ab J9)=true:=by decide +kernel
noncomputable def cb1 (K:aa) (t:Adr):DS:=
 (Ag (Am (dFn (spE (Eo K t) []) (Aa (Ac 1) Ae)))
 Ah)
theorem bh2 (K:aa) (t:Adr):wSs 40 (Av K W9 (Ab Jd) (G9 K t) bl) (Ai Jd)=cb1 K t:=by kernel_rfl
theorem bl5:Aj W9 N0 (Ab Jd):=⟨rfl,rfl,rfl,by decide +kernel,rfl,by decide +kernel,by decide +kernel⟩
theorem bq9:An W9 (Ab Jd)=true:=by decide +kernel
noncomputable def cn0 (K:aa) (t:Adr):DS:=
 (Ag (Am (Bh K (dFn (fun vs H Q _=>(Bs K) vs H Q) (Aa (Ac 0) (Aa (dC (.ty "tuple")) Ae))) (Bx Cr Cr (dC (.int 1)) (dFn (fun vs H Q _=>(Ct K) vs H Q) (Aa (Ac 0) Ae)) (Ac 1))))
 Ah)
theorem b59 (K:aa) (t:Adr):wSs 40 (Av K a05 (Ab Sc) (A8 K t) bl) (Ai Sc)=cn0 K t:=by kernel_rfl
theorem b86:Aj a05 Yt (Ab Sc):=⟨rfl,rfl,rfl,by decide +kernel,rfl,by decide +kernel,by decide +kernel⟩
theorem cg7:An a05 (Ab Sc)=true:=by decide +kernel
noncomputable def ce2 (K:aa) (t:Adr):DS:=
 (Ag (Am (Bh K (dFn (spE (Vc K t) []) (Aa (Ac 0) (Aa (dC (.int 6)) Ae))) (dFn (fun vs H Q _=>(Nd K) vs H Q) (Aa (C5 [none] (D8 K (Ac 0)) (gdN 0) Fn (dFn (spE (Eo K t) []) (Aa (Ac 0) Ae))) Ae))))
 Ah)
theorem bk9 (K:aa) (t:Adr):wSs 40 (Av K Ya (Ab Ke) (G9 K t) bl) (Ai Ke)=ce2 K t:=by kernel_rfl
theorem bp2:Aj Ya O3 (Ab Ke):=⟨rfl,rfl,rfl,by decide +kernel,rfl,by decide +kernel,by decide +kernel⟩
theorem bu6:An Ya (Ab Ke)=true:=by decide +kernel
noncomputable def cn2 (K:aa) (t:Adr):DS:=
 (Ag (dIf (dOr (Cj (B8 K (dFn (spE (Vc K t) []) (Aa (Ac 1) (Aa (dC (.int 6)) Ae))))) (Cj (B8 K (dFn (fun vs H Q _=>(Nd K) vs H Q) (Aa (C5 [none] (D8 K (Ac 1)) (gdN 0) Fn (dFn (spE (Nn K t) []) (Aa (Ac 0) Ae))) Ae))))) (Ag (Am (dC (.bl false)))
  Ah) Ah)
 (Ag (Am (dFn (fun vs H Q _=>(Nd K) vs H Q) (Aa (C5 [none,some 1] (D8 K (Ac 1)) (gdN 0) Fn (Ad (Aw K false) (dFn (fun vs H Q _=>(Ct K) vs H Q) (Aa (Ac 0) Ae)) (dFn (fun vs H Q _=>(Ct K) vs H Q) (Aa (Ad (Ak K) (Ac 1) (dC (.int 0))) Ae)))) Ae)))
 Ah))
theorem b63 (K:aa) (t:Adr):wSs 40 (Av K a09 (Ab Sh) (Hb K t) bl) (Ai Sh)=cn2 K t:=by kernel_rfl
theorem b90:Aj a09 Yx (Ab Sh):=⟨rfl,rfl,rfl,by decide +kernel,rfl,by decide +kernel,by decide +kernel⟩
theorem ch1:An a09 (Ab Sh)=true:=by decide +kernel
noncomputable def cm0 (K:aa) (t:Adr):DS:=
 (Ag (Am (dC (.str "chapter")))
 Ah)
theorem b47 (K:aa) (t:Adr):wSs 40 (Av K az3 (Ab Rw) (A8 K t) bl) (Ai Rw)=cm0 K t:=by kernel_rfl
theorem b74:Aj az3 Yh (Ab Rw):=⟨rfl,rfl,rfl,by decide +kernel,rfl,by decide +kernel,by decide +kernel⟩
theorem cf5:An az3 (Ab Rw)=true:=by decide +kernel
noncomputable def cb4 (K:aa) (t:Adr):DS:=
 (Ag (Am (dC (.str "para")))
 Ah)
theorem bh5 (K:aa) (t:Adr):wSs 40 (Av K Xc (Ab Jg) (A8 K t) bl) (Ai Jg)=cb4 K t:=by kernel_rfl
theorem bl8:Aj Xc N3 (Ab Jg):=⟨rfl,rfl,rfl,by decide +kernel,rfl,by decide +kernel,by decide +kernel⟩
theorem br2:An Xc (Ab Jg)=true:=by decide +kernel
noncomputable def cn3 (K:aa) (t:Adr):DS:=
 (Ag (Am (dC (.str "table")))
 Ah)
theorem b64 (K:aa) (t:Adr):wSs 40 (Av K a10 (Ab Si) (A8 K t) bl) (Ai Si)=cn3 K t:=by kernel_rfl
theorem b91:Aj a10 Yy (Ab Si):=⟨rfl,rfl,rfl,by decide +kernel,rfl,by decide +kernel,by decide +kernel⟩
theorem ch3:An a10 (Ab Si)=true:=by decide +kernel
noncomputable def cm2 (K:aa) (t:Adr):DS:=
 (Ag (dIf (Cj (B8 K (dFn (fun vs H Q _=>(Bs K) vs H Q) (Aa (Ac 0) (Aa (dC (.ty "str")) Ae))))) (Ag (Am (dC .non))
  Ah) Ah)
 (Ag (Mm (D8 K (Bm (Aa (dFn (mkC t.c_zbz none 0) Ae) (Aa (dFn (mkC t.c_zch none 0) Ae) (Aa (dFn (mkC t.c_zcd none 0) Ae) Ae))))) (gdN 1) (Ag (dIf (Az (Ad (Aw K false) (Qv "word" 0 (Hk K t) (Ac 1) Ae) (Ac 0))) (Ag (Am (Ac 1))
   Ah) Ah)
  Ah))
 (Ag (Am (dC .non))
 Ah)))
theorem b50 (K:aa) (t:Adr):wSs 40 (Av K az6 (Ab Rz) (E3 K t) bl) (Ai Rz)=cm2 K t:=by kernel_rfl
theorem b77:Aj az6 Yk (Ab Rz):=⟨rfl,rfl,rfl,by decide +kernel,rfl,by decide +kernel,by decide +kernel⟩
theorem cf8:An az6 (Ab Rz)=true:=by decide +kernel
noncomputable def ce1 (K:aa) (t:Adr):DS:=
 (Ag (dIf (Cj (B8 K (Ac 0))) (Ag (Hz K (dFn (fun vs H Q E=>vs.length<=1000/\mkX t.c_zby none 0 vs H Q E) (Aa (dC (.str "a thing in the edit is not what it has to be")) Ae)))
  Ah) Ah)
 Ah)
theorem bk8 (K:aa) (t:Adr):wSs 40 (Av K X9 (Ab Kd) (A8 K t) bl) (Ai Kd)=ce1 K t:=by kernel_rfl
theorem bp1:Aj X9 O2 (Ab Kd):=⟨rfl,rfl,rfl,by decide +kernel,rfl,by decide +kernel,by decide +kernel⟩
theorem bu5:An X9 (Ab Kd)=true:=by decide +kernel
noncomputable def cb9 (K:aa) (t:Adr):DS:=
 (Ag (Am (Qu K (dFn (spE (Gu K t) []) (Aa (Ac 0) Ae)) (Bh K (dFn (fun vs H Q _=>(Bs K) vs H Q) (Aa (Ac 0) (Aa (dC (.ty "str")) Ae))) (Ad (Aw K false) (Ac 0) (dC (.str ""))))))
 Ah)
theorem bi2 (K:aa) (t:Adr):wSs 40 (Av K Xj (Ab Jn) (Hb K t) bl) (Ai Jn)=cb9 K t:=by kernel_rfl
theorem bm5:Aj Xj Oa (Ab Jn):=⟨rfl,rfl,rfl,by decide +kernel,rfl,by decide +kernel,by decide +kernel⟩
theorem br9:An Xj (Ab Jn)=true:=by decide +kernel
noncomputable def cc4 (K:aa) (t:Adr):DS:=
 (Ag (Bo (dFn (spE (Cl K t) []) (Aa (Bh K (dFn (spE (Gu K t) []) (Aa (Ac 1) Ae)) (Bh K (dFn (spE (Nm K t) []) (Aa (Ac 3) Ae)) (dFn (spE (Dm K t) []) (Aa (Ac 4) Ae)))) Ae)))
 (Ag (Bo (dFn (spE (Cl K t) []) (Aa (Ad (bg7 true) (dFn (spE (Va K t) []) (Aa (Ac 2) Ae)) (dC .non)) Ae)))
 (Ag (Bo (dFn (spE (Cl K t) []) (Aa (Qv "fits" 1 (Fu K t) (dFn (spE (Va K t) []) (Aa (Ac 2) Ae)) (Aa (Ac 5) Ae)) Ae)))
 (Ag (Dc K "name" (Ac 0) (Ac 1))
 (Ag (Dc K "kind" (Ac 0) (Ac 2))
 (Ag (Dc K "parent" (Ac 0) (Ac 3))
 (Ag (Dc K "rank" (Ac 0) (Ac 4))
 (Ag (Dc K "content" (Ac 0) (Ac 5))
 Ah))))))))
theorem bi8 (K:aa) (t:Adr):wSs 40 (Av K Xp (Ab Jt) (V6 K t) bl) (Ai Jt)=cc4 K t:=by kernel_rfl
theorem bn1:Aj Xp Og (Ab Jt):=⟨rfl,rfl,rfl,by decide +kernel,rfl,by decide +kernel,by decide +kernel⟩
theorem bs5:An Xp (Ab Jt)=true:=by decide +kernel
noncomputable def ce3 (K:aa) (t:Adr):DS:=
 (Ag (Am (dFn (mkC t.c_zck (some (Pt K t)) 0) (Aa (Ad (Ak K) (Ac 0) (dC (.int 0))) (Aa (Ad (Ak K) (Ac 0) (dC (.int 1))) (Aa (Ad (Ak K) (Ac 0) (dC (.int 2))) (Aa (Ad (Ak K) (Ac 0) (dC (.int 3))) (Aa (Ad (Ak K) (Ac 0) (dC (.int 4))) Ae)))))))
 Ah)
theorem bl0 (K:aa) (t:Adr):wSs 40 (Av K Yb (Ab Kf) (Gg K t) bl) (Ai Kf)=ce3 K t:=by kernel_rfl
theorem bp3:Aj Yb O4 (Ab Kf):=⟨rfl,rfl,rfl,by decide +kernel,rfl,by decide +kernel,by decide +kernel⟩
theorem bu7:An Yb (Ab Kf)=true:=by decide +kernel
noncomputable def cl8 (K:aa) (t:Adr):DS:=
 (Ag (Bo (dFn (spE (Cl K t) []) (Aa (dFn (spE (Gu K t) []) (Aa (Ac 1) Ae)) Ae)))
 (Ag (Dc K "part" (Ac 0) (Ac 1))
 Ah))
theorem b45 (K:aa) (t:Adr):wSs 40 (Av K az1 (Ab Ru) (Hb K t) bl) (Ai Ru)=cl8 K t:=by kernel_rfl
theorem b72:Aj az1 Yf (Ab Ru):=⟨rfl,rfl,rfl,by decide +kernel,rfl,by decide +kernel,by decide +kernel⟩
theorem cf3:An az1 (Ab Ru)=true:=by decide +kernel
noncomputable def cl9 (K:aa) (t:Adr):DS:=
 (Ag (Bo (dFn (spE (Lx K t) []) (Aa (Ac 0) (Aa (Ac 1) Ae))))
 Ah)
theorem b46 (K:aa) (t:Adr):wSs 40 (Av K az2 (Ab Rv) (Hc K t) bl) (Ai Rv)=cl9 K t:=by kernel_rfl
theorem b73:Aj az2 Yg (Ab Rv):=⟨rfl,rfl,rfl,by decide +kernel,rfl,by decide +kernel,by decide +kernel⟩
theorem cf4:An az2 (Ab Rv)=true:=by decide +kernel
noncomputable def cn4 (K:aa) (t:Adr):DS:=
 (Ag (Bo (dFn (spE (U9 K t) []) (Aa (Ac 0) (Aa (Ac 1) Ae))))
 (Ag (Bo (dFn (spE (Cl K t) []) (Aa (dFn (spE (Eo K t) []) (Aa (Ac 2) Ae)) Ae)))
 (Ag (Dc K "text" (Ac 0) (Ac 2))
 Ah)))
theorem b65 (K:aa) (t:Adr):wSs 40 (Av K a11 (Ab Sj) (Cp K t) bl) (Ai Sj)=cn4 K t:=by kernel_rfl
theorem b92:Aj a11 Yz (Ab Sj):=⟨rfl,rfl,rfl,by decide +kernel,rfl,by decide +kernel,by decide +kernel⟩
theorem ch4:An a11 (Ab Sj)=true:=by decide +kernel
noncomputable def cd3 (K:aa) (t:Adr):DS:=
 (Ag (Am (dFn (mkC t.c_zce (some (aa7 K t)) 0) (Aa (Ad (Ak K) (Ac 0) (dC (.int 0))) (Aa (Ad (Ak K) (Ac 0) (dC (.int 1))) Ae))))
 Ah)
theorem bj9 (K:aa) (t:Adr):wSs 40 (Av K X0 (Ab J4) (C9 K t) bl) (Ai J4)=cd3 K t:=by kernel_rfl
theorem bo2:Aj X0 Ot (Ab J4):=⟨rfl,rfl,rfl,by decide +kernel,rfl,by decide +kernel,by decide +kernel⟩
theorem bt6:An X0 (Ab J4)=true:=by decide +kernel
noncomputable def cm8 (K:aa) (t:Adr):DS:=
 (Ag (Bo (dFn (spE (U9 K t) []) (Aa (Ac 0) (Aa (Ac 1) Ae))))
 (Ag (Bo (dFn (spE (Cl K t) []) (Aa (Bh K (dFn (spE (Dm K t) []) (Aa (Ac 2) Ae)) (Bh K (dFn (spE (Dm K t) []) (Aa (Ac 3) Ae)) (dFn (spE (Eo K t) []) (Aa (Ac 4) Ae)))) Ae)))
 (Ag (Dc K "at" (Ac 0) (Ac 2))
 (Ag (Dc K "size" (Ac 0) (Ac 3))
 (Ag (Dc K "text" (Ac 0) (Ac 4))
 Ah)))))
theorem b57 (K:aa) (t:Adr):wSs 40 (Av K a03 (Ab Sa) (Cp K t) bl) (Ai Sa)=cm8 K t:=by kernel_rfl
theorem b84:Aj a03 Yr (Ab Sa):=⟨rfl,rfl,rfl,by decide +kernel,rfl,by decide +kernel,by decide +kernel⟩
theorem cg5:An a03 (Ab Sa)=true:=by decide +kernel
noncomputable def cc2 (K:aa) (t:Adr):DS:=
 (Ag (Am (dFn (mkC t.c_zcc (some (aa6 K t)) 0) (Aa (Ad (Ak K) (Ac 0) (dC (.int 0))) (Aa (Ad (Ak K) (Ac 0) (dC (.int 1))) (Aa (Ad (Ak K) (Ac 0) (dC (.int 2))) (Aa (Ad (Ak K) (Ac 0) (dC (.int 3))) Ae))))))
 Ah)
theorem bi6 (K:aa) (t:Adr):wSs 40 (Av K Xn (Ab Jr) (C9 K t) bl) (Ai Jr)=cc2 K t:=by kernel_rfl
theorem bm9:Aj Xn Oe (Ab Jr):=⟨rfl,rfl,rfl,by decide +kernel,rfl,by decide +kernel,by decide +kernel⟩
theorem bs3:An Xn (Ab Jr)=true:=by decide +kernel
noncomputable def cl7 (K:aa) (t:Adr):DS:=
 (Ag (Bo (dFn (spE (Lx K t) []) (Aa (Ac 0) (Aa (Ac 1) Ae))))
 Ah)
theorem b44 (K:aa) (t:Adr):wSs 40 (Av K az0 (Ab Rt) (Hc K t) bl) (Ai Rt)=cl7 K t:=by kernel_rfl
theorem b71:Aj az0 Ye (Ab Rt):=⟨rfl,rfl,rfl,by decide +kernel,rfl,by decide +kernel,by decide +kernel⟩
theorem cf2:An az0 (Ab Rt)=true:=by decide +kernel
noncomputable def ca9 (K:aa) (t:Adr):DS:=
 (Ag (Bo (dFn (spE (Qi K t) []) (Aa (Ac 0) (Aa (Ac 1) Ae))))
 (Ag (Bo (dFn (spE (Cl K t) []) (Aa (Bh K (dFn (spE (Dm K t) []) (Aa (Ac 2) Ae)) (Bh K (dFn (spE (Dm K t) []) (Aa (Ac 3) Ae)) (dFn (spE (Eo K t) []) (Aa (Ac 4) Ae)))) Ae)))
 (Ag (Dc K "row" (Ac 0) (Ac 2))
 (Ag (Dc K "column" (Ac 0) (Ac 3))
 (Ag (Dc K "text" (Ac 0) (Ac 4))
 Ah)))))
theorem bh0 (K:aa) (t:Adr):wSs 40 (Av K W7 (Ab Jb) (Cp K t) bl) (Ai Jb)=ca9 K t:=by kernel_rfl
theorem bl3:Aj W7 Ny (Ab Jb):=⟨rfl,rfl,rfl,by decide +kernel,rfl,by decide +kernel,by decide +kernel⟩
theorem bq7:An W7 (Ab Jb)=true:=by decide +kernel
noncomputable def cd4 (K:aa) (t:Adr):DS:=
 (Ag (Am (dFn (mkC t.c_zcf (some (Pp K t)) 0) (Aa (Ad (Ak K) (Ac 0) (dC (.int 0))) (Aa (Ad (Ak K) (Ac 0) (dC (.int 1))) (Aa (Ad (Ak K) (Ac 0) (dC (.int 2))) (Aa (Ad (Ak K) (Ac 0) (dC (.int 3))) Ae))))))
 Ah)
theorem bk0 (K:aa) (t:Adr):wSs 40 (Av K X1 (Ab J5) (C9 K t) bl) (Ai J5)=cd4 K t:=by kernel_rfl
theorem bo3:Aj X1 Ou (Ab J5):=⟨rfl,rfl,rfl,by decide +kernel,rfl,by decide +kernel,by decide +kernel⟩
theorem bt7:An X1 (Ab J5)=true:=by decide +kernel
noncomputable def cm4 (K:aa) (t:Adr):DS:=
 (Ag (Bo (dFn (spE (Qi K t) []) (Aa (Ac 0) (Aa (Ac 1) Ae))))
 (Ag (Bo (dFn (spE (Cl K t) []) (Aa (Bh K (dFn (spE (Dm K t) []) (Aa (Ac 2) Ae)) (dFn (spE (Nn K t) []) (Aa (Ac 3) Ae))) Ae)))
 (Ag (Dc K "at" (Ac 0) (Ac 2))
 (Ag (Dc K "cells" (Ac 0) (Ac 3))
 Ah))))
theorem b53 (K:aa) (t:Adr):wSs 40 (Av K az9 (Ab R6) (Cp K t) bl) (Ai R6)=cm4 K t:=by kernel_rfl
theorem b80:Aj az9 Yn (Ab R6):=⟨rfl,rfl,rfl,by decide +kernel,rfl,by decide +kernel,by decide +kernel⟩
theorem cg1:An az9 (Ab R6)=true:=by decide +kernel
noncomputable def cb7 (K:aa) (t:Adr):DS:=
 (Ag (Am (dFn (mkC t.c_zca (some (aa4 K t)) 0) (Aa (Ad (Ak K) (Ac 0) (dC (.int 0))) (Aa (Ad (Ak K) (Ac 0) (dC (.int 1))) (Aa (Ad (Ak K) (Ac 0) (dC (.int 2))) Ae)))))
 Ah)
theorem bh8 (K:aa) (t:Adr):wSs 40 (Av K Xf (Ab Jj) (C9 K t) bl) (Ai Jj)=cb7 K t:=by kernel_rfl
theorem bm1:Aj Xf N6 (Ab Jj):=⟨rfl,rfl,rfl,by decide +kernel,rfl,by decide +kernel,by decide +kernel⟩
theorem br5:An Xf (Ab Jj)=true:=by decide +kernel
noncomputable def cm6 (K:aa) (t:Adr):DS:=
 (Ag (Bo (dFn (spE (Qi K t) []) (Aa (Ac 0) (Aa (Ac 1) Ae))))
 (Ag (Bo (dFn (spE (Cl K t) []) (Aa (dFn (spE (Dm K t) []) (Aa (Ac 2) Ae)) Ae)))
 (Ag (Dc K "at" (Ac 0) (Ac 2))
 Ah)))
theorem b55 (K:aa) (t:Adr):wSs 40 (Av K a01 (Ab R8) (Cp K t) bl) (Ai R8)=cm6 K t:=by kernel_rfl
theorem b82:Aj a01 Yp (Ab R8):=⟨rfl,rfl,rfl,by decide +kernel,rfl,by decide +kernel,by decide +kernel⟩
theorem cg3:An a01 (Ab R8)=true:=by decide +kernel
noncomputable def cb8 (K:aa) (t:Adr):DS:=
 (Ag (Am (dFn (mkC t.c_zcb (some (aa5 K t)) 0) (Aa (Ad (Ak K) (Ac 0) (dC (.int 0))) (Aa (Ad (Ak K) (Ac 0) (dC (.int 1))) Ae))))
 Ah)
theorem bh9 (K:aa) (t:Adr):wSs 40 (Av K Xg (Ab Jk) (C9 K t) bl) (Ai Jk)=cb8 K t:=by kernel_rfl
theorem bm2:Aj Xg N7 (Ab Jk):=⟨rfl,rfl,rfl,by decide +kernel,rfl,by decide +kernel,by decide +kernel⟩
theorem br6:An Xg (Ab Jk)=true:=by decide +kernel
noncomputable def ce0 (K:aa) (t:Adr):DS:=
 (Ag (Am (dFn (mkC t.c_zcj (some (Pu K t)) 0) (Aa (Ad (Ak K) (Ac 0) (dC (.int 0))) Ae)))
 Ah)
theorem bk7 (K:aa) (t:Adr):wSs 40 (Av K X8 (Ab Kc) (Hc K t) bl) (Ai Kc)=ce0 K t:=by kernel_rfl
theorem bp0:Aj X8 O1 (Ab Kc):=⟨rfl,rfl,rfl,by decide +kernel,rfl,by decide +kernel,by decide +kernel⟩
theorem bu4:An X8 (Ab Kc)=true:=by decide +kernel
noncomputable def cb2 (K:aa) (t:Adr):DS:=
 (Ag (Bo (dFn (spE (Lx K t) []) (Aa (Ac 0) (Aa (Ac 1) Ae))))
 (Ag (Bo (dFn (spE (Cl K t) []) (Aa (Bh K (dFn (spE (Nm K t) []) (Aa (Ac 2) Ae)) (dFn (spE (Dm K t) []) (Aa (Ac 3) Ae))) Ae)))
 (Ag (Dc K "parent" (Ac 0) (Ac 2))
 (Ag (Dc K "rank" (Ac 0) (Ac 3))
 Ah))))
theorem bh3 (K:aa) (t:Adr):wSs 40 (Av K Xa (Ab Je) (Hc K t) bl) (Ai Je)=cb2 K t:=by kernel_rfl
theorem bl6:Aj Xa N1 (Ab Je):=⟨rfl,rfl,rfl,by decide +kernel,rfl,by decide +kernel,by decide +kernel⟩
theorem br0:An Xa (Ab Je)=true:=by decide +kernel
noncomputable def cd8 (K:aa) (t:Adr):DS:=
 (Ag (Am (dFn (mkC t.c_zcg (some (Pq K t)) 0) (Aa (Ad (Ak K) (Ac 0) (dC (.int 0))) (Aa (Ad (Ak K) (Ac 0) (dC (.int 1))) (Aa (Ad (Ak K) (Ac 0) (dC (.int 2))) Ae)))))
 Ah)
theorem bk5 (K:aa) (t:Adr):wSs 40 (Av K X6 (Ab Ka) (Cp K t) bl) (Ai Ka)=cd8 K t:=by kernel_rfl
theorem bo8:Aj X6 Oz (Ab Ka):=⟨rfl,rfl,rfl,by decide +kernel,rfl,by decide +kernel,by decide +kernel⟩
theorem bu2:An X6 (Ab Ka)=true:=by decide +kernel
noncomputable def cb5 (K:aa) (t:Adr):DS:=
 (Ag (Bo (dFn (spE (Lx K t) []) (Aa (Ac 0) (Aa (Ac 1) Ae))))
 (Ag (Bo (dFn (spE (Cl K t) []) (Aa (Bh K (dFn (spE (Gu K t) []) (Aa (Ac 2) Ae)) (dFn (spE (Eo K t) []) (Aa (Ac 3) Ae))) Ae)))
 (Ag (Dc K "name" (Ac 0) (Ac 2))
 (Ag (Dc K "text" (Ac 0) (Ac 3))
 Ah))))
theorem bh6 (K:aa) (t:Adr):wSs 40 (Av K Xd (Ab Jh) (Hc K t) bl) (Ai Jh)=cb5 K t:=by kernel_rfl
theorem bl9:Aj Xd N4 (Ab Jh):=⟨rfl,rfl,rfl,by decide +kernel,rfl,by decide +kernel,by decide +kernel⟩
theorem br3:An Xd (Ab Jh)=true:=by decide +kernel
noncomputable def cd9 (K:aa) (t:Adr):DS:=
 (Ag (Am (dFn (mkC t.c_zci (some (Ps K t)) 0) (Aa (Ad (Ak K) (Ac 0) (dC (.int 0))) (Aa (Ad (Ak K) (Ac 0) (dC (.int 1))) (Aa (Ad (Ak K) (Ac 0) (dC (.int 2))) Ae)))))
 Ah)
theorem bk6 (K:aa) (t:Adr):wSs 40 (Av K X7 (Ab Kb) (Cp K t) bl) (Ai Kb)=cd9 K t:=by kernel_rfl
theorem bo9:Aj X7 O0 (Ab Kb):=⟨rfl,rfl,rfl,by decide +kernel,rfl,by decide +kernel,by decide +kernel⟩
theorem bu3:An X7 (Ab Kb)=true:=by decide +kernel
noncomputable def ay2 (K:aa) (t:Adr):DS:=
 (Ag (dIf (dOr (Cj (B8 K (dFn (fun vs H Q _=>(Bs K) vs H Q) (Aa (Ac 0) (Aa (dC (.ty "tuple")) Ae))))) (dOr (Az (Ad (Aw K false) (dFn (fun vs H Q _=>(Ct K) vs H Q) (Aa (Ac 0) Ae)) (dC (.int 0)))) (dOr (Cj (B8 K (dFn (fun vs H Q _=>(Bs K) vs H Q) (Aa (Ad (Ak K) (Ac 0) (dC (.int 0))) (Aa (dC (.ty "str")) Ae))))) (Az (dUn (Qa true (Cd t)) (Ad (Ak K) (Ac 0) (dC (.int 0)))))))) (Ag (Hz K (dFn (fun vs H Q E=>vs.length<=1000/\mkX t.c_zby none 0 vs H Q E) (Aa (dC (.str "this is no tuple with a word of an edit")) Ae)))
  Ah) Ah)
 (Ag (A1 1 (dUn (aq0 (Cd t)) (Ad (Ak K) (Ac 0) (dC (.int 0)))))
 (Ag (dIf (Az (Ad (Aw K true) (Ad G5 (dFn (fun vs H Q _=>(Ct K) vs H Q) (Aa (Ac 0) Ae)) (dC (.int 1))) (Ad (Ak K) (Ac 1) (dC (.int 0))))) (Ag (Hz K (dFn (fun vs H Q E=>vs.length<=1000/\mkX t.c_zby none 0 vs H Q E) (Aa (dC (.str "there are too few or too many things behind the word")) Ae)))
  Ah) Ah)
 (Ag (A1 2 (Ad (Ak K) (Ac 1) (dC (.int 1))))
 (Ag (Am (a28 (Pk (C8 K t)) 1 (Ac 2) (Aa (dSl K (Ac 0) (Co (dC (.int 1))) Bu) Ae)))
 Ah)))))
theorem bk1 (K:aa) (t:Adr):wSs 40 (Av K X2 (Ab J6) (C8 K t) bl) (Ai J6)=ay2 K t:=by kernel_rfl
theorem bo4:Aj X2 Ov (Ab J6):=⟨rfl,rfl,rfl,by decide +kernel,rfl,by decide +kernel,by decide +kernel⟩
theorem bt8:An X2 (Ab J6)=true:=by decide +kernel
noncomputable def cc9 (K:aa) (t:Adr):DS:=
 (Ag (dIf (Az (Ad (Aw K false) (Ad (Ak K) (Ac 0) (dC (.int 0))) (dC (.str "put")))) (Ag (Am (dFn (mkC t.c_zck (some (Pt K t)) 0) (Aa (Ad (Ak K) (Ac 0) (dC (.int 1))) (Aa (Ad (Ak K) (Ac 0) (dC (.int 2))) (Aa (Ad (Ak K) (Ac 0) (dC (.int 3))) (Aa (Ad (Ak K) (Ac 0) (dC (.int 4))) (Aa (Ad (Ak K) (Ac 0) (dC (.int 5))) Ae)))))))
  Ah) Ah)
 (Ag (dIf (Az (Ad (Aw K false) (Ad (Ak K) (Ac 0) (dC (.int 0))) (dC (.str "write")))) (Ag (Am (dFn (mkC t.c_zce (some (aa7 K t)) 0) (Aa (Ad (Ak K) (Ac 0) (dC (.int 1))) (Aa (Ad (Ak K) (Ac 0) (dC (.int 2))) Ae))))
  Ah) Ah)
 (Ag (dIf (Az (Ad (Aw K false) (Ad (Ak K) (Ac 0) (dC (.int 0))) (dC (.str "splice")))) (Ag (Am (dFn (mkC t.c_zcc (some (aa6 K t)) 0) (Aa (Ad (Ak K) (Ac 0) (dC (.int 1))) (Aa (Ad (Ak K) (Ac 0) (dC (.int 2))) (Aa (Ad (Ak K) (Ac 0) (dC (.int 3))) (Aa (Ad (Ak K) (Ac 0) (dC (.int 4))) Ae))))))
  Ah) Ah)
 (Ag (dIf (Az (Ad (Aw K false) (Ad (Ak K) (Ac 0) (dC (.int 0))) (dC (.str "cell")))) (Ag (Am (dFn (mkC t.c_zcf (some (Pp K t)) 0) (Aa (Ad (Ak K) (Ac 0) (dC (.int 1))) (Aa (Ad (Ak K) (Ac 0) (dC (.int 2))) (Aa (Ad (Ak K) (Ac 0) (dC (.int 3))) (Aa (Ad (Ak K) (Ac 0) (dC (.int 4))) Ae))))))
  Ah) Ah)
 (Ag (dIf (Az (Ad (Aw K false) (Ad (Ak K) (Ac 0) (dC (.int 0))) (dC (.str "addrow")))) (Ag (Am (dFn (mkC t.c_zca (some (aa4 K t)) 0) (Aa (Ad (Ak K) (Ac 0) (dC (.int 1))) (Aa (Ad (Ak K) (Ac 0) (dC (.int 2))) (Aa (Ad (Ak K) (Ac 0) (dC (.int 3))) Ae)))))
  Ah) Ah)
 (Ag (dIf (Az (Ad (Aw K false) (Ad (Ak K) (Ac 0) (dC (.int 0))) (dC (.str "cutrow")))) (Ag (Am (dFn (mkC t.c_zcb (some (aa5 K t)) 0) (Aa (Ad (Ak K) (Ac 0) (dC (.int 1))) (Aa (Ad (Ak K) (Ac 0) (dC (.int 2))) Ae))))
  Ah) Ah)
 (Ag (dIf (Az (Ad (Aw K false) (Ad (Ak K) (Ac 0) (dC (.int 0))) (dC (.str "cut")))) (Ag (Am (dFn (mkC t.c_zcj (some (Pu K t)) 0) (Aa (Ad (Ak K) (Ac 0) (dC (.int 1))) Ae)))
  Ah) Ah)
 (Ag (dIf (Az (Ad (Aw K false) (Ad (Ak K) (Ac 0) (dC (.int 0))) (dC (.str "move")))) (Ag (Am (dFn (mkC t.c_zcg (some (Pq K t)) 0) (Aa (Ad (Ak K) (Ac 0) (dC (.int 1))) (Aa (Ad (Ak K) (Ac 0) (dC (.int 2))) (Aa (Ad (Ak K) (Ac 0) (dC (.int 3))) Ae)))))
  Ah) Ah)
 (Ag (Am (dFn (mkC t.c_zci (some (Ps K t)) 0) (Aa (Ad (Ak K) (Ac 0) (dC (.int 1))) (Aa (Ad (Ak K) (Ac 0) (dC (.int 2))) (Aa (Ad (Ak K) (Ac 0) (dC (.int 3))) Ae)))))
 Ah)))))))))
theorem bj5 (K:aa) (t:Adr):wSs 40 (Av K Xw (Ab J0) (C9 K t) bl) (Ai J0)=cc9 K t:=by kernel_rfl
theorem bn8:Aj Xw Oo (Ab J0):=⟨rfl,rfl,rfl,by decide +kernel,rfl,by decide +kernel,by decide +kernel⟩
theorem bt2:An Xw (Ab J0)=true:=by decide +kernel
noncomputable def cd2 (K:aa) (t:Adr):DS:=
 (Ag (A1 2 (dC .non))
 (Ag (a29 K (Ag (dIf (B8 K (Ac 1)) (Ag (A1 2 (Qv "told" 0 (Ew K t) (dFn (spE (Tc K t) []) (Aa (Ac 0) Ae)) Ae))
   Ah) (Ag (A1 2 (Qv "told" 0 (Ew K t) (dFn (spE (Td K t) []) (Aa (Ac 0) Ae)) Ae))
   Ah))
  Ah) [(t.c_zby,.as 3,(Ag (A1 2 (dC (.str "other")))
  (Ag (dIf (Gb (B8 K (dFn (fun vs H Q _=>(Bs K) vs H Q) (Aa (Ac 3) (Aa (dC (.ref t.c_zbv)) Ae)))) (Gb (B8 K (dFn (fun vs H Q _=>(Bs K) vs H Q) (Aa (Ac 3) (Aa (dC (.ty "ValueError")) Ae)))) (Cj (B8 K (dFn (fun vs H Q _=>(Bs K) vs H Q) (Aa (Ac 3) (Aa (A6 (Aa (dC (.ref t.c_zbu)) (Aa (dC (.ref t.c_zbx)) Ae))) Ae))))))) (Ag (A1 2 (dC (.str "refused")))
   Ah) Ah)
  Ah)))])
 (Ag (Am (Ac 2))
 Ah)))
theorem bj8 (K:aa) (t:Adr):wSs 40 (Av K Xz (Ab J3) (Uh K t) bl) (Ai J3)=cd2 K t:=by kernel_rfl
theorem bo1:Aj Xz Os (Ab J3):=⟨rfl,rfl,rfl,by decide +kernel,rfl,by decide +kernel,by decide +kernel⟩
theorem bt5:An Xz (Ab J3)=true:=by decide +kernel
noncomputable def ay3 (K:aa) (t:Adr):DS:=
 (Ag (Mm (Po (Aa (dC (.int 0)) (Aa (dFn (fun vs H Q _=>aq1 vs H Q) (Aa (dC (.int 2)) (Aa (dFn (fun vs H Q _=>aq2 vs H Q) (Aa (Ad G5 (dFn (fun vs H Q _=>(Ct K) vs H Q) (Aa (Ac 0) Ae)) (dC (.int 2))) (Aa (dC (.int 60)) Ae))) Ae))) (Aa (dC (.int 3)) Ae)))) (gdN 1) (Ag (A1 2 (dFn (spE (S0 K t) []) (Aa (dFn (spE (Gq K t) []) (Aa (Ac 0) (Aa (Ac 1) Ae))) Ae)))
  (Ag (dIf (dOr (Az (Ad (Aw K true) (dFn (spE (Cv K t) []) (Aa (Ac 2) (Aa (dC (.bl false)) Ae))) (Ac 2))) (Az (Ad (Aw K true) (dFn (spE (Cv K t) []) (Aa (Ac 2) (Aa (dC (.bl true)) Ae))) (Ac 2)))) (Ag (Am (dC (.bl false)))
   Ah) Ah)
  (Ag (A1 3 (dFn (spE (ai4 K t) []) (Aa (Ac 2) (Aa (dFn (spE (Gq K t) []) (Aa (Ac 0) (Aa (Ad (As K) (Ac 1) (dC (.int 1))) Ae))) (Aa (dFn (spE (Gq K t) []) (Aa (Ac 0) (Aa (Ad (As K) (Ac 1) (dC (.int 2))) Ae))) Ae)))))
  (Ag (A1 4 (dC (.str "refused")))
  (Ag (dIf (B8 K (dFn (spE (Ta K t) []) (Aa (Ac 3) Ae))) (Ag (A1 4 (Ac 3))
   Ah) Ah)
  (Ag (dIf (Az (Ad (Aw K true) (dFn (spE (Cv K t) []) (Aa (Ac 3) (Aa (dC (.bl false)) Ae))) (Ac 4))) (Ag (Am (dC (.bl false)))
   Ah) Ah)
  (Ag (dIf (Gb (Az (Ad (Aw K true) (Ac 3) (A6 Ae))) (Gb (Az (Ad (Aw K false) (dFn (spE (Kj K t) []) (Aa (Ad (Ak K) (Ac 3) (dC (.int 0))) Ae)) (dFn (fun vs H Q _=>(Ct K) vs H Q) (Aa (Ac 3) Ae)))) (Az (Ad (Aw K true) (dFn (spE (Cv K t) []) (Aa (Ac 3) (Aa (dC (.bl true)) Ae))) (Ac 4))))) (Ag (Am (dC (.bl false)))
   Ah) Ah)
  Ah))))))))
 (Ag (A1 5 (Bm (Aa (dC .non) (Aa (dC (.int 7)) (Aa (dC (.str "cut a")) (Aa (Bm (Aa (dC (.str "cut")) (Aa (dC (.str "a")) Ae))) (Aa (Bm Ae) (Aa Ld (Aa (A6 Ae) (Aa (A6 (Aa (dC (.str "cut")) Ae)) (Aa (A6 (Aa (dC (.str "put")) (Aa (dC (.str "a")) Ae))) (Aa (A6 (Aa (dC (.str "cut")) (Aa (dC (.str "a")) (Aa (dC (.str "b")) Ae)))) (Aa (A6 (Aa (dC (.int 7)) (Aa (dC (.str "a")) Ae))) Ae)))))))))))))
 (Ag (Am (Ad (Aw K false) (dFn (spE (Cv K t) []) (Aa (Ad (Ak K) (Ad (As K) (Ac 5) (Bm (Aa (A6 (Aa (A6 (Aa (dC (.str "cut")) Ae)) (Aa (dC (.str "a")) Ae))) Ae))) (Ad Ar (dFn (spE (Gq K t) []) (Aa (Ac 0) (Aa (dC (.int 1)) Ae))) (dC (.int 12)))) (Aa (dC (.bl false)) Ae))) (dC (.str "refused"))))
 Ah)))
theorem bl1 (K:aa) (t:Adr):wSs 40 (Av K Yc (Ab Du) (Zr K t) bl) (Ai Du)=ay3 K t:=by kernel_rfl
theorem bp4:Aj Yc O5 (Ab Du):=⟨rfl,rfl,rfl,by decide +kernel,rfl,by decide +kernel,by decide +kernel⟩
theorem bu8:An Yc (Ab Du)=true:=by decide +kernel
end K28
set_option maxHeartbeats 400000
namespace K28
open PySem L2
theorem by7 {b:Bool} {A B:Prop} (e:b=false) (h:B):if b=true then A else B:=by subst e;exact D9 h
theorem av1 {b:Bool} {A B:Prop} (e:b=true) (h:A):if b=true then A else B:=by subst e;exact E4 h
theorem Hn (z:Str):z.cps.toList.length=z.length:=by simp [iB]
theorem ak2 (a b:Str):(a++b).cps.toList=a.cps.toList++b.cps.toList:=by
 show (a.cps++b.cps).toList=_
 simp
theorem Bg {xs:List V} {i:Nat} {v:V} (h:xs[i]? = some v):atI xs (i:Int)=some v:=by
 have hl:i<xs.length:=(List.getElem?_eq_some_iff.mp h).1
 unfold atI ixN
 have h1:¬ ((i:Int)<0):=by omega
 have h2:(i:Int)<(xs.length:Int):=by omega
 simp [h1,h2]
 exact h
theorem ac4 (a c:Nat):decide ([c]<[a])=decide (c<a):=by
 rw [cK,decide_eq_true_iff,decide_eq_true_iff,List.cons_lt_cons_iff]
 simp
theorem leL {s:Str} {a c:Nat} (h:s.cps.toList=[a]):(!decide ((⟨#[c]⟩:Str).cps.toList<s.cps.toList))=decide (a<=c):=by
 rw [h]
 show (!decide ([c]<[a]))=_
 rw [ac4,<- decide_not]
 exact decide_eq_decide.mpr Nat.not_lt
theorem leR {s:Str} {a c:Nat} (h:s.cps.toList=[a]):(!decide (s.cps.toList<(⟨#[c]⟩:Str).cps.toList))=decide (c<=a):=by
 rw [h]
 show (!decide ([a]<[c]))=_
 rw [ac4,<- decide_not]
 exact decide_eq_decide.mpr Nat.not_lt
theorem Vy {s1 s2:Str} {a b c:Nat} {Q:VK} {H:Hp} (h1:s1.cps.toList=[a]) (h2:s2.cps.toList=[b]) (k:Q (.bl (decide (a<=c)&&decide (c<=b))) H) :
  if (!decide ((⟨#[c]⟩:Str).cps.toList<s1.cps.toList))=true then Q (.bl (!decide (s2.cps.toList<(⟨#[c]⟩:Str).cps.toList))) H else Q (.bl false) H:=by
 rw [leL h1,leR h2]
 cases e:decide (a<=c) with
 | true=>rw [e,av] at k;exact E4 k
 | false=>rw [e,aR] at k;exact D9 k
theorem F8 {a b c:Int} {Q:VK} {H:Hp} (k:Q (.bl (decide (a<=c)&&decide (c<=b))) H):if decide (a<=c)=true then Q (.bl (decide (c<=b))) H else Q (.bl false) H:=by
 cases e:decide (a<=c) with
 | true=>rw [e,av] at k;exact E4 k
 | false=>rw [e,aR] at k;exact D9 k
theorem Mn {s1 s2:Str} {a b c i:Nat} {Q:VK} {E:EK} {H:Hp} {σ:St} (h1:s1.cps.toList=[a]) (h2:s2.cps.toList=[b]) (hv:σ[i]? = some (some (.str ⟨#[c]⟩))) (k:Q (.bl (decide (a<=c)&&decide (c<=b))) H) :
  Bx Cr Cr (dC (.str s1)) (Ac i) (dC (.str s2)) σ H Q E:=by
 unfold Bx dC Ac
 rw [hv]
 exact Vy h1 h2 k
section
variable {P:aI} {w:bq} {K:aa} {mg:Str->Option Value} {base:Heap} {t:Adr}
theorem Dn {H:Hp} {o:Th} {x:V} {z:Str} (hx:AtO K H o x) (h:A7 o=some z):o=some (.at_ (.str z))/\x=.str z:=by
 unfold A7 at h
 split at h
 ·cases h
  have hx:At K H (.at_ (.str z)) x:=hx
  unfold At at hx
  exact⟨rfl,hx.1⟩
 ·cases h
theorem ofS {H:Hp} {z:Str}:AtO K H (some (.at_ (.str z))) (.str z):=by
 show At K H (.at_ (.str z)) (.str z)
 unfold At
 exact⟨rfl,rfl⟩
theorem Km {z:Str} (h:stO (some (.at_ (.str z)))):z.length<=100:=by
 obtain⟨h,_⟩:=h
 cases h with
 | at_ _ h=>exact h z rfl
theorem Nu {ds:List Dt} (h:stO (some (.tup ds))):ds.length<=100 /\ ∀ d∈ds,stO (some d):=by
 obtain⟨h,hd⟩:=h
 cases h with
 | tup _ hl h=>
  refine⟨hl,fun d hm=>⟨h d hm,?_⟩⟩
  obtain⟨i,hi⟩:=List.mem_iff_getElem?.mp hm
  have:=Pd hi
  unfold dep at hd
  omega
theorem isS {H:Hp} {o:Th} {x:V} (hx:AtO K H o x) (h:A7 o=none):∀ {Q:VK},Q (.bl false) H->Bs K [x,.ty "str"] H Q:=by
 intro Q k
 match o,hx,h with
 | none,hx,_=>obtain⟨a,rfl,e⟩:=hx;exact⟨.type "dict", false,.of (.dK e),rfl,k⟩
 | some (.lst l),hx,_=>
  have hx:At K H (.lst l) x:=hx
  unfold At at hx
  obtain⟨a,xs,rfl,q,_⟩:=hx
  exact⟨.type "list", false,.sqL rfl q rfl,rfl,k⟩
 | some (.tup l),hx,_=>
  obtain⟨a,xs,rfl,q,_⟩:=B0 (show At K H (.tup l) x from hx)
  exact⟨.type "tuple", false,.sqT rfl q rfl,rfl,k⟩
 | some (.at_ v),hx,h=>
  have hx:At K H (.at_ v) x:=hx
  unfold At at hx
  obtain⟨rfl,f⟩:=hx
  cases x with
  | str z=>cases h
  | _=>first|exact⟨rfl,k⟩|cases f
theorem Tr {H:Hp} {x:V} {i:Nat} {σ:St} {T:String} {b:DE} {Q:VK} {E:EK} (hv:σ[i]? = some (some x)) (h:Bs K [x,.ty T] H fun v H1=>Gw K v H1 fun k H2=>if k=true then b σ H2 Q E else Q v H2):Bh K (dFn (fun vs H Q _=>(Bs K) vs H Q) (Aa (Ac i) (Aa (dC (.ty T)) Ae))) b σ H Q E:=by
 show Ac i σ H (fun x H1=>Bs K [x,.ty T] H1 fun v H1=>Gw K v H1 fun k H2=>if k=true then b σ H2 Q E else Q v H2) E
 unfold Ac
 rw [hv]
 exact h
theorem b16 {f:Addr} {fd:ai} (Z:Al K t) (F:FunD K "has_length" "has_length" Sl f fd .none) (T:Tab P w K mg base 0 (A8 K t) bl):FnOk P w K mg base CX0 1 f fd Y1 (Ve K t):=by
 refine F.okW0 b94 ch6 T (b67 K t) (fun vs H Q E h=>?_) (fun vs H Q E h=>?_)
 ·obtain⟨x,o,a,b,rfl,_⟩:=h;rfl
 ·obtain⟨x,o,a,b,rfl,hx,hs,k⟩:=h
  dsimp only [ce8,Ag,Am]
  refine Tr (T := "str") (i:=0) rfl ?_
  cases ho:A7 o with
  | none=>rw [ho] at k;exact isS hx ho k
  | some z=>
   rw [ho] at k
   obtain⟨rfl,rfl⟩:=Dn hx ho
   refine⟨rfl,aM (Km hs) (by decide),?_⟩
   have e:(decide ((a:Int)<=(z.length:Int))&&decide ((z.length:Int)<=(b:Int)))=Ck a b z:=by
    unfold Ck
    congr 1 <;> exact decide_eq_decide.mpr (by omega)
   exact F8 (by rw [e];exact k)
theorem a70 {f:Addr} {fd:ai} (Z:Al K t) (F:FunD K "is_letter" "is_letter" Jm f fd .none) (T:Tab P w K mg base 0 (A8 K t) bl):FnOk P w K mg base CX0 1 f fd N9 (Sv K t):=by
 refine F.okW0 bm4 br8 T (bi1 K t) (fun vs H Q E h=>?_) (fun vs H Q E h=>?_)
 ·obtain⟨c,rfl,_⟩:=h;rfl
 ·obtain⟨c,rfl,k⟩:=h
  dsimp only [ax8,Ag,Am]
  exact Mn (s1 := "a") (s2 := "z") (c:=c) (i:=0) (a:=97) (b:=122) (by decide +kernel) (by decide +kernel) (by rfl) k
theorem a69 {f:Addr} {fd:ai} (Z:Al K t) (F:FunD K "is_figure" "is_figure" Jl f fd .none) (T:Tab P w K mg base 0 (A8 K t) bl):FnOk P w K mg base CX0 1 f fd N8 (Su K t):=by
 refine F.okW0 bm3 br7 T (bi0 K t) (fun vs H Q E h=>?_) (fun vs H Q E h=>?_)
 ·obtain⟨c,rfl,_⟩:=h;rfl
 ·obtain⟨c,rfl,k⟩:=h
  dsimp only [ax7,Ag,Am]
  exact Mn (s1 := "0") (s2 := "9") (c:=c) (i:=0) (a:=48) (b:=57) (by decide +kernel) (by decide +kernel) (by rfl) k
theorem ba1 (c:Nat):decide ((⟨#[c]⟩:Str) = ".")=(c==46):=by
 by_cases h:c=46
 ·subst h;decide +kernel
 ·have:¬ (⟨#[c]⟩:Str) = "." := fun z=>h (by
   have:=congrArg (fun s:Str=>s.cps.toList) z
   have e:(cb ".").cps.toList=[46]:=by decide +kernel
   simp only at this
   rw [e] at this
   simpa using this)
  rw [decide_eq_false this]
  simp [h]
theorem bz7 {f:Addr} {fd:ai} (Z:Al K t) (F:FunD K "is_name_sign" "is_name_sign" Rx f fd .none) (T:Tab P w K mg base 1 (E3 K t) bl):FnOk P w K mg base CX0 2 f fd Yi (ai2 K t):=by
 refine F.okW0 b75 cf6 T (b48 K t) (fun vs H Q E h=>?_) (fun vs H Q E h=>?_)
 ·obtain⟨c,rfl,_⟩:=h;rfl
 ·obtain⟨c,rfl,k⟩:=h
  unfold Dg at k
  refine⟨c,rfl,A2 (c:=Ev c=true) (fun e=>?_) (fun e=>?_)⟩
  ·rw [e,gy] at k
   show Q (.bl (Ev c)) H
   rw [e];exact k
  ·have e:Ev c=false:=by simpa using e
   rw [e,eR] at k
   refine⟨c,rfl,A2 (c:=V4 c=true) (fun e2=>?_) (fun e2=>?_)⟩
   ·rw [e2,gy] at k
    show Q (.bl (V4 c)) H
    rw [e2];exact k
   ·have e2:V4 c=false:=by simpa using e2
    rw [e2,eR] at k
    show Q (.bl (decide ((⟨#[c]⟩:Str) = "."))) H
    rw [ba1]
    exact k
theorem bz8 {f:Addr} {fd:ai} (Z:Al K t) (F:FunD K "is_text_sign" "is_text_sign" Ry f fd .none) (T:Tab P w K mg base 0 (A8 K t) bl):FnOk P w K mg base CX0 1 f fd Yj (ai3 K t):=by
 refine F.okW0 b76 cf7 T (b49 K t) (fun vs H Q E h=>?_) (fun vs H Q E h=>?_)
 ·obtain⟨x,rfl,_⟩:=h;rfl
 ·obtain⟨c,rfl,k⟩:=h
  unfold B5 at k
  dsimp only [ce4,Ag,Am,Bh]
  refine Mn (s1 := " ") (s2 := "~") (c:=c) (i:=0) (a:=32) (b:=126) (by decide +kernel) (by decide +kernel) (by rfl) ?_
  refine A2 (c:=(decide (32<=c)&&decide (c<=126))=true) (fun e2=>?_) (fun e2=>?_)
  ·rw [e2,av] at k
   refine⟨rfl,?_⟩
   have e3:(!decide (((c:Nat):Int)=37))=(c != 37):=by
    rw [bne,cx]
    congr 1
    exact decide_eq_decide.mpr (by omega)
   show Q (.bl (!decide (((c:Nat):Int)=37))) H
   rw [e3]
   exact k
  ·have e2':(decide (32<=c)&&decide (c<=126))=false:=by simpa using e2
   rw [e2',aR] at k
   show Q (.bl (decide (32<=c)&&decide (c<=126))) H
   rw [e2']
   exact k
theorem a26 {J:It} {its:List V} {ok:Hp->Prop} {te:DE} {σ:St} {H:Hp} {L:Addr} {R:Hp->Prop} {E:EK} (Y:Dl J its ok) (Sg:St->Prop) (Pr:Nat->V->Hp->Prop) (hL:H L=none) (hok:∀ H1,Same H H1->ok H1) (hn:its.length<sizeLine) (hσ:Sg σ) (hS:∀ σ x,Sg σ->Sg (σ.set 0 (some x)))
  (mono:∀ i v H1 H2,TKeep K H1 H2->Pr i v H1->Pr i v H2)
  (he:∀ (i:Nat) x σ H1 Q1,its[i]? = some x->Sg σ->Same H H1->(∀ v H2,Same H1 H2->Pr i v H2->Q1 v H2)->te (σ.set 0 (some x)) H1 Q1 E)
  (hd:∀ H' ys,Same H H'->H' L=some (.lst ys)->ys.length=its.length->(∀ (i:Nat) (v:V),ys[i]? = some v->Pr i v H')->R H'):Vh J (gdN 0) Fn te L R σ (upd H L (.lst [])) E:=by
 refine Hw Y (fun i σ' H'=>Sg σ'/\Same H H' /\ ∃ ys,H' L=some (.lst ys)/\ys.length=i /\ ∀ (j:Nat) (v:V),ys[j]? = some v->Pr j v H') ⟨hσ,Same.upd hL,[],Af,rfl,fun j v e=>by simp at e⟩ (fun i σ' H' _ q=>hok H' q.2.1) ?_ ?_
 ·rintro i x σ' H' hx ⟨q1,q2,ys,q3,q4,q5⟩
  have hi:i<its.length:=(List.getElem?_eq_some_iff.mp hx).1
  refine he i x σ' H' _ hx q1 q2 fun v H2 S2 hp=>⟨ys,S2 _ _ q3,by omega,hS _ _ q1,(q2.trans S2).set hL,ys++[v],Af,by rw [aq,q4];rfl,fun j u hu=>?_⟩
  have kp:TKeep K H2 (upd H2 L (.lst (ys++[v]))):=TKeep.lst (S2 _ _ q3)
  by_cases hj:j<ys.length
  ·rw [dM hj] at hu
   exact mono _ _ _ _ kp (mono _ _ _ _ (TKeep.of S2) (q5 j u hu))
  ·rw [cv (by omega)] at hu
   have hj0:j - ys.length=0:=by
    rcases Nat.eq_zero_or_pos (j - ys.length) with h|h
    ·exact h
    ·rw [eG (by simp;omega)] at hu;cases hu
   rw [hj0] at hu
   cases hu
   have:j=i:=by omega
   subst this
   exact mono _ _ _ _ kp hp
 ·rintro σ' H' ⟨_,q2,ys,q3,q4,q5⟩
  exact hd H' ys q2 q3 q4 q5
theorem a34 {α:Type} {ys:List V} {ds:List α} {f:α->V} (hl:ys.length=ds.length) (h:∀ (i:Nat) (v:V),ys[i]? = some v -> ∀ d,ds[i]? = some d->v=f d):ys=ds.map f:=by
 apply List.ext_getElem?
 intro i
 rw [bD]
 by_cases hi:i<ys.length
 ·have e1:=a9 hi
  have e2:=a9 (show i<ds.length by omega)
  rw [e1,e2,h i _ e1 _ e2]
  rfl
 ·rw [eG (by omega),eG (by omega)]
  rfl
theorem Mh {α:Type} {J:It} {its:List V} {ds:List α} {f:α->Bool} {ok:Hp->Prop} {te:DE} {σ:St} {H:Hp} {L:Addr} {R:Hp->Prop} {E:EK} (Y:Dl J its ok) (Sg:St->Prop) (hL:H L=none) (hok:∀ H1,Same H H1->ok H1) (hn:its.length<sizeLine) (hl:its.length=ds.length) (hσ:Sg σ) (hS:∀ σ x,Sg σ->Sg (σ.set 0 (some x)))
  (he:∀ (i:Nat) x d σ H1 Q1,its[i]? = some x->ds[i]? = some d->Sg σ->Same H H1->(∀ H2,Same H1 H2->Q1 (.bl (f d)) H2)->te (σ.set 0 (some x)) H1 Q1 E)
  (hd:∀ H',Same H H'->SqL K H' L ((ds.map f).map V.bl)->R H'):Vh J (gdN 0) Fn te L R σ (upd H L (.lst [])) E:=by
 refine a26 (K:=K) Y Sg (fun (i:Nat) v _=>∀ d,ds[i]? = some d->v=.bl (f d)) hL hok hn hσ hS (fun _ _ _ _ _ h=>h) ?_ ?_
 ·intro i x σ H1 Q1 hx hg S hk
  have hi:i<its.length:=(List.getElem?_eq_some_iff.mp hx).1
  have e:=a9 (show i<ds.length by omega)
  exact he i x _ σ H1 Q1 hx e hg S fun H2 S2=>hk _ H2 S2 fun d hd'=>by rw [e] at hd';cases hd';rfl
 ·intro H' ys S e hy hp
  refine hd H' S (SqL.of (e.trans ?_))
  rw [a34 (f:=fun d=>V.bl (f d)) (by omega) hp,List.map_map]
  rfl
theorem L7 {α:Type} (ds:List α) (f:α->Bool):((ds.map f).all fun b=>b)=ds.all f:=by rw [List.all_map];rfl
theorem Lv {z:Str} {f:Nat->Bool} {te:DE} {H:Hp} {Q:VK} {E:EK} (hz:z.length<=100) (he:∀ (c:Nat) (v:Option V) H1 (Q1:VK),Q1 (.bl (f c)) H1->te [some (.str ⟨#[c]⟩)] H1 Q1 E) (k:∀ H',Same H H'->Q (.bl (z.cps.toList.all f)) H') :
  ∀ D,H D=none->Vh (Its z) (gdN 0) Fn te D (fun H'=>Nd K [.ref D] H' Q) [none] (upd H D (.lst [])) E:=by
 refine fun D hD=>Mh (K:=K) (ds:=z.cps.toList) (f:=f) (Tn z) (fun σ=>σ.length=1) hD (fun _ _=>bn) ?_ ?_ rfl (fun σ x hσ=>by rw [bO];exact hσ) ?_ ?_
 ·unfold Ce
  rw [aH,Hn]
  exact cz hz (by decide)
 ·unfold Ce
  rw [aH]
 ·intro i x d σ H1 Q1 hx hd hσ S hk
  unfold Ce at hx
  rw [bD,hd] at hx
  cases hx
  match σ,hσ with
  | [v],_=>exact he d v H1 Q1 (hk H1 (Same.refl _))
 ·intro H' S q
  exact⟨_,q,by rw [L7];exact k H' S⟩
theorem a91 {f:Addr} {fd:ai} (Z:Al K t) (F:FunD K "is_name" "is_name" J7 f fd .none) (T:Tab P w K mg base 2 (G9 K t) bl):FnOk P w K mg base CX0 3 f fd Ow (Gu K t):=by
 refine F.okW0 bo5 bt9 T (bk2 K t) (fun vs H Q E h=>?_) (fun vs H Q E h=>?_)
 ·obtain⟨x,o,rfl,_⟩:=h;rfl
 ·obtain⟨x,o,rfl,hx,hs,k⟩:=h
  refine⟨x,o,1,12,rfl,hx,hs,?_⟩
  cases ho:A7 o with
  | none=>
   have:nmO o=false:=by unfold nmO;rw [ho];rfl
   rw [this] at k
   exact k H (Same.refl _)
  | some z=>
   obtain⟨rfl,rfl⟩:=Dn hx ho
   have k:∀ H',Same H H'->Q (.bl (Ck 1 12 z&&z.cps.toList.all Dg)) H':=k
   refine A2 (c:=Ck 1 12 z=true) (fun e=>?_) (fun e=>?_)
   ·rw [e,av] at k
    exact Lv (Km hs) (fun c v H1 Q1 q=>⟨c,rfl,q⟩) k
   ·have e:Ck 1 12 z=false:=by simpa using e
    rw [e,aR] at k
    show Q (.bl (Ck 1 12 z)) H
    rw [e]
    exact k H (Same.refl _)
theorem a93 {f:Addr} {fd:ai} (Z:Al K t) (F:FunD K "is_text" "is_text" J9 f fd .none) (T:Tab P w K mg base 1 (E3 K t) bl):FnOk P w K mg base CX0 2 f fd Oy (Eo K t):=by
 refine F.okW0 bo7 bu1 T (bk4 K t) (fun vs H Q E h=>?_) (fun vs H Q E h=>?_)
 ·obtain⟨x,o,rfl,_⟩:=h;rfl
 ·obtain⟨x,o,rfl,hx,hs,k⟩:=h
  refine⟨x,o,0,60,rfl,hx,hs,?_⟩
  cases ho:A7 o with
  | none=>
   have:txO o=false:=by unfold txO;rw [ho];rfl
   rw [this] at k
   exact k H (Same.refl _)
  | some z=>
   obtain⟨rfl,rfl⟩:=Dn hx ho
   have k:∀ H',Same H H'->Q (.bl (Ck 0 60 z&&z.cps.toList.all B5)) H':=k
   refine A2 (c:=Ck 0 60 z=true) (fun e=>?_) (fun e=>?_)
   ·rw [e,av] at k
    exact Lv (Km hs) (fun c v H1 Q1 q=>⟨c,rfl,q⟩) k
   ·have e:Ck 0 60 z=false:=by simpa using e
    rw [e,aR] at k
    show Q (.bl (Ck 0 60 z)) H
    rw [e]
    exact k H (Same.refl _)
end
theorem in6_iff {n:Nat}:in6 n=true ↔ 1<=n/\n<=6:=by unfold in6;rw [am,decide_eq_true_iff,decide_eq_true_iff]
section
variable {P:aI} {w:bq} {K:aa} {mg:Str->Option Value} {base:Heap} {t:Adr}
theorem a79 {f:Addr} {fd:ai} (Z:Al K t) (F:FunD K "is_whole" "is_whole" Jv f fd .none) (T:Tab P w K mg base 0 (A8 K t) bl):FnOk P w K mg base CX0 1 f fd Oi (Sy K t):=by
 refine F.okW0 bn3 bs7 T (bj0 K t) (fun vs H Q E h=>?_) (fun vs H Q E h=>?_)
 ·obtain⟨x,o,rfl,_⟩:=h;rfl
 ·obtain⟨x,o,rfl,hx,hs,k⟩:=h
  match o,hx,k with
  | none,hx,k=>obtain⟨a,rfl,e⟩:=hx;exact⟨.type "dict", false,.of (.dK e),rfl,k H (Same.refl _)⟩
  | some (.lst l),hx,k=>
   have hx:At K H (.lst l) x:=hx
   unfold At at hx
   obtain⟨a,xs,rfl,q,_⟩:=hx
   exact⟨.type "list", false,.sqL rfl q rfl,rfl,k H (Same.refl _)⟩
  | some (.tup l),hx,k=>
   obtain⟨a,xs,rfl,q,_⟩:=B0 (show At K H (.tup l) x from hx)
   exact⟨.type "tuple", false,.sqT rfl q rfl,rfl,k H (Same.refl _)⟩
  | some (.at_ v),hx,k=>
   have hx:At K H (.at_ v) x:=hx
   unfold At at hx
   obtain⟨rfl,f⟩:=hx
   cases x with
   | int i=>exact⟨rfl,rfl,k H (Same.refl _)⟩
   | bl b=>exact⟨rfl,rfl,k H (Same.refl _)⟩
   | non=>exact⟨rfl,k H (Same.refl _)⟩
   | str z=>exact⟨rfl,k H (Same.refl _)⟩
   | _=>cases f
theorem Ao {H H':Hp} (S:Same H H') {o:Th} {x:V} (h:AtO K H o x):AtO K H' o x:=by
 cases o with
 | none=>obtain⟨a,e,q⟩:=h;exact⟨a,e,S _ _ q⟩
 | some d=>exact Hv S h
theorem ci2 {H:Hp} {o:Th} {x:V} (hx:AtO K H o x) (h:whO o=true):∃ i,o=some (.at_ (.int i))/\x=.int i:=by
 unfold whO at h
 split at h
 ·rename_i i
  have hx:At K H (.at_ (.int i)) x:=hx
  unfold At at hx
  exact⟨i,rfl,hx.1⟩
 ·cases h
theorem b70 {o:Th} (h:whO o=false):rkO o=false:=by
 unfold whO at h
 unfold rkO
 split at h
 ·cases h
 ·rfl
theorem a92 {f:Addr} {fd:ai} (Z:Al K t) (F:FunD K "is_rank" "is_rank" J8 f fd .none) (T:Tab P w K mg base 1 (E3 K t) bl):FnOk P w K mg base CX0 2 f fd Ox (Dm K t):=by
 refine F.okW0 bo6 bu0 T (bk3 K t) (fun vs H Q E h=>?_) (fun vs H Q E h=>?_)
 ·obtain⟨x,o,rfl,_⟩:=h;rfl
 ·obtain⟨x,o,rfl,hx,hs,k⟩:=h
  refine⟨x,o,rfl,hx,hs,fun H1 S1=>A2 (c:=whO o=true) (fun e=>?_) (fun e=>?_)⟩
  ·obtain⟨i,rfl,rfl⟩:=ci2 hx e
   exact F8 (a:=0) (b:=1000000000) (c:=i) (k H1 S1)
  ·have e:whO o=false:=by simpa using e
   rw [b70 e] at k
   show Q (.bl (whO o)) H1
   rw [e]
   exact k H1 S1
theorem a71 {f:Addr} {fd:ai} (Z:Al K t) (F:FunD K "is_parent" "is_parent" Jn f fd .none) (T:Tab P w K mg base 3 (Hb K t) bl):FnOk P w K mg base CX0 4 f fd Oa (Nm K t):=by
 refine F.okW0 bm5 br9 T (bi2 K t) (fun vs H Q E h=>?_) (fun vs H Q E h=>?_)
 ·obtain⟨x,o,rfl,_⟩:=h;rfl
 ·obtain⟨x,o,rfl,hx,hs,k⟩:=h
  unfold prO at k
  refine⟨x,o,rfl,hx,hs,fun H1 S1=>A2 (c:=nmO o=true) (fun e=>?_) (fun e=>?_)⟩
  ·rw [e,gy] at k
   show Q (.bl (nmO o)) H1
   rw [e]
   exact k H1 S1
  ·have e:nmO o=false:=by simpa using e
   rw [e,eR] at k
   refine Tr (T := "str") (i:=0) (x:=x) ?_ ?_
   ·rfl
   have hx1:=Ao S1 hx
   cases ho:A7 o with
   | none=>
    rw [ho,decide_eq_false (by intro z;cases z)] at k
    exact isS hx1 ho (k H1 S1)
   | some z=>
    obtain⟨rfl,rfl⟩:=Dn hx1 ho
    refine⟨rfl,?_⟩
    show Q (.bl (decide (z = ""))) H1
    have e2:decide (A7 (some (Dt.at_ (V.str z)))=some ("" : Str))=decide (z = ""):=decide_eq_decide.mpr ⟨fun h=>aN h,fun h=>by rw [h];rfl⟩
    rw [e2] at k
    exact k H1 S1
theorem ac2 {f:Addr} {fd:ai} (Z:Al K t) (F:FunD K "fits" "Kind.fits" Jd f fd .none) (T:Tab P w K mg base 2 (G9 K t) bl):FnOk P w K mg base CX0 3 f fd N0 (ag4 K t):=by
 refine F.okW0 bl5 bq9 T (bh2 K t) (fun vs H Q E h=>?_) (fun vs H Q E h=>?_)
 ·obtain⟨s,x,o,rfl,_⟩:=h;rfl
 ·obtain⟨s,x,o,rfl,hx,hs,k⟩:=h
  exact⟨x,o,rfl,hx,hs,k⟩
theorem a49 (n:Nat):(decide (1<=(n:Int))&&decide ((n:Int)<=6))=in6 n:=by
 unfold in6
 congr 1 <;> exact decide_eq_decide.mpr (by omega)
theorem b08 {f:Addr} {fd:ai} (Z:Al K t) (F:FunD K "is_tuple_of" "is_tuple_of" Sc f fd .none) (T:Tab P w K mg base 0 (A8 K t) bl):FnOk P w K mg base CX0 1 f fd Yt (Vc K t):=by
 refine F.okW0 b86 cg7 T (b59 K t) (fun vs H Q E h=>?_) (fun vs H Q E h=>?_)
 ·obtain⟨x,o,rfl,_⟩:=h;rfl
 ·obtain⟨x,o,rfl,hx,k⟩:=h
  match o,hx,k with
  | none,hx,k=>obtain⟨a,rfl,e⟩:=hx;exact⟨.type "dict", false,.of (.dK e),rfl,k⟩
  | some (.lst l),hx,k=>
   have hx:At K H (.lst l) x:=hx
   unfold At at hx
   obtain⟨a,xs,rfl,q,_⟩:=hx
   exact⟨.type "list", false,.sqL rfl q rfl,rfl,k⟩
  | some (.at_ v),hx,k=>
   have hx:At K H (.at_ v) x:=hx
   unfold At at hx
   obtain⟨rfl,f⟩:=hx
   cases x <;> first|exact⟨rfl,k⟩|cases f
  | some (.tup ds),hx,k=>
   obtain⟨a,xs,rfl,q,g⟩:=B0 (show At K H (.tup ds) x from hx)
   refine⟨.type "tuple", true,.sqT rfl q rfl,rfl,.inl ⟨xs,.inr q,?_⟩⟩
   refine F8 ?_
   rw [g.length,a49]
   exact k
theorem a98 {f:Addr} {fd:ai} (Z:Al K t) (F:FunD K "is_row" "is_row" Ke f fd .none) (T:Tab P w K mg base 2 (G9 K t) bl):FnOk P w K mg base CX0 3 f fd O3 (Nn K t):=by
 refine F.okW0 bp2 bu6 T (bk9 K t) (fun vs H Q E h=>?_) (fun vs H Q E h=>?_)
 ·obtain⟨x,o,rfl,_⟩:=h;rfl
 ·obtain⟨x,o,rfl,hx,hs,k⟩:=h
  refine⟨x,o,rfl,hx,?_⟩
  match o,hx,hs,k with
  | none,hx,hs,k=>exact k H (Same.refl _)
  | some (.lst l),hx,hs,k=>exact k H (Same.refl _)
  | some (.at_ v),hx,hs,k=>exact k H (Same.refl _)
  | some (.tup ds),hx,hs,k=>
   have k:∀ H',Same H H'->Q (.bl (in6 ds.length&&ds.all fun d=>txO (some d))) H':=k
   obtain⟨a,xs,rfl,q,g⟩:=B0 (show At K H (.tup ds) x from hx)
   refine A2 (c:=in6 ds.length=true) (fun e=>?_) (fun e=>?_)
   ·rw [e,av] at k
    have e6:=in6_iff.mp e
    have gl:=g.length
    refine .inr (.inl ⟨⟨_,q⟩,?_⟩)
    refine fun D hD=>Mh (K:=K) (ds:=ds) (f:=fun d=>txO (some d)) (Kq xs) (fun σ=>σ.length=1) hD (fun H1 S=>S.seqT q) ?_ gl rfl (fun σ x hσ=>by rw [bO];exact hσ) ?_ ?_
    ·rw [gl];exact cz e6.2 (by decide)
    ·intro i x d σ H1 Q1 hx hd hσ S hk
     obtain⟨y,hy,ha⟩:=Dx g hd
     rw [hx] at hy
     cases hy
     match σ,hσ with
     | [_],_=>exact⟨x,some d,rfl,Hv S ha,(Nu hs).2 d (bB hd),hk⟩
    ·intro H' S q
     exact⟨_,q,by rw [L7];exact k H' S⟩
   ·have e':in6 ds.length=false:=by simpa using e
    rw [e',aR] at k
    have:=k H (Same.refl _)
    show Q (.bl (in6 ds.length)) H
    rw [e']
    exact this
theorem Rs {H:Hp} {d:Dt} {x:V} (ha:At K H d x) (h:rwD d=true):∃ b ys,x=.ref b/\SqT K H b ys/\ys.length=C3 d:=by
 cases d with
 | tup es=>
  obtain⟨b,ys,rfl,q2,g2⟩:=B0 ha
  exact⟨b,ys,rfl,q2,g2.length⟩
 | at_ v=>exact absurd (show false=true from h) ak
 | lst l=>exact absurd (show false=true from h) ak
theorem b12 {f:Addr} {fd:ai} (Z:Al K t) (F:FunD K "fits" "Table.fits" Sh f fd .none) (T:Tab P w K mg base 3 (Hb K t) bl):FnOk P w K mg base CX0 4 f fd Yx (ax1 K t):=by
 refine F.okW0 b90 ch1 T (b63 K t) (fun vs H Q E h=>?_) (fun vs H Q E h=>?_)
 ·obtain⟨s,x,o,rfl,_⟩:=h;rfl
 ·obtain⟨s,x,o,rfl,hx,hs,k⟩:=h
  refine⟨x,o,rfl,hx,?_⟩
  match o,hx,hs,k with
  | none,hx,hs,k=>exact k H (Same.refl _)
  | some (.lst l),hx,hs,k=>exact k H (Same.refl _)
  | some (.at_ v),hx,hs,k=>exact k H (Same.refl _)
  | some (.tup ds),hx,hs,k=>
   have k:∀ H',Same H H'->Q (.bl (in6 ds.length&&(ds.all rwD&&ds.all fun d=>decide (C3 d=C3 (ds.headD (.tup [])))))) H':=k
   obtain⟨a,xs,rfl,q,g⟩:=B0 (show At K H (.tup ds) x from hx)
   refine A2 (c:=(!in6 ds.length)=true) (fun e=>?_) (fun e=>?_)
   ·have e':in6 ds.length=false:=by simpa using e
    rw [e',aR] at k
    exact k H (Same.refl _)
   ·have e':in6 ds.length=true:=by simpa using e
    rw [e',av] at k
    have e6:=in6_iff.mp e'
    have gl:=g.length
    have hlt:xs.length<sizeLine:=by rw [gl];exact cz e6.2 (by decide)
    refine .inr (.inl ⟨⟨_,q⟩,?_⟩)
    refine fun D hD=>Mh (K:=K) (ds:=ds) (f:=rwD) (Kq xs) (fun σ=>σ.length=1) hD (fun H1 S=>S.seqT q) hlt gl rfl (fun σ x hσ=>by rw [bO];exact hσ) ?_ ?_
    ·intro i x d σ H1 Q1 hx hd hσ S hk
     obtain⟨y,hy,ha⟩:=Dx g hd
     rw [hx] at hy
     cases hy
     match σ,hσ with
     | [_],_=>exact⟨x,some d,rfl,Hv S ha,(Nu hs).2 d (bB hd),hk⟩
    ·intro H1 S1 q1
     refine⟨_,q1,?_⟩
     rw [L7]
     refine A2 (c:=(!ds.all rwD)=true) (fun e=>?_) (fun e=>?_)
     ·have e':ds.all rwD=false:=by simpa using e
      rw [e',aR] at k
      exact k H1 S1
     ·have e':ds.all rwD=true:=by simpa using e
      rw [e',av] at k
      have er:=List.all_eq_true.mp e'
      have tp:∀ (i:Nat) (d:Dt),ds[i]? = some d -> ∃ (b:Addr) (ys:List V),xs[i]? = some (.ref b)/\SqT K H b ys/\ys.length=C3 d:=fun i d hd=>by
       obtain⟨y,hy,ha⟩:=Dx g hd
       obtain⟨b,ys,rfl,q2,g2⟩:=Rs ha (er d (bB hd))
       exact⟨b,ys,hy,q2,g2⟩
      have h0:ds[0]? = some (ds.headD (.tup [])):=by
       cases ds with
       | nil=>exact absurd e6.1 (by decide)
       | cons d ds=>rfl
      obtain⟨b0,ys0,hb0,q0,l0⟩:=tp 0 _ h0
      refine .inr (.inl ⟨⟨_,S1.seqT q⟩,?_⟩)
      refine fun D2 hD2=>Mh (K:=K) (ds:=ds) (f:=fun d=>decide (C3 d=C3 (ds.headD (.tup [])))) (Kq xs) (fun σ=>∃ v,σ=[v,some (.ref a)]) hD2 (fun H2 S=>S.seqT (S1.seqT q)) hlt gl ⟨_,rfl⟩ (fun σ x hσ=>by obtain⟨v,rfl⟩:=hσ;exact⟨_,rfl⟩) ?_ ?_
      ·intro i x d σ H2 Q1 hx hd hσ S hk
       obtain⟨b,ys,hb,q2,l2⟩:=tp i d hd
       rw [hx] at hb
       cases hb
       obtain⟨v,rfl⟩:=hσ
       have S2:=S1.trans S
       refine .inl ⟨ys,.inr (S2.seqT q2),?_⟩
       refine⟨_,_,.inr (S2.seqT q),Bg (i:=0) hb0,?_⟩
       refine .inl ⟨ys0,.inr (S2.seqT q0),?_⟩
       have e:decide ((ys.length:Int)=(ys0.length:Int))=decide (C3 d=C3 (ds.headD (.tup []))):=by
        rw [l2,l0]
        exact decide_eq_decide.mpr (by omega)
       show Q1 (.bl (decide ((ys.length:Int)=(ys0.length:Int)))) H2
       rw [e]
       exact hk H2 (Same.refl _)
      ·intro H2 S2 q2
       exact⟨_,q2,by rw [L7];exact k H2 (S1.trans S2)⟩
theorem bz6 {f:Addr} {fd:ai} (Z:Al K t) (F:FunD K "word" "Chapter.word" Rw f fd .none) (T:Tab P w K mg base 0 (A8 K t) bl):FnOk P w K mg base CX0 1 f fd Yh (aw4 K t):=by
 refine F.okW0 b74 cf5 T (b47 K t) (fun vs H Q E h=>?_) (fun vs H Q E h=>?_)
 ·obtain⟨s,rfl,_⟩:=h;rfl
 ·obtain⟨s,rfl,k⟩:=h;exact k
theorem a64 {f:Addr} {fd:ai} (Z:Al K t) (F:FunD K "word" "Para.word" Jg f fd .none) (T:Tab P w K mg base 0 (A8 K t) bl):FnOk P w K mg base CX0 1 f fd N3 (ag7 K t):=by
 refine F.okW0 bl8 br2 T (bh5 K t) (fun vs H Q E h=>?_) (fun vs H Q E h=>?_)
 ·obtain⟨s,rfl,_⟩:=h;rfl
 ·obtain⟨s,rfl,k⟩:=h;exact k
theorem b13 {f:Addr} {fd:ai} (Z:Al K t) (F:FunD K "word" "Table.word" Si f fd .none) (T:Tab P w K mg base 0 (A8 K t) bl):FnOk P w K mg base CX0 1 f fd Yy (ax2 K t):=by
 refine F.okW0 b91 ch3 T (b64 K t) (fun vs H Q E h=>?_) (fun vs H Q E h=>?_)
 ·obtain⟨s,rfl,_⟩:=h;rfl
 ·obtain⟨s,rfl,k⟩:=h;exact k
theorem a97 {f:Addr} {fd:ai} (Z:Al K t) (F:FunD K "insist" "insist" Kd f fd .none) (T:Tab P w K mg base 0 (A8 K t) bl):FnOk P w K mg base (CXE P w) 1 f fd O2 (Cl K t):=by
 refine F.okWX bp1 bu5 T (bk8 K t) (fun vs H Q E h=>?_) (fun vs H Q E h=>?_)
 ·obtain⟨b,rfl,_⟩:=h;rfl
 ·obtain⟨b,rfl,k1,k0⟩:=h
  cases b with
  | true=>exact k1 rfl
  | false=>exact⟨(show 1<=1000 by decide),fun a ha=>⟨_,none,Af,Z.bad.1,k0 rfl _ a ((Same.upd ha).set ha) Af⟩⟩
end
theorem Hl {H:Hp} {a dx C:Addr} (ha:H a=none) (hd:H dx=none):Same H (upd (upd H dx (.own a)) a (.ins C dx [])):=(Same.upd hd).set ha
theorem kw0:¬ (("para" : Str) = "chapter"):=by decide
theorem kw1:¬ (("table" : Str) = "chapter"):=by decide
theorem kw2:¬ (("table" : Str) = "para"):=by decide
section
variable {P:aI} {w:bq} {K:aa} {mg:Str->Option Value} {base:Heap} {t:Adr}
theorem am5 {H:Hp} {x:V} {i:Nat} {σ:St} {T:String} {D:Cy} {u v R:DS} (hv:σ[i]? = some (some x)) (h:Bs K [x,.ty T] H fun y H1=>Gw K y H1 fun k H2=>if (!k)=true then u { D with nx:=R D } σ H2 else v { D with nx:=R D } σ H2):Ag (dIf (Cj (B8 K (dFn (fun vs H Q _=>(Bs K) vs H Q) (Aa (Ac i) (Aa (dC (.ty T)) Ae))))) u v) R D σ H:=by
 show Ac i σ H (fun x H1=>Bs K [x,.ty T] H1 fun y H1=>Gw K y H1 fun k H2=>if (!k)=true then u { D with nx:=R D } σ H2 else v { D with nx:=R D } σ H2) (D.ex σ)
 unfold Ac
 rw [hv]
 exact h
theorem bz9 {f:Addr} {fd:ai} (Z:Al K t) (F:FunD K "kind_of_word" "kind_of_word" Rz f fd .none) (T:Tab P w K mg base 1 (E3 K t) bl):FnOk P w K mg base CX0 2 f fd Yk (Va K t):=by
 refine F.okW0 b77 cf8 T (b50 K t) (fun vs H Q E h=>?_) (fun vs H Q E h=>?_)
 ·obtain⟨x,o,rfl,_⟩:=h;rfl
 ·obtain⟨x,o,rfl,hx,hs,k0,kn0⟩:=h
  cases ho:A7 o with
  | none=>
   have:kdO o=false:=by unfold kdO;rw [ho];rfl
   refine am5 (T := "str") (i:=0) (x:=x) rfl (isS hx ho ?_)
   exact kn0 this H (Same.refl _)
  | some w=>
  obtain⟨rfl,rfl⟩:=Dn hx ho
  have k:=k0 w rfl
  have kn:kdS w=false -> ∀ H',Same H H'->Q .non H':=kn0
  refine⟨rfl,?_⟩
  refine⟨rfl,fun a1 d1 ha1 hd1 n1=>?_⟩
  have S1:=Hl (C:=t.c_zbz) ha1 hd1
  have e1:upd (upd H d1 (.own a1)) a1 (.ins t.c_zbz d1 []) a1=some (.ins t.c_zbz d1 []):=Af
  generalize upd (upd H d1 (.own a1)) a1 (.ins t.c_zbz d1 [])=H1 at S1 e1 ⊢
  refine⟨rfl,fun a2 d2 ha2 hd2 n2=>?_⟩
  have S2:=Hl (C:=t.c_zch) ha2 hd2
  have e2:upd (upd H1 d2 (.own a2)) a2 (.ins t.c_zch d2 []) a2=some (.ins t.c_zch d2 []):=Af
  generalize upd (upd H1 d2 (.own a2)) a2 (.ins t.c_zch d2 [])=H2 at S2 e2 ⊢
  refine⟨rfl,fun a3 d3 ha3 hd3 n3=>?_⟩
  have S3:=Hl (C:=t.c_zcd) ha3 hd3
  have e3:upd (upd H2 d3 (.own a3)) a3 (.ins t.c_zcd d3 []) a3=some (.ins t.c_zcd d3 []):=Af
  generalize upd (upd H2 d3 (.own a3)) a3 (.ins t.c_zcd d3 [])=H3 at S3 e3 ⊢
  refine⟨(show 3<=sizeLine by decide),fun l hl=>.inl ⟨⟨_,SqL.of Af⟩,?_⟩⟩
  have S4:=Same.upd (o:=.lst [.ref a1,.ref a2,.ref a3]) hl
  have e4:upd H3 l (.lst [.ref a1,.ref a2,.ref a3]) l=some (.lst [.ref a1,.ref a2,.ref a3]):=Af
  generalize upd H3 l (.lst [.ref a1,.ref a2,.ref a3])=H4 at S4 e4 ⊢
  have f1:=S4 _ _ (S3 _ _ (S2 _ _ e1))
  have f2:=S4 _ _ (S3 _ _ e2)
  have f3:=S4 _ _ e3
  have S:=((S1.trans S2).trans S3).trans S4
  refine Fa (Nw [.ref a1,.ref a2,.ref a3]) (fun i σ H'=>H'=H4/\(∃ v,σ=[some (.str w),v])/\(1<=i->w ≠ "chapter")/\(2<=i->w ≠ "para")/\(3<=i->w ≠ "table")) ⟨rfl,⟨_,rfl⟩,(fun h=>by omega),(fun h=>by omega),(fun h=>by omega)⟩ (fun i σ H' _ q=>q.1▸SqL.of e4) ?_ ?_
  ·rintro i x σ H' hx ⟨rfl,⟨v,rfl⟩,g1,g2,g3⟩
   match i,hx with
   | 0,hx=>
    cases hx
    refine⟨a1,d1,[],⟨t.c_zbz,a42 K t⟩,rfl,.head _,f1,rfl,⟨ae 1,ae 1⟩,_,rfl,?_⟩
    refine A2 (c:=decide (("chapter" : Str)=w)=true) (fun e=>?_) (fun e=>⟨rfl,⟨_,rfl⟩,fun _ z=>e (decide_eq_true z.symm),(fun h=>by omega),(fun h=>by omega)⟩)
    have e:=of_decide_eq_true e
    subst e
    refine k (by decide +kernel) _ a1 d1 S ?_
    rw [f1]
    unfold kcl
    rw [if_pos rfl]
   | 1,hx=>
    cases hx
    refine⟨a2,d2,[],⟨t.c_zch,Zz K t⟩,rfl,.tail _ (.head _),f2,rfl,⟨ae 1,ae 1⟩,_,rfl,?_⟩
    refine A2 (c:=decide (("para" : Str)=w)=true) (fun e=>?_) (fun e=>⟨rfl,⟨_,rfl⟩,fun _=>g1 (by omega),fun _ z=>e (decide_eq_true z.symm),(fun h=>by omega)⟩)
    have e:=of_decide_eq_true e
    subst e
    refine k (by decide +kernel) _ a2 d2 S ?_
    rw [f2]
    unfold kcl
    rw [if_neg kw0,if_pos rfl]
   | 2,hx=>
    cases hx
    refine⟨a3,d3,[],⟨t.c_zcd,a47 K t⟩,rfl,.tail _ (.tail _ (.head _)),f3,rfl,⟨ae 1,ae 1⟩,_,rfl,?_⟩
    refine A2 (c:=decide (("table" : Str)=w)=true) (fun e=>?_) (fun e=>⟨rfl,⟨_,rfl⟩,fun _=>g1 (by omega),fun _=>g2 (by omega),fun _ z=>e (decide_eq_true z.symm)⟩)
    have e:=of_decide_eq_true e
    subst e
    refine k (by decide +kernel) _ a3 d3 S ?_
    rw [f3]
    unfold kcl
    rw [if_neg kw1,if_neg kw2]
   | n+3,hx=>cases hx
  ·rintro σ H' ⟨rfl,_,g1,g2,g3⟩
   have g1:w ≠ "chapter" := g1 (show 1<=3 by decide)
   have g2:w ≠ "para" := g2 (show 2<=3 by decide)
   have g3:w ≠ "table" := g3 (show 3<=3 by decide)
   refine .inl (kn ?_ _ S)
   unfold kdS
   rw [decide_eq_false g1,decide_eq_false g2,decide_eq_false g3]
   rfl
theorem Ths.up {H H':Hp} (S:Same H H'):∀ {os:List Th} {xs:List V},Ths K H os xs->Ths K H' os xs
 | [],xs,h=>h
 | o::os,xs,h=>by
  obtain⟨y,ys,e,h1,h2⟩:=h
  exact⟨y,ys,e,Ao S h1,Ths.up S h2⟩
theorem Ths.length {H:Hp}:∀ {os:List Th} {xs:List V},Ths K H os xs->xs.length=os.length
 | [],xs,h=>by rw [show xs=[] from h];rfl
 | o::os,xs,h=>by
  obtain⟨y,ys,rfl,h1,h2⟩:=h
  rw [ax,ax,h2.length]
theorem EdAt.get {H:Hp} {i:Nat} {as:List Th} {a:Addr} (h:EdAt K t H i as a):∃ dx xs,H a=some (.ins (cls t i) dx ((Ge i).zip xs))/\Ths K H as xs/\xs.length=ar i:=by
 obtain⟨dx,xs,e,g,l⟩:=h
 exact⟨dx,xs,e,g,by rw [g.length,l]⟩
theorem D5 {H:Hp} {i:Nat} {as:List Th} {xs:List V} {Q:VK} (g:Ths K H as xs) (k:∀ H' p,Same H H'->TpAt K H' (wdO i::as) p->Q (.ref p) H'):∀ p,H p=none->Q (.ref p) (upd H p (.tup (.str (wd i)::xs))):=fun p hp=>
 k _ p (Same.upd hp) ⟨_,SqT.of Af,_,_,rfl,B6 (K:=K) (H:=upd H p (.tup (.str (wd i)::xs))),g.up (Same.upd hp)⟩
theorem Cm {i:Nat} (h:i<9):cls t i∈Vz t:=by
 unfold cls
 rw [bK,a9 (show i<(Vz t).length from h)]
 exact bW _
theorem a78 {f:Addr} {fd:ai} (Z:Al K t) (F:FunD K "told" "Put.told" Ju f fd .none) (T:Tab P w K mg base 0 (A8 K t) bl):FnOk P w K mg base CX0 1 f fd Oh (ah5 K t):=by
 refine F.okW0 bn2 bs6 T (bi9 K t) (fun vs H Q E h=>?_) (fun vs H Q E h=>?_)
 ·obtain⟨a,as,rfl,_⟩:=h;rfl
 ·obtain⟨a,as,rfl,hE,k⟩:=h
  obtain⟨dx,xs,ea,g,lx⟩:=hE.get
  obtain⟨Z1,Z2⟩:=Z.ed (cls t 0) (Cm (by decide))
  match xs,lx with
  | [y0,y1,y2,y3,y4],_=>exact cS ⟨_,_,_,_,ea,Z1,(Z2 _ (by decide)),rfl,(cS ⟨_,_,_,_,ea,Z1,(Z2 _ (by decide)),rfl,(cS ⟨_,_,_,_,ea,Z1,(Z2 _ (by decide)),rfl,(cS ⟨_,_,_,_,ea,Z1,(Z2 _ (by decide)),rfl,(cS ⟨_,_,_,_,ea,Z1,(Z2 _ (by decide)),rfl,⟨(show 6<=sizeLine by decide),D5 (i:=0) g k⟩⟩)⟩)⟩)⟩)⟩
theorem b15 {f:Addr} {fd:ai} (Z:Al K t) (F:FunD K "told" "Write.told" Sk f fd .none) (T:Tab P w K mg base 0 (A8 K t) bl):FnOk P w K mg base CX0 1 f fd Y0 (ax4 K t):=by
 refine F.okW0 b93 ch5 T (b66 K t) (fun vs H Q E h=>?_) (fun vs H Q E h=>?_)
 ·obtain⟨a,as,rfl,_⟩:=h;rfl
 ·obtain⟨a,as,rfl,hE,k⟩:=h
  obtain⟨dx,xs,ea,g,lx⟩:=hE.get
  obtain⟨Z1,Z2⟩:=Z.ed (cls t 1) (Cm (by decide))
  match xs,lx with
  | [y0,y1],_=>exact cS ⟨_,_,_,_,ea,Z1,(Z2 _ (by decide)),rfl,(cS ⟨_,_,_,_,ea,Z1,(Z2 _ (by decide)),rfl,⟨(show 3<=sizeLine by decide),D5 (i:=1) g k⟩⟩)⟩
theorem b07 {f:Addr} {fd:ai} (Z:Al K t) (F:FunD K "told" "Splice.told" Sb f fd .none) (T:Tab P w K mg base 0 (A8 K t) bl):FnOk P w K mg base CX0 1 f fd Ys (ax0 K t):=by
 refine F.okW0 b85 cg6 T (b58 K t) (fun vs H Q E h=>?_) (fun vs H Q E h=>?_)
 ·obtain⟨a,as,rfl,_⟩:=h;rfl
 ·obtain⟨a,as,rfl,hE,k⟩:=h
  obtain⟨dx,xs,ea,g,lx⟩:=hE.get
  obtain⟨Z1,Z2⟩:=Z.ed (cls t 2) (Cm (by decide))
  match xs,lx with
  | [y0,y1,y2,y3],_=>exact cS ⟨_,_,_,_,ea,Z1,(Z2 _ (by decide)),rfl,(cS ⟨_,_,_,_,ea,Z1,(Z2 _ (by decide)),rfl,(cS ⟨_,_,_,_,ea,Z1,(Z2 _ (by decide)),rfl,(cS ⟨_,_,_,_,ea,Z1,(Z2 _ (by decide)),rfl,⟨(show 5<=sizeLine by decide),D5 (i:=2) g k⟩⟩)⟩)⟩)⟩
theorem a61 {f:Addr} {fd:ai} (Z:Al K t) (F:FunD K "told" "Cell.told" Jc f fd .none) (T:Tab P w K mg base 0 (A8 K t) bl):FnOk P w K mg base CX0 1 f fd Nz (ag3 K t):=by
 refine F.okW0 bl4 bq8 T (bh1 K t) (fun vs H Q E h=>?_) (fun vs H Q E h=>?_)
 ·obtain⟨a,as,rfl,_⟩:=h;rfl
 ·obtain⟨a,as,rfl,hE,k⟩:=h
  obtain⟨dx,xs,ea,g,lx⟩:=hE.get
  obtain⟨Z1,Z2⟩:=Z.ed (cls t 3) (Cm (by decide))
  match xs,lx with
  | [y0,y1,y2,y3],_=>exact cS ⟨_,_,_,_,ea,Z1,(Z2 _ (by decide)),rfl,(cS ⟨_,_,_,_,ea,Z1,(Z2 _ (by decide)),rfl,(cS ⟨_,_,_,_,ea,Z1,(Z2 _ (by decide)),rfl,(cS ⟨_,_,_,_,ea,Z1,(Z2 _ (by decide)),rfl,⟨(show 5<=sizeLine by decide),D5 (i:=3) g k⟩⟩)⟩)⟩)⟩
theorem b03 {f:Addr} {fd:ai} (Z:Al K t) (F:FunD K "told" "AddRow.told" R7 f fd .none) (T:Tab P w K mg base 0 (A8 K t) bl):FnOk P w K mg base CX0 1 f fd Yo (aw6 K t):=by
 refine F.okW0 b81 cg2 T (b54 K t) (fun vs H Q E h=>?_) (fun vs H Q E h=>?_)
 ·obtain⟨a,as,rfl,_⟩:=h;rfl
 ·obtain⟨a,as,rfl,hE,k⟩:=h
  obtain⟨dx,xs,ea,g,lx⟩:=hE.get
  obtain⟨Z1,Z2⟩:=Z.ed (cls t 4) (Cm (by decide))
  match xs,lx with
  | [y0,y1,y2],_=>exact cS ⟨_,_,_,_,ea,Z1,(Z2 _ (by decide)),rfl,(cS ⟨_,_,_,_,ea,Z1,(Z2 _ (by decide)),rfl,(cS ⟨_,_,_,_,ea,Z1,(Z2 _ (by decide)),rfl,⟨(show 4<=sizeLine by decide),D5 (i:=4) g k⟩⟩)⟩)⟩
theorem b05 {f:Addr} {fd:ai} (Z:Al K t) (F:FunD K "told" "CutRow.told" R9 f fd .none) (T:Tab P w K mg base 0 (A8 K t) bl):FnOk P w K mg base CX0 1 f fd Yq (aw8 K t):=by
 refine F.okW0 b83 cg4 T (b56 K t) (fun vs H Q E h=>?_) (fun vs H Q E h=>?_)
 ·obtain⟨a,as,rfl,_⟩:=h;rfl
 ·obtain⟨a,as,rfl,hE,k⟩:=h
  obtain⟨dx,xs,ea,g,lx⟩:=hE.get
  obtain⟨Z1,Z2⟩:=Z.ed (cls t 5) (Cm (by decide))
  match xs,lx with
  | [y0,y1],_=>exact cS ⟨_,_,_,_,ea,Z1,(Z2 _ (by decide)),rfl,(cS ⟨_,_,_,_,ea,Z1,(Z2 _ (by decide)),rfl,⟨(show 3<=sizeLine by decide),D5 (i:=5) g k⟩⟩)⟩
theorem a76 {f:Addr} {fd:ai} (Z:Al K t) (F:FunD K "told" "Cut.told" Js f fd .none) (T:Tab P w K mg base 0 (A8 K t) bl):FnOk P w K mg base CX0 1 f fd Of (ah3 K t):=by
 refine F.okW0 bn0 bs4 T (bi7 K t) (fun vs H Q E h=>?_) (fun vs H Q E h=>?_)
 ·obtain⟨a,as,rfl,_⟩:=h;rfl
 ·obtain⟨a,as,rfl,hE,k⟩:=h
  obtain⟨dx,xs,ea,g,lx⟩:=hE.get
  obtain⟨Z1,Z2⟩:=Z.ed (cls t 6) (Cm (by decide))
  match xs,lx with
  | [y0],_=>exact cS ⟨_,_,_,_,ea,Z1,(Z2 _ (by decide)),rfl,⟨(show 2<=sizeLine by decide),D5 (i:=6) g k⟩⟩
theorem a63 {f:Addr} {fd:ai} (Z:Al K t) (F:FunD K "told" "Move.told" Jf f fd .none) (T:Tab P w K mg base 0 (A8 K t) bl):FnOk P w K mg base CX0 1 f fd N2 (ag6 K t):=by
 refine F.okW0 bl7 br1 T (bh4 K t) (fun vs H Q E h=>?_) (fun vs H Q E h=>?_)
 ·obtain⟨a,as,rfl,_⟩:=h;rfl
 ·obtain⟨a,as,rfl,hE,k⟩:=h
  obtain⟨dx,xs,ea,g,lx⟩:=hE.get
  obtain⟨Z1,Z2⟩:=Z.ed (cls t 7) (Cm (by decide))
  match xs,lx with
  | [y0,y1,y2],_=>exact cS ⟨_,_,_,_,ea,Z1,(Z2 _ (by decide)),rfl,(cS ⟨_,_,_,_,ea,Z1,(Z2 _ (by decide)),rfl,(cS ⟨_,_,_,_,ea,Z1,(Z2 _ (by decide)),rfl,⟨(show 4<=sizeLine by decide),D5 (i:=7) g k⟩⟩)⟩)⟩
theorem a66 {f:Addr} {fd:ai} (Z:Al K t) (F:FunD K "told" "Wrap.told" Ji f fd .none) (T:Tab P w K mg base 0 (A8 K t) bl):FnOk P w K mg base CX0 1 f fd N5 (ag9 K t):=by
 refine F.okW0 bm0 br4 T (bh7 K t) (fun vs H Q E h=>?_) (fun vs H Q E h=>?_)
 ·obtain⟨a,as,rfl,_⟩:=h;rfl
 ·obtain⟨a,as,rfl,hE,k⟩:=h
  obtain⟨dx,xs,ea,g,lx⟩:=hE.get
  obtain⟨Z1,Z2⟩:=Z.ed (cls t 8) (Cm (by decide))
  match xs,lx with
  | [y0,y1,y2],_=>exact cS ⟨_,_,_,_,ea,Z1,(Z2 _ (by decide)),rfl,(cS ⟨_,_,_,_,ea,Z1,(Z2 _ (by decide)),rfl,(cS ⟨_,_,_,_,ea,Z1,(Z2 _ (by decide)),rfl,⟨(show 4<=sizeLine by decide),D5 (i:=8) g k⟩⟩)⟩)⟩
end
section
variable {K:aa} {t:Adr} {H H':Hp}
theorem But.of (S:Same H H') {d:Addr}:But d H H':=fun b o _ e=>S b o e
theorem But.trans {H2:Hp} {d:Addr} (h:But d H H') (g:But d H' H2):But d H H2:=fun b o n e=>g b o n (h b o n e)
theorem But.upd {d:Addr} {o:HO}:But d H (upd H d o):=fun b o n e=>by rw [Ap n];exact e
noncomputable def W5 (K:aa) (H H':Hp):Prop:=(∀ a xs,SqL K H a xs->SqL K H' a xs) /\ ∀ a xs,SqT K H a xs->SqT K H' a xs
mutual
theorem as1 (L:W5 K H H'):∀ {d:Dt} {x:V},At K H d x->At K H' d x
 | .at_ v,x,h=>by unfold At at h ⊢;exact h
 | .lst ds,x,h=>by
  unfold At at h ⊢
  obtain⟨a,xs,e,q,g⟩:=h
  exact⟨a,xs,e,L.1 _ _ q,Qq L g⟩
 | .tup ds,x,h=>by
  unfold At at h ⊢
  obtain⟨a,xs,e,q,g⟩:=h
  exact⟨a,xs,e,L.2 _ _ q,Qq L g⟩
theorem Qq (L:W5 K H H'):∀ {ds:List Dt} {xs:List V},AtL K H ds xs->AtL K H' ds xs
 | [],xs,h=>by unfold AtL at h ⊢;exact h
 | d::ds,xs,h=>by
  unfold AtL at h ⊢
  obtain⟨y,ys,e,h1,h2⟩:=h
  exact⟨y,ys,e,as1 L h1,Qq L h2⟩
end
theorem But.lk {a C dx:Addr} {fs:List (Str×V)} (h:But a H H') (e:H a=some (.ins C dx fs)):W5 K H H':=by
 refine⟨fun b xs q=>?_,fun b xs q=>?_⟩
 ·rcases q with (q|⟨o,q⟩)|q
  ·exact .inl (.inl (h _ _ (fun z=>by rw [z,e] at q;cases q) q))
  ·exact .inl (.inr ⟨o,h _ _ (fun z=>by rw [z,e] at q;cases q) q⟩)
  ·exact .inr q
 ·rcases q with (q|⟨o,q⟩)|q
  ·exact .inl (.inl (h _ _ (fun z=>by rw [z,e] at q;cases q) q))
  ·exact .inl (.inr ⟨o,h _ _ (fun z=>by rw [z,e] at q;cases q) q⟩)
  ·exact .inr q
theorem But.at {a C dx:Addr} {fs:List (Str×V)} (h:But a H H') (e:H a=some (.ins C dx fs)) {o:Th} {x:V} (g:AtO K H o x):AtO K H' o x:=by
 cases o with
 | none=>obtain⟨b,e1,q⟩:=g;exact⟨b,e1,h _ _ (fun z=>by rw [z,e] at q;cases q) q⟩
 | some d=>exact as1 (h.lk e) g
theorem Ho {a:Addr} {o o':HO}:upd (upd H a o) a o'=upd H a o':=by
 funext b
 by_cases h:b=a
 ·subst h;rw [Af,Af]
 ·rw [Ap h,Ap h,Ap h]
theorem G0 {H2:Hp} {a:Addr} {O X:HO} {Q:VK} (k:∀ H',Same H H'->Q .non (upd H' a X)) (b:But a H H2) (e:H a=some O):Q .non (upd H2 a X):=by
 have:=k (upd H2 a O) fun b' o h=>by
  by_cases hb:b'=a
  ·subst hb;rw [Af,<- e,h]
  ·rw [Ap hb];exact b _ _ hb h
 rwa [Ho] at this
end
section
variable {P:aI} {w:bq} {K:aa} {mg:Str->Option Value} {base:Heap} {t:Adr}
theorem th1 {H:Hp} {as:List Th} {xs:List V} (g:Ths K H as xs) (l:as.length=1):∃ o y,as=[o]/\xs=[y]/\AtO K H o y:=by
 match as,l with
 | [o],_=>
  obtain⟨y,ys,rfl,h,z⟩:=g
  cases z
  exact⟨o,y,rfl,rfl,h⟩
theorem av3 {f:Addr} {fd:ai} (Z:Al K t) (F:FunD K "__init__" "PartEdit.__init__" Ru f fd .none) (T:Tab P w K mg base 3 (Hb K t) bl):FnOk P w K mg base (CXE P w) 4 f fd Yf (Lx K t):=by
 refine F.okWX b72 cf3 T (b45 K t) (fun vs H Q E h=>?_) (fun vs H Q E h=>?_)
 ·obtain⟨a,C,dx,xs,as,rfl,_,_,g,_,l,_⟩:=h;obtain⟨o,y,rfl,rfl,_⟩:=th1 g l;rfl
 ·obtain⟨a,C,dx,xs,as,rfl,e,hC,g,st,l,k1,k0⟩:=h
  obtain⟨o,y,rfl,rfl,hy⟩:=th1 g l
  refine⟨y,o,rfl,hy,st.2 o (by simp),fun H1 S1=>⟨nmO o,rfl,fun e1=>?_,fun e0 H2 b S2 hb=>⟨b,rfl,k0 e0 H2 b (But.of (S1.trans S2)) hb⟩⟩⟩
  exact .inl ⟨C,dx,[],S1 _ _ e,(Z.ed C hC).1,(Z.ed C hC).2 _ (by decide),by decide,k1 e1 H1 S1⟩
theorem bz5 {f:Addr} {fd:ai} (Z:Al K t) (F:FunD K "__init__" "TextEdit.__init__" Rv f fd .none) (T:Tab P w K mg base 5 (Hc K t) bl):FnOk P w K mg base (CXE P w) 6 f fd Yg (U9 K t):=by
 refine F.okWX b73 cf4 T (b46 K t) (fun vs H Q E h=>?_) (fun vs H Q E h=>?_)
 ·obtain⟨a,C,dx,xs,as,rfl,_,_,g,_,l,_⟩:=h;obtain⟨o,y,rfl,rfl,_⟩:=th1 g l;rfl
 ·obtain⟨a,C,dx,xs,as,rfl,e,hC,g,st,l,k1,k0⟩:=h
  obtain⟨o,y,rfl,rfl,hy⟩:=th1 g l
  exact⟨a,C,dx,[y],[o],rfl,e,hC,g,st,l,k1,fun h H' b B hb=>⟨b,rfl,k0 h H' b B hb⟩⟩
theorem bz4 {f:Addr} {fd:ai} (Z:Al K t) (F:FunD K "__init__" "TableEdit.__init__" Rt f fd .none) (T:Tab P w K mg base 5 (Hc K t) bl):FnOk P w K mg base (CXE P w) 6 f fd Ye (Qi K t):=by
 refine F.okWX b71 cf2 T (b44 K t) (fun vs H Q E h=>?_) (fun vs H Q E h=>?_)
 ·obtain⟨a,C,dx,xs,as,rfl,_,_,g,_,l,_⟩:=h;obtain⟨o,y,rfl,rfl,_⟩:=th1 g l;rfl
 ·obtain⟨a,C,dx,xs,as,rfl,e,hC,g,st,l,k1,k0⟩:=h
  obtain⟨o,y,rfl,rfl,hy⟩:=th1 g l
  exact⟨a,C,dx,[y],[o],rfl,e,hC,g,st,l,k1,fun h H' b B hb=>⟨b,rfl,k0 h H' b B hb⟩⟩
theorem th2 {H:Hp} {as:List Th} {xs:List V} (g:Ths K H as xs) (l:as.length=2):∃ o0 o1 y0 y1,as=[o0,o1]/\xs=[y0,y1]/\AtO K H o0 y0/\AtO K H o1 y1:=by
 match as,l with
 | [o0,o1],_=>
  obtain⟨y0,ys0,rfl,h0,y1,ys1,rfl,h1,z⟩:=g
  cases z
  exact⟨o0,o1,y0,y1,rfl,rfl,h0,h1⟩
theorem th3 {H:Hp} {as:List Th} {xs:List V} (g:Ths K H as xs) (l:as.length=3):∃ o0 o1 o2 y0 y1 y2,as=[o0,o1,o2]/\xs=[y0,y1,y2]/\AtO K H o0 y0/\AtO K H o1 y1/\AtO K H o2 y2:=by
 match as,l with
 | [o0,o1,o2],_=>
  obtain⟨y0,ys0,rfl,h0,y1,ys1,rfl,h1,y2,ys2,rfl,h2,z⟩:=g
  cases z
  exact⟨o0,o1,o2,y0,y1,y2,rfl,rfl,h0,h1,h2⟩
theorem th4 {H:Hp} {as:List Th} {xs:List V} (g:Ths K H as xs) (l:as.length=4):∃ o0 o1 o2 o3 y0 y1 y2 y3,as=[o0,o1,o2,o3]/\xs=[y0,y1,y2,y3]/\AtO K H o0 y0/\AtO K H o1 y1/\AtO K H o2 y2/\AtO K H o3 y3:=by
 match as,l with
 | [o0,o1,o2,o3],_=>
  obtain⟨y0,ys0,rfl,h0,y1,ys1,rfl,h1,y2,ys2,rfl,h2,y3,ys3,rfl,h3,z⟩:=g
  cases z
  exact⟨o0,o1,o2,o3,y0,y1,y2,y3,rfl,rfl,h0,h1,h2,h3⟩
theorem th5 {H:Hp} {as:List Th} {xs:List V} (g:Ths K H as xs) (l:as.length=5):∃ o0 o1 o2 o3 o4 y0 y1 y2 y3 y4,as=[o0,o1,o2,o3,o4]/\xs=[y0,y1,y2,y3,y4]/\AtO K H o0 y0/\AtO K H o1 y1/\AtO K H o2 y2/\AtO K H o3 y3/\AtO K H o4 y4:=by
 match as,l with
 | [o0,o1,o2,o3,o4],_=>
  obtain⟨y0,ys0,rfl,h0,y1,ys1,rfl,h1,y2,ys2,rfl,h2,y3,ys3,rfl,h3,y4,ys4,rfl,h4,z⟩:=g
  cases z
  exact⟨o0,o1,o2,o3,o4,y0,y1,y2,y3,y4,rfl,rfl,h0,h1,h2,h3,h4⟩
theorem b14 {f:Addr} {fd:ai} (Z:Al K t) (F:FunD K "__init__" "Write.__init__" Sj f fd .none) (T:Tab P w K mg base 7 (Cp K t) bl):FnOk P w K mg base (CXE P w) 8 f fd Yz (ax3 K t):=by
 refine F.okWX b92 ch4 T (b65 K t) (fun vs H Q E h=>?_) (fun vs H Q E h=>?_)
 ·obtain⟨a,C,dx,xs,as,rfl,_,_,g,_,l,_⟩:=h;obtain⟨o0,o1,y0,y1,rfl,rfl,_⟩:=th2 g l;rfl
 ·obtain⟨a,C,dx,xs,as,rfl,e,hC,g,st,l,k1,k0⟩:=h
  obtain⟨o0,o1,y0,y1,rfl,rfl,h0,h1⟩:=th2 g l
  obtain⟨Z1,Z2⟩:=Z.ed C hC
  refine⟨a,C,dx,[y0],[o0],rfl,e,hC,⟨y0,[],rfl,h0,rfl⟩,⟨(show 1<=10 by decide),fun o ho=>st.2 o (by simp at ho;simp [ho])⟩,rfl,fun e0 H1 S1=>?_,fun e0 H' b B hb=>⟨b,rfl,k0 (show (nmO o0&&_)=false by rw [show nmO o0=false from e0];rfl) H' b B hb⟩⟩
  have e0:nmO o0=true:=e0
  have B1:But a H (upd H1 a (.ins C dx ((["part"]:List Str).zip [y0]))):=(But.of S1).trans But.upd
  have ea:upd H1 a (.ins C dx ((["part"]:List Str).zip [y0])) a=some (.ins C dx [("part", y0)]):=Af
  generalize upd H1 a (.ins C dx ((["part"]:List Str).zip [y0]))=Ha at B1 ea ⊢
  refine⟨y1,o1,rfl,B1.at e h1,st.2 o1 (by simp),fun H2 S2=>⟨txO o1,rfl,fun e1=>?_,fun f1 H' b R1 hb=>⟨b,rfl,k0 (show (nmO o0&&txO o1)=false by rw [e0,show txO o1=false from f1];simp) _ b (B1.trans (But.of (S2.trans R1))) hb⟩⟩⟩
  exact .inl ⟨C,dx,_,S2 _ _ ea,Z1,Z2 _ (by decide),(show 1<1000 by decide),G0 (k1 (show (nmO o0&&txO o1)=true by rw [e0,e1];rfl)) (B1.trans (But.of S2)) e⟩
theorem b06 {f:Addr} {fd:ai} (Z:Al K t) (F:FunD K "__init__" "Splice.__init__" Sa f fd .none) (T:Tab P w K mg base 7 (Cp K t) bl):FnOk P w K mg base (CXE P w) 8 f fd Yr (aw9 K t):=by
 refine F.okWX b84 cg5 T (b57 K t) (fun vs H Q E h=>?_) (fun vs H Q E h=>?_)
 ·obtain⟨a,C,dx,xs,as,rfl,_,_,g,_,l,_⟩:=h;obtain⟨o0,o1,o2,o3,y0,y1,y2,y3,rfl,rfl,_⟩:=th4 g l;rfl
 ·obtain⟨a,C,dx,xs,as,rfl,e,hC,g,st,l,k1,k0⟩:=h
  obtain⟨o0,o1,o2,o3,y0,y1,y2,y3,rfl,rfl,h0,h1,h2,h3⟩:=th4 g l
  obtain⟨Z1,Z2⟩:=Z.ed C hC
  refine⟨a,C,dx,[y0],[o0],rfl,e,hC,⟨y0,[],rfl,h0,rfl⟩,⟨(show 1<=10 by decide),fun o ho=>st.2 o (by simp at ho;simp [ho])⟩,rfl,fun e0 H1 S1=>?_,fun e0 H' b B hb=>⟨b,rfl,k0 (show (nmO o0&&_)=false by rw [show nmO o0=false from e0];rfl) H' b B hb⟩⟩
  have e0:nmO o0=true:=e0
  have B1:But a H (upd H1 a (.ins C dx ((["part"]:List Str).zip [y0]))):=(But.of S1).trans But.upd
  have ea:upd H1 a (.ins C dx ((["part"]:List Str).zip [y0])) a=some (.ins C dx [("part", y0)]):=Af
  generalize upd H1 a (.ins C dx ((["part"]:List Str).zip [y0]))=Ha at B1 ea ⊢
  refine⟨y1,o1,rfl,B1.at e h1,st.2 o1 (by simp),fun H2 S2=>A2 (c:=rkO o1=true) (fun e1=>?_) (fun n1=>⟨rkO o1,rfl,(fun z=>absurd z n1),fun f1 _ b R1 hb=>⟨b,rfl,k0 (show (nmO o0&&(rkO o1&&(rkO o2&&txO o3)))=false by rw [e0,show rkO o1=false from f1];simp) _ b (B1.trans (But.of ((S2).trans R1))) hb⟩⟩)⟩
  have U1:Same Ha H2:=S2
  refine⟨y2,o2,rfl,Ao U1 (B1.at e h2),st.2 o2 (by simp),fun H3 S3=>A2 (c:=rkO o2=true) (fun e2=>?_) (fun n2=>⟨rkO o2,rfl,(fun z=>absurd z n2),fun f2 _ b R2 hb=>⟨b,rfl,k0 (show (nmO o0&&(rkO o1&&(rkO o2&&txO o3)))=false by rw [e0,e1,show rkO o2=false from f2];simp) _ b (B1.trans (But.of ((U1.trans S3).trans R2))) hb⟩⟩)⟩
  have U2:Same Ha H3:=U1.trans S3
  refine⟨y3,o3,rfl,Ao U2 (B1.at e h3),st.2 o3 (by simp),fun H4 S4=>⟨txO o3,rfl,fun e3=>?_,fun f3 H' b R3 hb=>⟨b,rfl,k0 (show (nmO o0&&(rkO o1&&(rkO o2&&txO o3)))=false by rw [e0,e1,e2,show txO o3=false from f3];simp) _ b (B1.trans (But.of ((U2.trans S4).trans R3))) hb⟩⟩⟩
  exact .inl ⟨C,dx,_,(U2.trans S4) _ _ ea,Z1,Z2 _ (by decide),(show 1<1000 by decide),.inl ⟨C,dx,_,Af,Z1,Z2 _ (by decide),(show 2<1000 by decide),.inl ⟨C,dx,_,Af,Z1,Z2 _ (by decide),(show 3<1000 by decide),G0 (k1 (show (nmO o0&&(rkO o1&&(rkO o2&&txO o3)))=true by rw [e0,e1,e2,e3];rfl)) (((B1.trans (But.of (U2.trans S4))).trans But.upd).trans But.upd) e⟩⟩⟩
theorem a60 {f:Addr} {fd:ai} (Z:Al K t) (F:FunD K "__init__" "Cell.__init__" Jb f fd .none) (T:Tab P w K mg base 7 (Cp K t) bl):FnOk P w K mg base (CXE P w) 8 f fd Ny (ag2 K t):=by
 refine F.okWX bl3 bq7 T (bh0 K t) (fun vs H Q E h=>?_) (fun vs H Q E h=>?_)
 ·obtain⟨a,C,dx,xs,as,rfl,_,_,g,_,l,_⟩:=h;obtain⟨o0,o1,o2,o3,y0,y1,y2,y3,rfl,rfl,_⟩:=th4 g l;rfl
 ·obtain⟨a,C,dx,xs,as,rfl,e,hC,g,st,l,k1,k0⟩:=h
  obtain⟨o0,o1,o2,o3,y0,y1,y2,y3,rfl,rfl,h0,h1,h2,h3⟩:=th4 g l
  obtain⟨Z1,Z2⟩:=Z.ed C hC
  refine⟨a,C,dx,[y0],[o0],rfl,e,hC,⟨y0,[],rfl,h0,rfl⟩,⟨(show 1<=10 by decide),fun o ho=>st.2 o (by simp at ho;simp [ho])⟩,rfl,fun e0 H1 S1=>?_,fun e0 H' b B hb=>⟨b,rfl,k0 (show (nmO o0&&_)=false by rw [show nmO o0=false from e0];rfl) H' b B hb⟩⟩
  have e0:nmO o0=true:=e0
  have B1:But a H (upd H1 a (.ins C dx ((["part"]:List Str).zip [y0]))):=(But.of S1).trans But.upd
  have ea:upd H1 a (.ins C dx ((["part"]:List Str).zip [y0])) a=some (.ins C dx [("part", y0)]):=Af
  generalize upd H1 a (.ins C dx ((["part"]:List Str).zip [y0]))=Ha at B1 ea ⊢
  refine⟨y1,o1,rfl,B1.at e h1,st.2 o1 (by simp),fun H2 S2=>A2 (c:=rkO o1=true) (fun e1=>?_) (fun n1=>⟨rkO o1,rfl,(fun z=>absurd z n1),fun f1 _ b R1 hb=>⟨b,rfl,k0 (show (nmO o0&&(rkO o1&&(rkO o2&&txO o3)))=false by rw [e0,show rkO o1=false from f1];simp) _ b (B1.trans (But.of ((S2).trans R1))) hb⟩⟩)⟩
  have U1:Same Ha H2:=S2
  refine⟨y2,o2,rfl,Ao U1 (B1.at e h2),st.2 o2 (by simp),fun H3 S3=>A2 (c:=rkO o2=true) (fun e2=>?_) (fun n2=>⟨rkO o2,rfl,(fun z=>absurd z n2),fun f2 _ b R2 hb=>⟨b,rfl,k0 (show (nmO o0&&(rkO o1&&(rkO o2&&txO o3)))=false by rw [e0,e1,show rkO o2=false from f2];simp) _ b (B1.trans (But.of ((U1.trans S3).trans R2))) hb⟩⟩)⟩
  have U2:Same Ha H3:=U1.trans S3
  refine⟨y3,o3,rfl,Ao U2 (B1.at e h3),st.2 o3 (by simp),fun H4 S4=>⟨txO o3,rfl,fun e3=>?_,fun f3 H' b R3 hb=>⟨b,rfl,k0 (show (nmO o0&&(rkO o1&&(rkO o2&&txO o3)))=false by rw [e0,e1,e2,show txO o3=false from f3];simp) _ b (B1.trans (But.of ((U2.trans S4).trans R3))) hb⟩⟩⟩
  exact .inl ⟨C,dx,_,(U2.trans S4) _ _ ea,Z1,Z2 _ (by decide),(show 1<1000 by decide),.inl ⟨C,dx,_,Af,Z1,Z2 _ (by decide),(show 2<1000 by decide),.inl ⟨C,dx,_,Af,Z1,Z2 _ (by decide),(show 3<1000 by decide),G0 (k1 (show (nmO o0&&(rkO o1&&(rkO o2&&txO o3)))=true by rw [e0,e1,e2,e3];rfl)) (((B1.trans (But.of (U2.trans S4))).trans But.upd).trans But.upd) e⟩⟩⟩
theorem b02 {f:Addr} {fd:ai} (Z:Al K t) (F:FunD K "__init__" "AddRow.__init__" R6 f fd .none) (T:Tab P w K mg base 7 (Cp K t) bl):FnOk P w K mg base (CXE P w) 8 f fd Yn (aw5 K t):=by
 refine F.okWX b80 cg1 T (b53 K t) (fun vs H Q E h=>?_) (fun vs H Q E h=>?_)
 ·obtain⟨a,C,dx,xs,as,rfl,_,_,g,_,l,_⟩:=h;obtain⟨o0,o1,o2,y0,y1,y2,rfl,rfl,_⟩:=th3 g l;rfl
 ·obtain⟨a,C,dx,xs,as,rfl,e,hC,g,st,l,k1,k0⟩:=h
  obtain⟨o0,o1,o2,y0,y1,y2,rfl,rfl,h0,h1,h2⟩:=th3 g l
  obtain⟨Z1,Z2⟩:=Z.ed C hC
  refine⟨a,C,dx,[y0],[o0],rfl,e,hC,⟨y0,[],rfl,h0,rfl⟩,⟨(show 1<=10 by decide),fun o ho=>st.2 o (by simp at ho;simp [ho])⟩,rfl,fun e0 H1 S1=>?_,fun e0 H' b B hb=>⟨b,rfl,k0 (show (nmO o0&&_)=false by rw [show nmO o0=false from e0];rfl) H' b B hb⟩⟩
  have e0:nmO o0=true:=e0
  have B1:But a H (upd H1 a (.ins C dx ((["part"]:List Str).zip [y0]))):=(But.of S1).trans But.upd
  have ea:upd H1 a (.ins C dx ((["part"]:List Str).zip [y0])) a=some (.ins C dx [("part", y0)]):=Af
  generalize upd H1 a (.ins C dx ((["part"]:List Str).zip [y0]))=Ha at B1 ea ⊢
  refine⟨y1,o1,rfl,B1.at e h1,st.2 o1 (by simp),fun H2 S2=>A2 (c:=rkO o1=true) (fun e1=>?_) (fun n1=>⟨rkO o1,rfl,(fun z=>absurd z n1),fun f1 _ b R1 hb=>⟨b,rfl,k0 (show (nmO o0&&(rkO o1&&rwO o2))=false by rw [e0,show rkO o1=false from f1];simp) _ b (B1.trans (But.of ((S2).trans R1))) hb⟩⟩)⟩
  have U1:Same Ha H2:=S2
  refine⟨y2,o2,rfl,Ao U1 (B1.at e h2),st.2 o2 (by simp),fun H3 S3=>⟨rwO o2,rfl,fun e2=>?_,fun f2 H' b R2 hb=>⟨b,rfl,k0 (show (nmO o0&&(rkO o1&&rwO o2))=false by rw [e0,e1,show rwO o2=false from f2];simp) _ b (B1.trans (But.of ((U1.trans S3).trans R2))) hb⟩⟩⟩
  exact .inl ⟨C,dx,_,(U1.trans S3) _ _ ea,Z1,Z2 _ (by decide),(show 1<1000 by decide),.inl ⟨C,dx,_,Af,Z1,Z2 _ (by decide),(show 2<1000 by decide),G0 (k1 (show (nmO o0&&(rkO o1&&rwO o2))=true by rw [e0,e1,e2];rfl)) ((B1.trans (But.of (U1.trans S3))).trans But.upd) e⟩⟩
theorem b04 {f:Addr} {fd:ai} (Z:Al K t) (F:FunD K "__init__" "CutRow.__init__" R8 f fd .none) (T:Tab P w K mg base 7 (Cp K t) bl):FnOk P w K mg base (CXE P w) 8 f fd Yp (aw7 K t):=by
 refine F.okWX b82 cg3 T (b55 K t) (fun vs H Q E h=>?_) (fun vs H Q E h=>?_)
 ·obtain⟨a,C,dx,xs,as,rfl,_,_,g,_,l,_⟩:=h;obtain⟨o0,o1,y0,y1,rfl,rfl,_⟩:=th2 g l;rfl
 ·obtain⟨a,C,dx,xs,as,rfl,e,hC,g,st,l,k1,k0⟩:=h
  obtain⟨o0,o1,y0,y1,rfl,rfl,h0,h1⟩:=th2 g l
  obtain⟨Z1,Z2⟩:=Z.ed C hC
  refine⟨a,C,dx,[y0],[o0],rfl,e,hC,⟨y0,[],rfl,h0,rfl⟩,⟨(show 1<=10 by decide),fun o ho=>st.2 o (by simp at ho;simp [ho])⟩,rfl,fun e0 H1 S1=>?_,fun e0 H' b B hb=>⟨b,rfl,k0 (show (nmO o0&&_)=false by rw [show nmO o0=false from e0];rfl) H' b B hb⟩⟩
  have e0:nmO o0=true:=e0
  have B1:But a H (upd H1 a (.ins C dx ((["part"]:List Str).zip [y0]))):=(But.of S1).trans But.upd
  have ea:upd H1 a (.ins C dx ((["part"]:List Str).zip [y0])) a=some (.ins C dx [("part", y0)]):=Af
  generalize upd H1 a (.ins C dx ((["part"]:List Str).zip [y0]))=Ha at B1 ea ⊢
  refine⟨y1,o1,rfl,B1.at e h1,st.2 o1 (by simp),fun H2 S2=>⟨rkO o1,rfl,fun e1=>?_,fun f1 H' b R1 hb=>⟨b,rfl,k0 (show (nmO o0&&rkO o1)=false by rw [e0,show rkO o1=false from f1];simp) _ b (B1.trans (But.of (S2.trans R1))) hb⟩⟩⟩
  exact .inl ⟨C,dx,_,S2 _ _ ea,Z1,Z2 _ (by decide),(show 1<1000 by decide),G0 (k1 (show (nmO o0&&rkO o1)=true by rw [e0,e1];rfl)) (B1.trans (But.of S2)) e⟩
theorem a62 {f:Addr} {fd:ai} (Z:Al K t) (F:FunD K "__init__" "Move.__init__" Je f fd .none) (T:Tab P w K mg base 5 (Hc K t) bl):FnOk P w K mg base (CXE P w) 6 f fd N1 (ag5 K t):=by
 refine F.okWX bl6 br0 T (bh3 K t) (fun vs H Q E h=>?_) (fun vs H Q E h=>?_)
 ·obtain⟨a,C,dx,xs,as,rfl,_,_,g,_,l,_⟩:=h;obtain⟨o0,o1,o2,y0,y1,y2,rfl,rfl,_⟩:=th3 g l;rfl
 ·obtain⟨a,C,dx,xs,as,rfl,e,hC,g,st,l,k1,k0⟩:=h
  obtain⟨o0,o1,o2,y0,y1,y2,rfl,rfl,h0,h1,h2⟩:=th3 g l
  obtain⟨Z1,Z2⟩:=Z.ed C hC
  refine⟨a,C,dx,[y0],[o0],rfl,e,hC,⟨y0,[],rfl,h0,rfl⟩,⟨(show 1<=10 by decide),fun o ho=>st.2 o (by simp at ho;simp [ho])⟩,rfl,fun e0 H1 S1=>?_,fun e0 H' b B hb=>⟨b,rfl,k0 (show (nmO o0&&_)=false by rw [show nmO o0=false from e0];rfl) H' b B hb⟩⟩
  have e0:nmO o0=true:=e0
  have B1:But a H (upd H1 a (.ins C dx ((["part"]:List Str).zip [y0]))):=(But.of S1).trans But.upd
  have ea:upd H1 a (.ins C dx ((["part"]:List Str).zip [y0])) a=some (.ins C dx [("part", y0)]):=Af
  generalize upd H1 a (.ins C dx ((["part"]:List Str).zip [y0]))=Ha at B1 ea ⊢
  refine⟨y1,o1,rfl,B1.at e h1,st.2 o1 (by simp),fun H2 S2=>A2 (c:=prO o1=true) (fun e1=>?_) (fun n1=>⟨prO o1,rfl,(fun z=>absurd z n1),fun f1 _ b R1 hb=>⟨b,rfl,k0 (show (nmO o0&&(prO o1&&rkO o2))=false by rw [e0,show prO o1=false from f1];simp) _ b (B1.trans (But.of ((S2).trans R1))) hb⟩⟩)⟩
  have U1:Same Ha H2:=S2
  refine⟨y2,o2,rfl,Ao U1 (B1.at e h2),st.2 o2 (by simp),fun H3 S3=>⟨rkO o2,rfl,fun e2=>?_,fun f2 H' b R2 hb=>⟨b,rfl,k0 (show (nmO o0&&(prO o1&&rkO o2))=false by rw [e0,e1,show rkO o2=false from f2];simp) _ b (B1.trans (But.of ((U1.trans S3).trans R2))) hb⟩⟩⟩
  exact .inl ⟨C,dx,_,(U1.trans S3) _ _ ea,Z1,Z2 _ (by decide),(show 1<1000 by decide),.inl ⟨C,dx,_,Af,Z1,Z2 _ (by decide),(show 2<1000 by decide),G0 (k1 (show (nmO o0&&(prO o1&&rkO o2))=true by rw [e0,e1,e2];rfl)) ((B1.trans (But.of (U1.trans S3))).trans But.upd) e⟩⟩
theorem a65 {f:Addr} {fd:ai} (Z:Al K t) (F:FunD K "__init__" "Wrap.__init__" Jh f fd .none) (T:Tab P w K mg base 5 (Hc K t) bl):FnOk P w K mg base (CXE P w) 6 f fd N4 (ag8 K t):=by
 refine F.okWX bl9 br3 T (bh6 K t) (fun vs H Q E h=>?_) (fun vs H Q E h=>?_)
 ·obtain⟨a,C,dx,xs,as,rfl,_,_,g,_,l,_⟩:=h;obtain⟨o0,o1,o2,y0,y1,y2,rfl,rfl,_⟩:=th3 g l;rfl
 ·obtain⟨a,C,dx,xs,as,rfl,e,hC,g,st,l,k1,k0⟩:=h
  obtain⟨o0,o1,o2,y0,y1,y2,rfl,rfl,h0,h1,h2⟩:=th3 g l
  obtain⟨Z1,Z2⟩:=Z.ed C hC
  refine⟨a,C,dx,[y0],[o0],rfl,e,hC,⟨y0,[],rfl,h0,rfl⟩,⟨(show 1<=10 by decide),fun o ho=>st.2 o (by simp at ho;simp [ho])⟩,rfl,fun e0 H1 S1=>?_,fun e0 H' b B hb=>⟨b,rfl,k0 (show (nmO o0&&_)=false by rw [show nmO o0=false from e0];rfl) H' b B hb⟩⟩
  have e0:nmO o0=true:=e0
  have B1:But a H (upd H1 a (.ins C dx ((["part"]:List Str).zip [y0]))):=(But.of S1).trans But.upd
  have ea:upd H1 a (.ins C dx ((["part"]:List Str).zip [y0])) a=some (.ins C dx [("part", y0)]):=Af
  generalize upd H1 a (.ins C dx ((["part"]:List Str).zip [y0]))=Ha at B1 ea ⊢
  refine⟨y1,o1,rfl,B1.at e h1,st.2 o1 (by simp),fun H2 S2=>A2 (c:=nmO o1=true) (fun e1=>?_) (fun n1=>⟨nmO o1,rfl,(fun z=>absurd z n1),fun f1 _ b R1 hb=>⟨b,rfl,k0 (show (nmO o0&&(nmO o1&&txO o2))=false by rw [e0,show nmO o1=false from f1];simp) _ b (B1.trans (But.of ((S2).trans R1))) hb⟩⟩)⟩
  have U1:Same Ha H2:=S2
  refine⟨y2,o2,rfl,Ao U1 (B1.at e h2),st.2 o2 (by simp),fun H3 S3=>⟨txO o2,rfl,fun e2=>?_,fun f2 H' b R2 hb=>⟨b,rfl,k0 (show (nmO o0&&(nmO o1&&txO o2))=false by rw [e0,e1,show txO o2=false from f2];simp) _ b (B1.trans (But.of ((U1.trans S3).trans R2))) hb⟩⟩⟩
  exact .inl ⟨C,dx,_,(U1.trans S3) _ _ ea,Z1,Z2 _ (by decide),(show 1<1000 by decide),.inl ⟨C,dx,_,Af,Z1,Z2 _ (by decide),(show 2<1000 by decide),G0 (k1 (show (nmO o0&&(nmO o1&&txO o2))=true by rw [e0,e1,e2];rfl)) ((B1.trans (But.of (U1.trans S3))).trans But.upd) e⟩⟩
end
end K28
set_option maxHeartbeats 4000000
namespace K28
open PySem L2
section
variable {P:aI} {w:bq} {K:aa} {mg:Str->Option Value} {base:Heap} {t:Adr}
theorem by8 {z:Str} (h:kdS z=true):z = "chapter" \/ z = "para" \/ z = "table" := by
 unfold kdS at h
 simpa using h
theorem Zh {H:Hp} {ka dx:Addr} {z:Str} {x:V} {o:Th} {Q:VK} {E:EK} (hz:kdS z=true) (hk:H ka=some (.ins (kcl t z) dx [])) (ha:AtO K H o x) (st:stO o) (k:∀ H',Same H H'->Q (.bl (if z = "table" then V5 o else txO o)) H') :
  ∃ a dx fs mi,V.ref ka=.ref a/\mi∈Fu K t/\H a=some (.ins mi.C dx fs)/\fs.lookup (cb "fits")=none/\(1+1<=mi.i.ps.length/\mi.i.ps.length<=1+1+mi.i.dfs.length)/\spE mi.i.sp (mi.i.dfs.drop (1+1+mi.i.dfs.length - mi.i.ps.length)) [.ref a,x] H Q E:=by
 rcases by8 hz with rfl|rfl|rfl
 ·exact⟨ka,dx,[],⟨t.c_zbz,Ll K t⟩,rfl,.head _,hk,rfl,⟨ae 2,ae 2⟩,.ref ka,x,o,rfl,ha,st,k⟩
 ·exact⟨ka,dx,[],⟨t.c_zch,Ll K t⟩,rfl,.tail _ (.head _),hk,rfl,⟨ae 2,ae 2⟩,.ref ka,x,o,rfl,ha,st,k⟩
 ·exact⟨ka,dx,[],⟨t.c_zcd,a46 K t⟩,rfl,.tail _ (.tail _ (.head _)),hk,rfl,⟨ae 2,ae 2⟩,.ref ka,x,o,rfl,ha,st,k⟩
theorem a77 {f:Addr} {fd:ai} (Z:Al K t) (F:FunD K "__init__" "Put.__init__" Jt f fd .none) (T:Tab P w K mg base 4 (V6 K t) bl):FnOk P w K mg base (CXE P w) 5 f fd Og (ah4 K t):=by
 refine F.okWX bn1 bs5 T (bi8 K t) (fun vs H Q E h=>?_) (fun vs H Q E h=>?_)
 ·obtain⟨a,C,dx,xs,as,rfl,_,_,g,_,l,_⟩:=h;obtain⟨o0,o1,o2,o3,o4,y0,y1,y2,y3,y4,rfl,rfl,_⟩:=th5 g l;rfl
 ·obtain⟨a,C,dx,xs,as,rfl,e,hC,g,st,l,k1,k0⟩:=h
  obtain⟨o0,o1,o2,o3,o4,y0,y1,y2,y3,y4,rfl,rfl,h0,h1,h2,h3,h4⟩:=th5 g l
  obtain⟨Z1,Z2⟩:=Z.ed C hC
  have bad:((nmO o0&&(prO o2&&rkO o3))&&(kdO o1&&By o1 o4))=false -> ∀ H' b,Same H H'->Hq t H' b -> ∃ a,aC b=.ref a/\E (.ref a) none H':=fun h H' b S hb=>⟨b,rfl,k0 h H' b (But.of S) hb⟩
  refine⟨y0,o0,rfl,h0,st.2 o0 (by simp),fun H1 S1=>A2 (c:=nmO o0=true) (fun e0=>?_) (fun n0=>⟨nmO o0,rfl,(fun z=>absurd z n0),fun f0 _ b R hb=>bad (by rw [f0];simp) _ b (S1.trans R) hb⟩)⟩
  refine⟨y2,o2,rfl,Ao S1 h2,st.2 o2 (by simp),fun H2 S2=>A2 (c:=prO o2=true) (fun e2=>?_) (fun n2=>⟨prO o2,rfl,(fun z=>absurd z n2),fun f2 _ b R hb=>bad (by rw [f2];simp) _ b ((S1.trans S2).trans R) hb⟩)⟩
  have S12:=S1.trans S2
  refine⟨y3,o3,rfl,Ao S12 h3,st.2 o3 (by simp),fun H3 S3=>⟨rkO o3,rfl,fun e3=>?_,fun f3 _ b R hb=>bad (by rw [f3];simp) _ b ((S12.trans S3).trans R) hb⟩⟩
  have S13:=S12.trans S3
  refine⟨y1,o1,rfl,Ao S13 h1,st.2 o1 (by simp),fun z hz hk H4 ka kx S4 hka=>⟨true,rfl,fun _=>?_,fun z=>by cases z⟩,fun hk H4 S4=>⟨false,rfl,(fun z=>by cases z),fun _ _ b R hb=>bad (by rw [hk];simp) _ b ((S13.trans S4).trans R) hb⟩⟩
  have S14:=S13.trans S4
  have kd:kdO o1=true:=by unfold kdO;rw [hz];exact hk
  refine⟨y1,o1,rfl,Ao S14 h1,st.2 o1 (by simp),fun z' hz' hk' H5 ka2 kx2 S5 hka2=>?_,fun hk'=>by rw [kd] at hk';cases hk'⟩
  have S15:=S14.trans S5
  have ez:z'=z:=aN (hz'.symm.trans hz)
  subst ez
  refine Zh hk hka2 (Ao S15 h4) (st.2 o4 (by simp)) fun H6 S6=>?_
  have ef:(if z' = "table" then V5 o4 else txO o4)=By o1 o4:=by
   unfold By
   rw [hz]
   by_cases hc:z' = "table"
   ·rw [if_pos hc,if_pos (by rw [hc])]
   ·rw [if_neg hc,if_neg (fun q=>hc (aN q))]
  rw [ef]
  have S16:=S15.trans S6
  refine⟨By o1 o4,rfl,fun e4=>?_,fun f4 _ b R hb=>bad (by rw [f4];simp) _ b (S16.trans R) hb⟩
  have ok:((nmO o0&&(prO o2&&rkO o3))&&(kdO o1&&By o1 o4))=true:=by rw [e0,e2,e3,kd,e4];rfl
  exact .inl ⟨C,dx,_,S16 _ _ e,Z1,Z2 _ (by decide),(show 0<1000 by decide),.inl ⟨C,dx,_,Af,Z1,Z2 _ (by decide),(show 1<1000 by decide),.inl ⟨C,dx,_,Af,Z1,Z2 _ (by decide),(show 2<1000 by decide),.inl ⟨C,dx,_,Af,Z1,Z2 _ (by decide),(show 3<1000 by decide),.inl ⟨C,dx,_,Af,Z1,Z2 _ (by decide),(show 4<1000 by decide),G0 (k1 ok) (((((But.of S16).trans But.upd).trans But.upd).trans But.upd).trans But.upd) e⟩⟩⟩⟩⟩
theorem Bd {H:Hp} {i:Nat} {as:List Th} {xs:List V} {Q:VK} {E:XK} (hi:i<9) (g:Ths K H as xs) (st:stL as) (l:as.length=ar i) (fl:(Ge i).length=ar i) (k:EdO K t H (okE i as) i as Q E):∀ a dx,H a=none->H dx=none->dx≠a ->
  Cu i (okE i) (Ge i) K t (.ref a::xs) (upd (upd H dx (.own a)) a (.ins (cls t i) dx [])) (fun v H2=>v=.non/\Q (.ref a) H2) (fun v _ H'=>∃ b,v=.ref b/\E (.ref b) none H'):=by
 intro a dx ha hd ne
 have S:=Hl (C:=cls t i) ha hd
 refine⟨a,cls t i,dx,xs,as,rfl,Af,Cm hi,g.up S,st,l.trans fl.symm,fun h H' S'=>⟨rfl,?_⟩,fun h H' b B hb=>⟨b,rfl,k.2 h H' b (fun c o hc=>B _ _ (fun z=>by rw [z,ha] at hc;cases hc) (S _ _ hc)) hb⟩⟩
 have S2:Same H (upd H' a (.ins (cls t i) dx ((Ge i).zip xs))):=(S.trans S').set ha
 exact k.1 h _ a S2 ⟨dx,xs,Af,g.up S2,l⟩
theorem a99 {f:Addr} {fd:ai} (Z:Al K t) (F:FunD K "put_of" "put_of" Kf f fd .none) (T:Tab P w K mg base 6 (Gg K t) bl):FnOk P w K mg base (CXE P w) 7 f fd O4 (ai1 K t):=by
 refine F.okWX bp3 bu7 T (bl0 K t) (fun vs H Q E h=>?_) (fun vs H Q E h=>?_)
 ·obtain⟨p,as,rfl,_⟩:=h;rfl
 ·obtain⟨p,as,rfl,⟨xs,q,g⟩,st,l,k⟩:=h
  obtain⟨o0,o1,o2,o3,o4,y0,y1,y2,y3,y4,rfl,rfl,_⟩:=th5 g l
  exact⟨_,_,.inr q,rfl,_,_,.inr q,rfl,_,_,.inr q,rfl,_,_,.inr q,rfl,_,_,.inr q,rfl,Bd (i:=0) (by decide) g st l rfl k⟩
theorem a88 {f:Addr} {fd:ai} (Z:Al K t) (F:FunD K "write_of" "write_of" J4 f fd .none) (T:Tab P w K mg base 9 (C9 K t) bl):FnOk P w K mg base (CXE P w) 10 f fd Ot (ah6 K t):=by
 refine F.okWX bo2 bt6 T (bj9 K t) (fun vs H Q E h=>?_) (fun vs H Q E h=>?_)
 ·obtain⟨p,as,rfl,_⟩:=h;rfl
 ·obtain⟨p,as,rfl,⟨xs,q,g⟩,st,l,k⟩:=h
  obtain⟨o0,o1,y0,y1,rfl,rfl,_⟩:=th2 g l
  exact⟨_,_,.inr q,rfl,_,_,.inr q,rfl,Bd (i:=1) (by decide) g st l rfl k⟩
theorem a75 {f:Addr} {fd:ai} (Z:Al K t) (F:FunD K "splice_of" "splice_of" Jr f fd .none) (T:Tab P w K mg base 9 (C9 K t) bl):FnOk P w K mg base (CXE P w) 10 f fd Oe (ah2 K t):=by
 refine F.okWX bm9 bs3 T (bi6 K t) (fun vs H Q E h=>?_) (fun vs H Q E h=>?_)
 ·obtain⟨p,as,rfl,_⟩:=h;rfl
 ·obtain⟨p,as,rfl,⟨xs,q,g⟩,st,l,k⟩:=h
  obtain⟨o0,o1,o2,o3,y0,y1,y2,y3,rfl,rfl,_⟩:=th4 g l
  exact⟨_,_,.inr q,rfl,_,_,.inr q,rfl,_,_,.inr q,rfl,_,_,.inr q,rfl,Bd (i:=2) (by decide) g st l rfl k⟩
theorem a89 {f:Addr} {fd:ai} (Z:Al K t) (F:FunD K "cell_of" "cell_of" J5 f fd .none) (T:Tab P w K mg base 9 (C9 K t) bl):FnOk P w K mg base (CXE P w) 10 f fd Ou (ah7 K t):=by
 refine F.okWX bo3 bt7 T (bk0 K t) (fun vs H Q E h=>?_) (fun vs H Q E h=>?_)
 ·obtain⟨p,as,rfl,_⟩:=h;rfl
 ·obtain⟨p,as,rfl,⟨xs,q,g⟩,st,l,k⟩:=h
  obtain⟨o0,o1,o2,o3,y0,y1,y2,y3,rfl,rfl,_⟩:=th4 g l
  exact⟨_,_,.inr q,rfl,_,_,.inr q,rfl,_,_,.inr q,rfl,_,_,.inr q,rfl,Bd (i:=3) (by decide) g st l rfl k⟩
theorem a67 {f:Addr} {fd:ai} (Z:Al K t) (F:FunD K "addrow_of" "addrow_of" Jj f fd .none) (T:Tab P w K mg base 9 (C9 K t) bl):FnOk P w K mg base (CXE P w) 10 f fd N6 (ah0 K t):=by
 refine F.okWX bm1 br5 T (bh8 K t) (fun vs H Q E h=>?_) (fun vs H Q E h=>?_)
 ·obtain⟨p,as,rfl,_⟩:=h;rfl
 ·obtain⟨p,as,rfl,⟨xs,q,g⟩,st,l,k⟩:=h
  obtain⟨o0,o1,o2,y0,y1,y2,rfl,rfl,_⟩:=th3 g l
  exact⟨_,_,.inr q,rfl,_,_,.inr q,rfl,_,_,.inr q,rfl,Bd (i:=4) (by decide) g st l rfl k⟩
theorem a68 {f:Addr} {fd:ai} (Z:Al K t) (F:FunD K "cutrow_of" "cutrow_of" Jk f fd .none) (T:Tab P w K mg base 9 (C9 K t) bl):FnOk P w K mg base (CXE P w) 10 f fd N7 (ah1 K t):=by
 refine F.okWX bm2 br6 T (bh9 K t) (fun vs H Q E h=>?_) (fun vs H Q E h=>?_)
 ·obtain⟨p,as,rfl,_⟩:=h;rfl
 ·obtain⟨p,as,rfl,⟨xs,q,g⟩,st,l,k⟩:=h
  obtain⟨o0,o1,y0,y1,rfl,rfl,_⟩:=th2 g l
  exact⟨_,_,.inr q,rfl,_,_,.inr q,rfl,Bd (i:=5) (by decide) g st l rfl k⟩
theorem a96 {f:Addr} {fd:ai} (Z:Al K t) (F:FunD K "cut_of" "cut_of" Kc f fd .none) (T:Tab P w K mg base 5 (Hc K t) bl):FnOk P w K mg base (CXE P w) 6 f fd O1 (ai0 K t):=by
 refine F.okWX bp0 bu4 T (bk7 K t) (fun vs H Q E h=>?_) (fun vs H Q E h=>?_)
 ·obtain⟨p,as,rfl,_⟩:=h;rfl
 ·obtain⟨p,as,rfl,⟨xs,q,g⟩,st,l,k⟩:=h
  obtain⟨o0,y0,rfl,rfl,_⟩:=th1 g l
  exact⟨_,_,.inr q,rfl,Bd (i:=6) (by decide) g st l rfl k⟩
theorem a94 {f:Addr} {fd:ai} (Z:Al K t) (F:FunD K "move_of" "move_of" Ka f fd .none) (T:Tab P w K mg base 7 (Cp K t) bl):FnOk P w K mg base (CXE P w) 8 f fd Oz (ah8 K t):=by
 refine F.okWX bo8 bu2 T (bk5 K t) (fun vs H Q E h=>?_) (fun vs H Q E h=>?_)
 ·obtain⟨p,as,rfl,_⟩:=h;rfl
 ·obtain⟨p,as,rfl,⟨xs,q,g⟩,st,l,k⟩:=h
  obtain⟨o0,o1,o2,y0,y1,y2,rfl,rfl,_⟩:=th3 g l
  exact⟨_,_,.inr q,rfl,_,_,.inr q,rfl,_,_,.inr q,rfl,Bd (i:=7) (by decide) g st l rfl k⟩
theorem a95 {f:Addr} {fd:ai} (Z:Al K t) (F:FunD K "wrap_of" "wrap_of" Kb f fd .none) (T:Tab P w K mg base 7 (Cp K t) bl):FnOk P w K mg base (CXE P w) 8 f fd O0 (ah9 K t):=by
 refine F.okWX bo9 bu3 T (bk6 K t) (fun vs H Q E h=>?_) (fun vs H Q E h=>?_)
 ·obtain⟨p,as,rfl,_⟩:=h;rfl
 ·obtain⟨p,as,rfl,⟨xs,q,g⟩,st,l,k⟩:=h
  obtain⟨o0,o1,o2,y0,y1,y2,rfl,rfl,_⟩:=th3 g l
  exact⟨_,_,.inr q,rfl,_,_,.inr q,rfl,_,_,.inr q,rfl,Bd (i:=8) (by decide) g st l rfl k⟩
theorem a84 {f:Addr} {fd:ai} (Z:Al K t) (F:FunD K "_law_made" "_law_made" J0 f fd .none) (T:Tab P w K mg base 9 (C9 K t) bl):FnOk P w K mg base (CXE P w) 10 f fd Oo (Tc K t):=by
 refine F.okWX bn8 bt2 T (bj5 K t) (fun vs H Q E h=>?_) (fun vs H Q E h=>?_)
 ·obtain⟨p,i,as,rfl,_⟩:=h;rfl
 ·obtain⟨p,i,as,rfl,hi,⟨xs0,q,y,xs,rfl,hy,g⟩,st,l,k⟩:=h
  have hy:y=.str (wd i):=(Dn hy rfl).2
  subst hy
  obtain rfl|rfl|rfl|rfl|rfl|rfl|rfl|rfl|rfl:i=0\/i=1\/i=2\/i=3\/i=4\/i=5\/i=6\/i=7\/i=8:=by omega
  ·obtain⟨o0,o1,o2,o3,o4,y0,y1,y2,y3,y4,rfl,rfl,_⟩:=th5 g l
   exact⟨_,_,.inr q,rfl,_,_,.inr q,rfl,_,_,.inr q,rfl,_,_,.inr q,rfl,_,_,.inr q,rfl,_,_,.inr q,rfl,Bd (i:=0) (by decide) g st l rfl k⟩
  ·obtain⟨o0,o1,y0,y1,rfl,rfl,_⟩:=th2 g l
   exact⟨_,_,.inr q,rfl,_,_,.inr q,rfl,_,_,.inr q,rfl,_,_,.inr q,rfl,Bd (i:=1) (by decide) g st l rfl k⟩
  ·obtain⟨o0,o1,o2,o3,y0,y1,y2,y3,rfl,rfl,_⟩:=th4 g l
   exact⟨_,_,.inr q,rfl,_,_,.inr q,rfl,_,_,.inr q,rfl,_,_,.inr q,rfl,_,_,.inr q,rfl,_,_,.inr q,rfl,_,_,.inr q,rfl,Bd (i:=2) (by decide) g st l rfl k⟩
  ·obtain⟨o0,o1,o2,o3,y0,y1,y2,y3,rfl,rfl,_⟩:=th4 g l
   exact⟨_,_,.inr q,rfl,_,_,.inr q,rfl,_,_,.inr q,rfl,_,_,.inr q,rfl,_,_,.inr q,rfl,_,_,.inr q,rfl,_,_,.inr q,rfl,_,_,.inr q,rfl,Bd (i:=3) (by decide) g st l rfl k⟩
  ·obtain⟨o0,o1,o2,y0,y1,y2,rfl,rfl,_⟩:=th3 g l
   exact⟨_,_,.inr q,rfl,_,_,.inr q,rfl,_,_,.inr q,rfl,_,_,.inr q,rfl,_,_,.inr q,rfl,_,_,.inr q,rfl,_,_,.inr q,rfl,_,_,.inr q,rfl,Bd (i:=4) (by decide) g st l rfl k⟩
  ·obtain⟨o0,o1,y0,y1,rfl,rfl,_⟩:=th2 g l
   exact⟨_,_,.inr q,rfl,_,_,.inr q,rfl,_,_,.inr q,rfl,_,_,.inr q,rfl,_,_,.inr q,rfl,_,_,.inr q,rfl,_,_,.inr q,rfl,_,_,.inr q,rfl,Bd (i:=5) (by decide) g st l rfl k⟩
  ·obtain⟨o0,y0,rfl,rfl,_⟩:=th1 g l
   exact⟨_,_,.inr q,rfl,_,_,.inr q,rfl,_,_,.inr q,rfl,_,_,.inr q,rfl,_,_,.inr q,rfl,_,_,.inr q,rfl,_,_,.inr q,rfl,_,_,.inr q,rfl,Bd (i:=6) (by decide) g st l rfl k⟩
  ·obtain⟨o0,o1,o2,y0,y1,y2,rfl,rfl,_⟩:=th3 g l
   exact⟨_,_,.inr q,rfl,_,_,.inr q,rfl,_,_,.inr q,rfl,_,_,.inr q,rfl,_,_,.inr q,rfl,_,_,.inr q,rfl,_,_,.inr q,rfl,_,_,.inr q,rfl,_,_,.inr q,rfl,_,_,.inr q,rfl,_,_,.inr q,rfl,Bd (i:=7) (by decide) g st l rfl k⟩
  ·obtain⟨o0,o1,o2,y0,y1,y2,rfl,rfl,_⟩:=th3 g l
   exact⟨_,_,.inr q,rfl,_,_,.inr q,rfl,_,_,.inr q,rfl,_,_,.inr q,rfl,_,_,.inr q,rfl,_,_,.inr q,rfl,_,_,.inr q,rfl,_,_,.inr q,rfl,_,_,.inr q,rfl,_,_,.inr q,rfl,_,_,.inr q,rfl,Bd (i:=8) (by decide) g st l rfl k⟩
end
end K28
set_option maxHeartbeats 2000000
namespace K28
open PySem L2
section
variable {P:aI} {w:bq} {K:aa} {mg:Str->Option Value} {base:Heap} {t:Adr}
theorem isT {H:Hp} {o:Th} {x:V} (hx:AtO K H o x) (h:∀ ds,o≠some (.tup ds)):∀ {Q:VK},Q (.bl false) H->Bs K [x,.ty "tuple"] H Q:=by
 intro Q k
 match o,hx,h with
 | none,hx,_=>obtain⟨a,rfl,e⟩:=hx;exact⟨.type "dict", false,.of (.dK e),rfl,k⟩
 | some (.lst l),hx,_=>
  have hx:At K H (.lst l) x:=hx
  unfold At at hx
  obtain⟨a,xs,rfl,q,_⟩:=hx
  exact⟨.type "list", false,.sqL rfl q rfl,rfl,k⟩
 | some (.tup l),hx,h=>exact (h l rfl).elim
 | some (.at_ v),hx,h=>
  have hx:At K H (.at_ v) x:=hx
  unfold At at hx
  obtain⟨rfl,f⟩:=hx
  cases x with
  | _=>first|exact⟨rfl,k⟩|cases f
theorem M8 {H:Hp} {x:V} {i:Nat} {σ:St} {T:String} {D:Cy} {t2:DT} {u v R:DS} (hv:σ[i]? = some (some x)) (h:Bs K [x,.ty T] H fun y H1=>Gw K y H1 fun k H2=>if (!k)=true then u { D with nx:=R D } σ H2 else t2 σ H2 (fun b H3=>if b=true then u { D with nx:=R D } σ H3 else v { D with nx:=R D } σ H3) (D.ex σ)) :
  Ag (dIf (dOr (Cj (B8 K (dFn (fun vs H Q _=>(Bs K) vs H Q) (Aa (Ac i) (Aa (dC (.ty T)) Ae))))) t2) u v) R D σ H:=by
 show Ac i σ H (fun x H1=>Bs K [x,.ty T] H1 fun y H1=>Gw K y H1 fun k H2=>if (!k)=true then (if true=true then u { D with nx:=R D } σ H2 else v { D with nx:=R D } σ H2) else t2 σ H2 (fun b H3=>if b=true then u { D with nx:=R D } σ H3 else v { D with nx:=R D } σ H3) (D.ex σ)) (D.ex σ)
 unfold Ac
 rw [hv]
 exact h
theorem O9 (Z:Al K t) {H:Hp} {E:XK} {z:Str} {EE:EK} (kb:∀ H' b,Same H H'->Hq t H' b->E (.ref b) none H'):mkX t.c_zby none 0 [.str z] H (Rn K fun a H'=>E (.ref a) none H') EE:=
 fun a ha=>⟨_,none,Af,Z.bad.1,kb _ a ((Same.upd ha).set ha) Af⟩
theorem Tm {z:Str} (h:wds.idxOf z<9):z=wd (wds.idxOf z):=by
 unfold wd
 rw [bK,a9 (show wds.idxOf z<wds.length from h)]
 exact (List.getElem_idxOf h).symm
theorem Zo {z:Str} (h:¬ wds.idxOf z<9):Eb (Cd t) (.inr z)=none:=by
 have hn:z∉wds:=fun hz=>h (List.idxOf_lt_length_of_mem hz)
 simp only [wds,ay,aU,or_false,not_or] at hn
 obtain⟨h0,h1,h2,h3,h4,h5,h6,h7,h8⟩:=hn
 unfold Eb
 rw [List.find?_eq_none.mpr]
 ·rfl
 intro kv hkv
 simp only [Cd,ay,aU,or_false] at hkv
 have e:∀ {x:Str},¬ z=x -> ¬ decide ((fV x:Key)=.inr z)=true:=fun hx q=>hx (Sum.inr.inj (of_decide_eq_true q)).symm
 rcases hkv with rfl|rfl|rfl|rfl|rfl|rfl|rfl|rfl|rfl
 ·exact e h0
 ·exact e h1
 ·exact e h2
 ·exact e h3
 ·exact e h4
 ·exact e h5
 ·exact e h6
 ·exact e h7
 ·exact e h8
theorem Lf {i:Nat} (h:i<9):Eb (Cd t) (.inr (wd i))=some (.ref ((qfs t).getD i 0)):=by
 obtain rfl|rfl|rfl|rfl|rfl|rfl|rfl|rfl|rfl:i=0\/i=1\/i=2\/i=3\/i=4\/i=5\/i=6\/i=7\/i=8:=by omega
 all_goals rfl
theorem Dy {x:Str} {i:FI} {gb:List (Str×GB)} (h:(x,GB.fn i)∈gb):i∈Pk gb:=List.mem_filterMap.mpr ⟨_,h,rfl⟩
theorem b99 {H:Hp} {a:Addr} {xs:List V} {Q:VK} (q:SqT K H a xs) (h:xs.length<=100) (hp:1<=xs.length) (k:∀ H' b,Same H H'->SqT K H' b (xs.drop 1)->Q (.ref b) H'):Qb K (.ref a) (some 1) none H Q:=by
 have s1:HT.sIx xs.length 0 (some ((1:Nat):Int))=1:=by rw [HT.sIx_nat];omega
 have s2:HT.sIx xs.length xs.length none=xs.length:=rfl
 refine .inr ⟨xs,q,fun hw=>?_,fun _ b hb=>k _ b (Same.upd hb) ?_⟩
 ·exact absurd (s1.symm.trans hw.1) (by decide)
 ·have:Fm xs (some 1) none=xs.drop 1:=by
   unfold Fm
   rw [show HT.sIx xs.length 0 (some (1:Int))=1 from s1,s2]
   rw [eC (by rw [bz];exact ae _)]
  rw [this]
  exact SqT.of Af
theorem a24 {H:Hp} {i:Nat} {as:List Th} {Q:VK} {E:EK} (hi:i<9) (st:stL as) (l:as.length=ar i) (k:EdO K t H (okE i as) i as Q (fun v _ H'=>∃ a,v=.ref a/\E a H')) :
  ∃ f,f∈Pk (C8 K t)/\V.ref ((ofs t).getD i 0)=.ref f.f/\(1<=f.ps.length/\f.ps.length<=1+f.dfs.length) /\ ∀ H1 p,Same H H1->TpAt K H1 as p->spE f.sp (f.dfs.drop (1+f.dfs.length - f.ps.length)) [.ref p] H1 Q E:=by
 have k':∀ H1,Same H H1->EdO K t H1 (okE i as) i as Q (fun v _ H'=>∃ a,v=.ref a/\E a H'):=fun H1 S1=>⟨fun h H' a S=>k.1 h H' a (S1.trans S),fun h H' b S=>k.2 h H' b (S1.trans S)⟩
 obtain rfl|rfl|rfl|rfl|rfl|rfl|rfl|rfl|rfl:i=0\/i=1\/i=2\/i=3\/i=4\/i=5\/i=6\/i=7\/i=8:=by omega
 ·exact⟨aa3 K t,Dy (x := "put_of") (by simp [C8,C9,Ie,Cp,Gg]),rfl,⟨ae 1,ae 1⟩,fun H1 p S1 g=>⟨p,as,rfl,g,st,l,k' H1 S1⟩⟩
 ·exact⟨Z8 K t,Dy (x := "write_of") (by simp [C8,C9,Ie,Cp,Gg]),rfl,⟨ae 1,ae 1⟩,fun H1 p S1 g=>⟨p,as,rfl,g,st,l,k' H1 S1⟩⟩
 ·exact⟨Z5 K t,Dy (x := "splice_of") (by simp [C8,C9,Ie,Cp,Gg]),rfl,⟨ae 1,ae 1⟩,fun H1 p S1 g=>⟨p,as,rfl,g,st,l,k' H1 S1⟩⟩
 ·exact⟨Z9 K t,Dy (x := "cell_of") (by simp [C8,C9,Ie,Cp,Gg]),rfl,⟨ae 1,ae 1⟩,fun H1 p S1 g=>⟨p,as,rfl,g,st,l,k' H1 S1⟩⟩
 ·exact⟨Z3 K t,Dy (x := "addrow_of") (by simp [C8,C9,Ie,Cp,Gg]),rfl,⟨ae 1,ae 1⟩,fun H1 p S1 g=>⟨p,as,rfl,g,st,l,k' H1 S1⟩⟩
 ·exact⟨Z4 K t,Dy (x := "cutrow_of") (by simp [C8,C9,Ie,Cp,Gg]),rfl,⟨ae 1,ae 1⟩,fun H1 p S1 g=>⟨p,as,rfl,g,st,l,k' H1 S1⟩⟩
 ·exact⟨aa2 K t,Dy (x := "cut_of") (by simp [C8,C9,Ie,Cp,Gg]),rfl,⟨ae 1,ae 1⟩,fun H1 p S1 g=>⟨p,as,rfl,g,st,l,k' H1 S1⟩⟩
 ·exact⟨aa0 K t,Dy (x := "move_of") (by simp [C8,C9,Ie,Cp,Gg]),rfl,⟨ae 1,ae 1⟩,fun H1 p S1 g=>⟨p,as,rfl,g,st,l,k' H1 S1⟩⟩
 ·exact⟨aa1 K t,Dy (x := "wrap_of") (by simp [C8,C9,Ie,Cp,Gg]),rfl,⟨ae 1,ae 1⟩,fun H1 p S1 g=>⟨p,as,rfl,g,st,l,k' H1 S1⟩⟩
theorem Nv {o:Th} {as:List Th} (h:stL (o::as)):stL as:=⟨by have:=h.1;simp at this;omega,fun x hx=>h.2 x (.tail _ hx)⟩
theorem a90 {f:Addr} {fd:ai} (Z:Al K t) (F:FunD K "edit_of" "edit_of" J6 f fd .none) (T:Tab P w K mg base 10 (C8 K t) bl):FnOk P w K mg base (CXE P w) 11 f fd Ov (Td K t):=by
 refine F.okWX bo4 bt8 T (bk1 K t) (fun vs H Q E h=>?_) (fun vs H Q E h=>?_)
 ·obtain⟨x,g,rfl,_⟩:=h;rfl
 ·obtain⟨x,g,rfl,hg,st,kg,kb⟩:=h
  dsimp only [ay2]
  cases g with
  | th o=>
   refine M8 (T := "tuple") (i:=0) (x:=x) rfl (isT hg.1 hg.2 ?_)
   exact⟨(show 1<=1000 by decide),O9 Z (kb rfl)⟩
  | tp os=>
   obtain⟨p,rfl,xs,q,g⟩:=hg
   have st:=st os rfl
   refine⟨.type "tuple", true,.sqT rfl q rfl,rfl,.inl ⟨xs,.inr q,?_⟩⟩
   have hl:=g.length
   cases os with
   | nil=>
    cases (show xs=[] from g)
    exact⟨(show 1<=1000 by decide),O9 Z (kb rfl)⟩
   | cons o as=>
    obtain⟨y,ys,rfl,hy,g⟩:=g
    refine⟨_,y,.inr q,Bg (i:=0) rfl,?_⟩
    dsimp only [Aa,dC,Ae]
    cases ho:A7 o with
    | none=>
     have gf:Li (.tp (o::as))=false:=by
      show Cc (o::as)=false
      unfold Cc
      dsimp only
      rw [ho]
     refine isS hy ho ?_
     exact⟨(show 1<=1000 by decide),O9 Z (kb gf)⟩
    | some z=>
     obtain⟨rfl,rfl⟩:=Dn hy ho
     have gd:Li (.tp (some (.at_ (.str z))::as))=(decide (as.length=ar (wds.idxOf z))&&okE (wds.idxOf z) as):=rfl
     refine⟨rfl,_,.str z,.inr q,Bg (i:=0) rfl,.inr z,rfl,?_⟩
     by_cases hi:wds.idxOf z<9
     ·have ez:=Tm hi
      generalize wds.idxOf z=i at hi ez gd
      subst ez
      refine by7 (b:=!(Eb (Cd t) (.inr (wd i))).isSome) (by rw [Lf hi];rfl) ?_
      refine⟨_,.str (wd i),.inr q,Bg (i:=0) rfl,.inr (wd i),_,rfl,Lf hi,.inl ⟨_,.inr q,?_⟩⟩
      refine⟨_,.int (ar i),.inr (Z.fr i hi H),Bg (i:=0) rfl,?_⟩
      refine A2 (c:=(!decide ((((V.str (wd i)::ys).length:Nat):Int) - 1=(ar i:Int)))=true) (fun e=>?_) (fun e=>?_)
      ·have e:¬ as.length=ar i:=fun h=>by
        have:((((V.str (wd i)::ys).length:Nat):Int) - 1=(ar i:Int)):=by simp;rw [g.length];omega
        rw [decide_eq_true this] at e
        cases e
       exact⟨(show 1<=1000 by decide),O9 Z (kb (by rw [gd,decide_eq_false e];rfl))⟩
      ·have e:as.length=ar i:=by
        have:((((V.str (wd i)::ys).length:Nat):Int) - 1=(ar i:Int)):=by simpa using e
        simp at this
        rw [g.length] at this
        omega
       refine⟨_,.ref ((ofs t).getD i 0),.inr (Z.fr i hi H),Bg (i:=1) rfl,?_⟩
       have st':=Nv st
       obtain⟨f',m1,m2,m3,m4⟩:=a24 (t:=t) (Q:=Q) (E:=fun a H'=>E (.ref a) none H') hi st' e ⟨fun h H' a S ea=>kg i as rfl hi e h H' a S ea,fun h H' b S hb=>⟨b,rfl,kb (by rw [gd,h,b9]) H' b S hb⟩⟩
       refine⟨f',m1,m2,m3,?_⟩
       show Qb K (.ref p) (some 1) none H fun v H2=>spE f'.sp (f'.dfs.drop (1+f'.dfs.length - f'.ps.length)) [v] H2 Q (fun a H'=>E (.ref a) none H')
       exact b99 q (by have:=st.1;rw [hl];omega) (by simp) fun H1 b S1 q1=>m4 H1 b S1 ⟨_,q1,g.up S1⟩
     ·refine av1 (b:=!(Eb (Cd t) (.inr z)).isSome) (by rw [Zo hi];rfl) ?_
      have:Li (.tp (some (.at_ (.str z))::as))=false:=by
       rw [gd]
       have:okE (wds.idxOf z) as=false:=by
        have h9:wds.idxOf z=9:=by have:=gW (a:=z) (l:=wds);have h:wds.length=9:=rfl;omega
        rw [h9]
        rfl
       rw [this,b9]
      exact⟨(show 1<=1000 by decide),O9 Z (kb this)⟩
end
theorem Mx:∀ i,i<9->wds.idxOf (wd i)=i:=by decide +kernel
section
variable {P:aI} {w:bq} {K:aa} {mg:Str->Option Value} {base:Heap} {t:Adr}
theorem Qk {H:Hp} {i:Nat} {as:List Th} {a:Addr} {Q:VK} {E:EK} (hi:i<9) (hE:EdAt K t H i as a) (k:∀ H' p,Same H H'->TpAt K H' (wdO i::as) p->Q (.ref p) H') :
  ∃ a' dx fs mi,V.ref a=.ref a'/\mi∈Ew K t/\H a'=some (.ins mi.C dx fs)/\fs.lookup ("told" : Str)=none/\(0+1<=mi.i.ps.length/\mi.i.ps.length<=0+1+mi.i.dfs.length)/\spE mi.i.sp (mi.i.dfs.drop (0+1+mi.i.dfs.length - mi.i.ps.length)) [.ref a'] H Q E:=by
 obtain⟨dx,xs,ea,g,lx⟩:=hE.get
 obtain rfl|rfl|rfl|rfl|rfl|rfl|rfl|rfl|rfl:i=0\/i=1\/i=2\/i=3\/i=4\/i=5\/i=6\/i=7\/i=8:=by omega
 ·match xs,lx with
  | [y0,y1,y2,y3,y4],_=>exact⟨a,dx,_,⟨t.c_zck,Z7 K t⟩,rfl,.head _,ea,rfl,⟨ae _,ae _⟩,a,as,rfl,hE,k⟩
 ·match xs,lx with
  | [y0,y1],_=>exact⟨a,dx,_,⟨t.c_zce,a48 K t⟩,rfl,.tail _ (.head _),ea,rfl,⟨ae _,ae _⟩,a,as,rfl,hE,k⟩
 ·match xs,lx with
  | [y0,y1,y2,y3],_=>exact⟨a,dx,_,⟨t.c_zcc,a45 K t⟩,rfl,.tail _ (.tail _ (.head _)),ea,rfl,⟨ae _,ae _⟩,a,as,rfl,hE,k⟩
 ·match xs,lx with
  | [y0,y1,y2,y3],_=>exact⟨a,dx,_,⟨t.c_zcf,Zx K t⟩,rfl,.tail _ (.tail _ (.tail _ (.head _))),ea,rfl,⟨ae _,ae _⟩,a,as,rfl,hE,k⟩
 ·match xs,lx with
  | [y0,y1,y2],_=>exact⟨a,dx,_,⟨t.c_zca,a43 K t⟩,rfl,.tail _ (.tail _ (.tail _ (.tail _ (.head _)))),ea,rfl,⟨ae _,ae _⟩,a,as,rfl,hE,k⟩
 ·match xs,lx with
  | [y0,y1],_=>exact⟨a,dx,_,⟨t.c_zcb,a44 K t⟩,rfl,.tail _ (.tail _ (.tail _ (.tail _ (.tail _ (.head _))))),ea,rfl,⟨ae _,ae _⟩,a,as,rfl,hE,k⟩
 ·match xs,lx with
  | [y0],_=>exact⟨a,dx,_,⟨t.c_zcj,Z6 K t⟩,rfl,.tail _ (.tail _ (.tail _ (.tail _ (.tail _ (.tail _ (.head _)))))),ea,rfl,⟨ae _,ae _⟩,a,as,rfl,hE,k⟩
 ·match xs,lx with
  | [y0,y1,y2],_=>exact⟨a,dx,_,⟨t.c_zcg,Zy K t⟩,rfl,.tail _ (.tail _ (.tail _ (.tail _ (.tail _ (.tail _ (.tail _ (.head _))))))),ea,rfl,⟨ae _,ae _⟩,a,as,rfl,hE,k⟩
 ·match xs,lx with
  | [y0,y1,y2],_=>exact⟨a,dx,_,⟨t.c_zci,Z0 K t⟩,rfl,.tail _ (.tail _ (.tail _ (.tail _ (.tail _ (.tail _ (.tail _ (.tail _ (.head _)))))))),ea,rfl,⟨ae _,ae _⟩,a,as,rfl,hE,k⟩
noncomputable def a38 (K:aa) (t:Adr):DS:=(Ag (A1 2 (dC (.str "other"))) (Ag (dIf (Gb (B8 K (dFn (fun vs H Q _=>(Bs K) vs H Q) (Aa (Ac 3) (Aa (dC (.ref t.c_zbv)) Ae)))) (Gb (B8 K (dFn (fun vs H Q _=>(Bs K) vs H Q) (Aa (Ac 3) (Aa (dC (.ty "ValueError")) Ae)))) (Cj (B8 K (dFn (fun vs H Q _=>(Bs K) vs H Q) (Aa (Ac 3) (Aa (A6 (Aa (dC (.ref t.c_zbu)) (Aa (dC (.ref t.c_zbx)) Ae))) Ae))))))) (Ag (A1 2 (dC (.str "refused"))) Ah) Ah) Ah))
theorem Lj (Z:Al K t) {x:Addr} {D:Cy} {H:Hp} {a b v2 v3:Option V} (f:Hq t H x) (k:∀ H',Same H H'->D.nx [a,b,some (.str "refused"),none] H'):asD x (a38 K t) (.as 3) D [a,b,v2,v3] H:=by
 obtain⟨ec,mr,k1,k2,k3⟩:=Z.bad
 have ex:ExcAt H x t.c_zby []:=.inl ⟨rfl,.inr (.inl f)⟩
 refine .inl ⟨.ref t.c_zby,true,.exc rfl ex ec rfl,k1,⟨.ref t.c_zby,true,.exc rfl ex ec rfl,k2,(show 2<=sizeLine by decide),fun q hq=>.inr (.inr ⟨[t.c_zbu,t.c_zbx],t.c_zby,[],false,SqT.of Af,.inl ⟨rfl,.inr (.inl (Same.upd hq _ _ f))⟩,ec,k3,?_⟩)⟩⟩
 exact k _ (Same.upd hq)
theorem a87 {f:Addr} {fd:ai} (Z:Al K t) (F:FunD K "_law_told" "_law_told" J3 f fd .none) (T:Tab P w K mg base 11 (Uh K t) bl):FnOk P w K mg base CX0 12 f fd Os (Cv K t):=by
 refine F.okW0 bo1 bt5 T (bj8 K t) (fun vs H Q E h=>?_) (fun vs H Q E h=>?_)
 ·obtain⟨x,g,b,rfl,_⟩:=h;rfl
 ·obtain⟨x,g,b,rfl,hg,st,hb,kg,kb⟩:=h
  cases b with
  | true=>
   obtain⟨i,as,rfl,hi,l⟩:=hb rfl
   obtain⟨p,rfl,g⟩:=hg
   have gd:Cc (wdO i::as)=okE i as:=by
    show (decide (as.length=ar (wds.idxOf (wd i)))&&okE (wds.idxOf (wd i)) as)=_
    rw [Mx i hi,decide_eq_true l,av]
   refine⟨p,i,as,rfl,hi,g,Nv (st _ rfl),l,fun h H1 a S1 ea=>?_,fun h H' y S hy=>⟨y,rfl,t.c_zby,none,.inl hy,Z.bad.1,true,Z.bad.2.1,Lj Z hy fun H2 S2=>kb (gd.trans h) H2 (S.trans S2)⟩⟩
   exact Qk hi ea fun H2 p S2 hp=>kg _ rfl (gd.trans h) H2 p (S1.trans S2) hp
  | false=>
   refine⟨x,g,rfl,hg,st,fun i as e hi l ok H1 a S1 ea=>?_,fun h H' y S hy=>⟨y,rfl,t.c_zby,none,.inl hy,Z.bad.1,true,Z.bad.2.1,Lj Z hy fun H2 S2=>kb h H2 (S.trans S2)⟩⟩
   have gd:Cc (wdO i::as)=true:=by
    show (decide (as.length=ar (wds.idxOf (wd i)))&&okE (wds.idxOf (wd i)) as)=_
    rw [Mx i hi,decide_eq_true l,ok]
    rfl
   exact Qk hi ea fun H2 p S2 hp=>kg _ e gd H2 p (S1.trans S2) hp
theorem Vx {a b c:Int} {Q:VK} {H:Hp} {A:Prop} (ha:A) (k:Q (.bl (decide (a<=c)&&decide (c<=b))) H):if decide (a<=c)=true then A/\Q (.bl (decide (c<=b))) H else Q (.bl false) H:=by
 cases e:decide (a<=c) with
 | true=>rw [e,av] at k;exact E4 ⟨ha,k⟩
 | false=>rw [e,aR] at k;exact D9 k
theorem b01 {f:Addr} {fd:ai} (Z:Al K t) (F:FunD K "_law_is_whole" "_law_is_whole" R5 f fd .none) (T:Tab P w K mg base 0 (A8 K t) bl):FnOk P w K mg base CX0 1 f fd Ym (G7 K t):=by
 refine F.okW0 b79 cg0 T (b52 K t) (fun vs H Q E h=>?_) (fun vs H Q E h=>?_)
 ·obtain⟨x,o,rfl,_⟩:=h;rfl
 ·obtain⟨x,o,rfl,hx,hs,k⟩:=h
  match o,hx,k with
  | none,hx,k=>obtain⟨a,rfl,e⟩:=hx;exact⟨.type "dict", false,.of (.dK e),rfl,k H (Same.refl _)⟩
  | some (.lst l),hx,k=>
   have hx:At K H (.lst l) x:=hx
   unfold At at hx
   obtain⟨a,xs,rfl,q,_⟩:=hx
   exact⟨.type "list", false,.sqL rfl q rfl,rfl,k H (Same.refl _)⟩
  | some (.tup l),hx,k=>
   obtain⟨a,xs,rfl,q,_⟩:=B0 (show At K H (.tup l) x from hx)
   exact⟨.type "tuple", false,.sqT rfl q rfl,rfl,k H (Same.refl _)⟩
  | some (.at_ v),hx,k=>
   have hx:At K H (.at_ v) x:=hx
   unfold At at hx
   obtain⟨rfl,f⟩:=hx
   cases x with
   | int i=>exact⟨rfl,rfl,Vx (a:=0) (b:=1000000000) (c:=i) ⟨by decide,by decide,by decide⟩ (k H (Same.refl _))⟩
   | bl b=>exact⟨rfl,rfl,k H (Same.refl _)⟩
   | non=>exact⟨rfl,k H (Same.refl _)⟩
   | str z=>exact⟨rfl,k H (Same.refl _)⟩
   | _=>cases f
theorem Mi {α:Type} {J:It} {its:List V} {ds:List α} {f:α->Bool} {ok:Hp->Prop} {tc:DT} {σ:St} {H:Hp} {L:Addr} {R:Hp->Prop} {E:EK} (Y:Dl J its ok) (hL:H L=none) (hok:∀ H1,Same H H1->ok H1) (hn:its.length<sizeLine) (hl:its.length=ds.length) (hσ:σ.length=1)
  (he:∀ (i:Nat) x d H1 (Q1:Bool->Hp->Prop),its[i]? = some x->ds[i]? = some d->Same H H1->(∀ H2,Same H1 H2->Q1 (f d) H2)->tc [some x] H1 Q1 E)
  (hd:∀ H' ys,Same H H'->H' L=some (.lst ys)->ys.length=(ds.filter f).length->R H'):Vh J (gdN 0) tc (Ac 0) L R σ (upd H L (.lst [])) E:=by
 refine Hw Y (fun i σ' H'=>σ'.length=1/\Same H H' /\ ∃ ys,H' L=some (.lst ys)/\ys.length=((ds.take i).filter f).length/\ys.length<=i) ⟨hσ,Same.upd hL,[],Af,rfl,ae _⟩ (fun i σ' H' _ q=>hok H' q.2.1) ?_ ?_
 ·rintro i x σ' H' hx ⟨q1,q2,ys,q3,q4,q5⟩
  have hi:i<its.length:=(List.getElem?_eq_some_iff.mp hx).1
  have ed:=a9 (show i<ds.length by omega)
  match σ',q1 with
  | [v],_=>
   refine he i x _ H' _ hx ed q2 fun H2 S2=>?_
   have tk:(ds.take (i+1)).filter f=(ds.take i).filter f++(if f ds[i]=true then [ds[i]] else []):=by
    rw [List.take_add_one,ed,List.filter_append]
    congr 1
    show List.filter f [ds[i]]=_
    rw [List.filter_cons]
    rfl
   refine A2 (c:=f ds[i]=true) (fun e=>?_) (fun e=>?_)
   ·refine⟨ys,S2 _ _ q3,by omega,rfl,(q2.trans S2).set hL,ys++[x],Af,?_,by rw [aq];simp;omega⟩
    rw [tk,if_pos e,aq,aq,q4]
    rfl
   ·refine⟨rfl,q2.trans S2,ys,S2 _ _ q3,?_,by omega⟩
    rw [tk,if_neg e,eW]
    exact q4
 ·rintro σ' H' ⟨_,q2,ys,q3,q4,_⟩
  refine hd H' ys q2 q3 ?_
  rw [q4,hl,List.take_length]
theorem Go {α:Type} {ds:List α} {f g:α->Bool} (h:∀ d∈ds,f d = !g d) {n:Nat} (hn:n=(ds.filter f).length):decide ((n:Int)=0)=ds.all g:=by
 subst hn
 rw [cK,decide_eq_true_iff,aW]
 constructor
 ·intro e d hd
  have:(ds.filter f).length=0:=by omega
  have:=List.eq_nil_of_length_eq_zero this
  have:=List.filter_eq_nil_iff.mp this d hd
  rw [h d hd] at this
  simpa using this
 ·intro e
  have:ds.filter f=[]:=List.filter_eq_nil_iff.mpr fun d hd=>by rw [h d hd,e d hd];decide
  rw [this]
  rfl
noncomputable def alpha:Str := "abcdefghijklmnopqrstuvwxyz0123456789."
theorem ak1:∀ c,c<128->decide (c∈alpha.cps.toList)=Dg c:=by decide +kernel
theorem ak0:∀ c∈alpha.cps.toList,c<128:=by decide +kernel
theorem O7 (c:Nat):decide (c∈alpha.cps.toList)=Dg c:=by
 by_cases h:c<128
 ·exact ak1 c h
 ·rw [decide_eq_false (fun hc=>h (ak0 c hc))]
  unfold Dg Ev V4
  symm
  simp
  omega
theorem b10 {f:Addr} {fd:ai} (Z:Al K t) (F:FunD K "_law_is_name" "_law_is_name" Se f fd .none) (T:Tab P w K mg base 0 (A8 K t) bl):FnOk P w K mg base CX0 1 f fd Yv (Ly K t):=by
 refine F.okW0 b88 cg9 T (b61 K t) (fun vs H Q E h=>?_) (fun vs H Q E h=>?_)
 ·obtain⟨x,o,rfl,_⟩:=h;rfl
 ·obtain⟨x,o,rfl,hx,hs,k⟩:=h
  dsimp only [ce6]
  refine M8 (T := "str") (i:=0) (x:=x) rfl ?_
  cases ho:A7 o with
  | none=>
   have:nmO o=false:=by unfold nmO;rw [ho];rfl
   rw [this] at k
   exact isS hx ho (k H (Same.refl _))
  | some z=>
   obtain⟨rfl,rfl⟩:=Dn hx ho
   have k:∀ H',Same H H'->Q (.bl (Ck 1 12 z&&z.cps.toList.all Dg)) H':=k
   have lz:=Km hs
   have lz2:z.length<=sizeLine:=aM lz (by decide)
   have e:(decide (1<=(z.length:Int))&&decide ((z.length:Int)<=12))=Ck 1 12 z:=by
    unfold Ck
    congr 1 <;> exact decide_eq_decide.mpr (by omega)
   have no:Ck 1 12 z=false->Q (.bl false) H:=fun h=>by rw [h,aR] at k;exact k H (Same.refl _)
   refine⟨rfl,lz2,A2 (c:=decide (1<=(z.length:Int))=true) (fun e1=>A2 (c:=(!decide ((z.length:Int)<=12))=true) (fun e2=>?_) (fun e2=>?_)) (fun e1=>?_)⟩
   ·exact no (by rw [<- e,e1,av];simpa using e2)
   ·have h1:Ck 1 12 z=true:=by rw [<- e,e1,av];simpa using e2
    rw [h1,av] at k
    refine fun D hD=>Mi (ds:=z.cps.toList) (f:=fun c=>!Dg c) (Tn z) hD (fun _ _=>bn) ?_ ?_ rfl ?_ ?_
    ·unfold Ce
     rw [aH,Hn]
     exact cz lz (by decide)
    ·unfold Ce
     rw [aH]
    ·intro i x c H1 Q1 hx hd S hk
     unfold Ce at hx
     rw [bD,hd] at hx
     cases hx
     have h:=StrLaws.found_one alpha c
     rw [O7] at h
     show Q1 (!(!(cj alpha ⟨#[c]⟩ 0 alpha.length 1).isEmpty)) H1
     rw [h]
     exact hk H1 (Same.refl _)
    ·intro H' ys S ey hy
     refine .inl ⟨ys,.inl (SqL.of ey),?_⟩
     show Q (.bl (decide ((ys.length:Int)=0))) H'
     rw [Go (g:=Dg) (fun _ _=>rfl) hy]
     exact k H' S
   ·exact no (by rw [<- e,show decide (1<=(z.length:Int))=false by simpa using e1,aR])
theorem b11 {f:Addr} {fd:ai} (Z:Al K t) (F:FunD K "_law_is_text" "_law_is_text" Sf f fd .none) (T:Tab P w K mg base 0 (A8 K t) bl):FnOk P w K mg base CX0 1 f fd Yw (Kk K t):=by
 refine F.okW0 b89 ch0 T (b62 K t) (fun vs H Q E h=>?_) (fun vs H Q E h=>?_)
 ·obtain⟨x,o,rfl,_⟩:=h;rfl
 ·obtain⟨x,o,rfl,hx,hs,k⟩:=h
  dsimp only [ce7]
  refine M8 (T := "str") (i:=0) (x:=x) rfl ?_
  cases ho:A7 o with
  | none=>
   have:txO o=false:=by unfold txO;rw [ho];rfl
   rw [this] at k
   exact isS hx ho (k H (Same.refl _))
  | some z=>
   obtain⟨rfl,rfl⟩:=Dn hx ho
   have k:∀ H',Same H H'->Q (.bl (Ck 0 60 z&&z.cps.toList.all B5)) H':=k
   have lz:=Km hs
   have lz2:z.length<=sizeLine:=aM lz (by decide)
   refine⟨rfl,lz2,A2 (c:=decide ((60:Int)<(z.length:Int))=true) (fun e1=>?_) (fun e1=>?_)⟩
   ·have h1:Ck 0 60 z=false:=by
     have:(60:Int)<(z.length:Int):=of_decide_eq_true e1
     unfold Ck
     rw [decide_eq_false (show ¬ z.length<=60 by omega),b9]
    rw [h1,aR] at k
    exact k H (Same.refl _)
   ·have h1:Ck 0 60 z=true:=by
     have:¬ (60:Int)<(z.length:Int):=fun h=>e1 (decide_eq_true h)
     unfold Ck
     rw [decide_eq_true (show 0<=z.length by omega),decide_eq_true (show z.length<=60 by omega)]
     rfl
    rw [h1,av] at k
    refine fun D hD=>Mi (ds:=z.cps.toList) (f:=fun c=>!B5 c) (Tn z) hD (fun _ _=>bn) ?_ ?_ rfl ?_ ?_
    ·unfold Ce
     rw [aH,Hn]
     exact cz lz (by decide)
    ·unfold Ce
     rw [aH]
    ·intro i x c H1 Q1 hx hd S hk
     unfold Ce at hx
     rw [bD,hd] at hx
     cases hx
     have hk:=hk H1 (Same.refl _)
     refine⟨rfl,A2 (c:=decide ((32:Int)<=((c:Nat):Int))=true) (fun a1=>A2 (c:=(!decide (((c:Nat):Int)<=126))=true) (fun a2=>?_) (fun a2=>?_)) (fun a1=>?_)⟩
     ·have n2:¬ c<=126:=fun h=>by rw [decide_eq_true (show ((c:Nat):Int)<=126 by omega)] at a2;cases a2
      have tc:B5 c=false:=by unfold B5;rw [decide_eq_false n2];simp
      rw [tc] at hk
      exact hk
     ·have p1:32<=c:=by have:=of_decide_eq_true a1;omega
      have p2:c<=126:=by
       have:((c:Nat):Int)<=126:=by simpa using a2
       omega
      refine⟨rfl,?_⟩
      show Q1 (decide (((c:Nat):Int)=37)) H1
      have tc:(!B5 c)=decide (((c:Nat):Int)=37):=by
       unfold B5
       rw [decide_eq_true p1,decide_eq_true p2]
       by_cases h:c=37
       ·subst h;rfl
       ·rw [decide_eq_false (by omega)]
        simp [h]
      rw [<- tc]
      exact hk
     ·have n1:¬ 32<=c:=fun h=>a1 (decide_eq_true (by omega))
      have tc:B5 c=false:=by unfold B5;rw [decide_eq_false n1];rfl
      rw [tc] at hk
      exact hk
    ·intro H' ys S ey hy
     refine .inl ⟨ys,.inl (SqL.of ey),?_⟩
     show Q (.bl (decide ((ys.length:Int)=0))) H'
     rw [Go (g:=B5) (fun _ _=>rfl) hy]
     exact k H' S
theorem b00 {f:Addr} {fd:ai} (Z:Al K t) (F:FunD K "_law_is_cells" "_law_is_cells" R0 f fd .none) (T:Tab P w K mg base 1 (E3 K t) bl):FnOk P w K mg base CX0 2 f fd Yl (Vb K t):=by
 refine F.okW0 b78 cf9 T (b51 K t) (fun vs H Q E h=>?_) (fun vs H Q E h=>?_)
 ·obtain⟨x,o,rfl,_⟩:=h;rfl
 ·obtain⟨x,o,rfl,hx,hs,k⟩:=h
  dsimp only [ce5]
  refine M8 (T := "tuple") (i:=0) (x:=x) rfl ?_
  match o,hx,hs,k with
  | none,hx,hs,k=>exact isT hx (fun ds=>by simp) (k H (Same.refl _))
  | some (.lst l),hx,hs,k=>exact isT hx (fun ds=>by simp) (k H (Same.refl _))
  | some (.at_ v),hx,hs,k=>exact isT hx (fun ds=>by simp) (k H (Same.refl _))
  | some (.tup ds),hx,hs,k=>
   obtain⟨a,xs,rfl,q,g⟩:=B0 (show At K H (.tup ds) x from hx)
   have k:∀ H',Same H H'->Q (.bl (in6 ds.length&&ds.all fun d=>txO (some d))) H':=k
   have gl:=g.length
   have no:in6 ds.length=false->Q (.bl false) H:=fun h=>by rw [h,aR] at k;exact k H (Same.refl _)
   have e:=a49 ds.length
   rw [<- gl] at e
   refine⟨.type "tuple", true,.sqT rfl q rfl,rfl,.inl ⟨xs,.inr q,A2 (c:=decide (1<=(xs.length:Int))=true) (fun e1=>A2 (c:=(!decide ((xs.length:Int)<=6))=true) (fun e2=>?_) (fun e2=>?_)) (fun e1=>?_)⟩⟩
   ·exact no (by rw [<- gl,<- e,e1,av];simpa using e2)
   ·have h1:in6 ds.length=true:=by rw [<- gl,<- e,e1,av];simpa using e2
    rw [h1,av] at k
    have e6:=in6_iff.mp h1
    refine .inr (.inl ⟨⟨_,q⟩,?_⟩)
    refine fun D hD=>Mi (ds:=ds) (f:=fun d=>!txO (some d)) (Kq xs) hD (fun H1 S=>S.seqT q) ?_ gl rfl ?_ ?_
    ·rw [gl];exact cz e6.2 (by decide)
    ·intro i y d H1 Q1 hy hd S hk
     obtain⟨y',hy',ha⟩:=Dx g hd
     rw [hy] at hy'
     cases hy'
     exact⟨y,some d,rfl,Hv S ha,(Nu hs).2 d (bB hd),fun H2 S2=>hk H2 S2⟩
    ·intro H' ys S ey hy
     refine .inl ⟨ys,.inl (SqL.of ey),?_⟩
     show Q (.bl (decide ((ys.length:Int)=0))) H'
     rw [Go (g:=fun d=>txO (some d)) (fun _ _=>rfl) hy]
     exact k H' S
   ·exact no (by rw [<- gl,<- e,show decide (1<=(xs.length:Int))=false by simpa using e1,aR])
theorem Dw {H:Hp} {o:Th} {x:V} {s:Str} {Q:VK} {neg:Bool} (hx:AtO K H o x) (st:stO o) (k:Q (.bl (if neg then !decide (A7 o=some s) else decide (A7 o=some s))) H):Aw K neg x (.str s) H Q:=by
 match o,hx,st,k with
 | none,hx,st,k=>
  obtain⟨a,rfl,e⟩:=hx
  refine .inr ⟨a,[],s,rfl,.inl e,rfl,?_⟩
  cases neg <;> exact k
 | some (.lst l),hx,st,k=>
  have h:=hx
  have hx:At K H (.lst l) x:=hx
  unfold At at hx
  obtain⟨a,xs,rfl,q,_⟩:=hx
  refine .inl ⟨.lst l,A0 s,h,B6,by have:=st.2;omega,?_⟩
  have e:deq (.lst l) (A0 s)=false:=by unfold A0 deq;rfl
  rw [e]
  exact k
 | some (.tup l),hx,st,k=>
  obtain⟨a,xs,rfl,q,_⟩:=B0 (show At K H (.tup l) x from hx)
  refine .inl ⟨.tup l,A0 s,hx,B6,by have:=st.2;omega,?_⟩
  have e:deq (.tup l) (A0 s)=false:=by unfold A0 deq;rfl
  rw [e]
  exact k
 | some (.at_ v),hx,st,k=>
  have hx:At K H (.at_ v) x:=hx
  unfold At at hx
  obtain⟨rfl,f⟩:=hx
  cases x with
  | str z=>
   have e:decide (A7 (some (.at_ (.str z)))=some s)=decide (z=s):=decide_eq_decide.mpr ⟨fun h=>aN h,fun h=>by rw [h];rfl⟩
   rw [e] at k
   exact k
  | int i=>exact⟨rfl,k⟩
  | bl b=>exact⟨rfl,k⟩
  | non=>exact⟨rfl,k⟩
  | _=>cases f
theorem a36 {H:Hp} {o:Th} {x:V} {s:Str} {i j:Nat} {σ:St} {u v R:DS} {D:Cy} (hv:σ[i]? = some (some x)) (hw:σ[j]? = some (some (.str s))) (hx:AtO K H o x) (st:stO o) (h1:A7 o=some s->u { D with nx:=R D } σ H) (h0:A7 o≠some s->v { D with nx:=R D } σ H):Ag (dIf (Az (Ad (Aw K false) (Ac i) (Ac j))) u v) R D σ H:=by
 show Ac i σ H (fun x H1=>Ac j σ H1 (fun y H2=>Aw K false x y H2 fun b H3=>match b with
  | .bl k=>if k=true then u { D with nx:=R D } σ H3 else v { D with nx:=R D } σ H3
  | _=>False) (D.ex σ)) (D.ex σ)
 unfold Ac
 rw [hv,hw]
 refine Dw hx st ?_
 by_cases h:A7 o=some s
 ·rw [decide_eq_true h];exact E4 (h1 h)
 ·rw [decide_eq_false h];exact D9 (h0 h)
noncomputable def bv9:List (Str×Int):=[("put", 6),("write", 3),("splice", 5),("cell", 5),("addrow", 4),("cutrow", 3),("cut", 2),("move", 4),("wrap", 4)]
theorem ak7:∀ i,i<9->bv9[i]? = some (wd i,(ar i:Int)+1):=by decide +kernel
noncomputable def CtL (K:aa) (H:Hp):List (Str×Int)->List V->Prop
 | [],xs=>xs=[]
 | c::cs,xs=>∃ a ys,xs=.ref a::ys/\SqT K H a [.str c.1,.int c.2]/\CtL K H cs ys
theorem CtL.get {H:Hp}:∀ {cs:List (Str×Int)} {xs:List V} {i:Nat} {x:V},CtL K H cs xs->xs[i]? = some x -> ∃ a c,x=.ref a/\cs[i]? = some c/\SqT K H a [.str c.1,.int c.2]
 | [],xs,i,x,h,e=>by rw [show xs=[] from h] at e;simp at e
 | c::cs,xs,0,x,h,e=>by
  obtain⟨a,ys,rfl,q,g⟩:=h
  cases e
  exact⟨a,c,rfl,rfl,q⟩
 | c::cs,xs,i+1,x,h,e=>by
  obtain⟨a,ys,rfl,q,g⟩:=h
  exact CtL.get (i:=i) g (by simpa using e)
theorem CtL.len {H:Hp}:∀ {cs:List (Str×Int)} {xs:List V},CtL K H cs xs->xs.length=cs.length
 | [],xs,h=>by rw [show xs=[] from h];rfl
 | c::cs,xs,h=>by
  obtain⟨a,ys,rfl,q,g⟩:=h
  rw [ax,ax,g.len]
theorem ak6 {o:Th} (h:∀ j,j<9->A7 o≠some (wd j)):G8 o = -1:=by
 unfold G8
 cases ho:A7 o with
 | none=>rfl
 | some z=>
  dsimp only
  split
  ·rename_i hi
   exact (h _ hi (by rw [ho,<- Tm hi])).elim
  ·rfl
theorem a27 {o:Th} {i:Nat} (hi:i<9) (h:A7 o=some (wd i)):G8 o=(ar i:Int)+1:=by
 unfold G8
 rw [h]
 dsimp only
 rw [Mx i hi,if_pos hi]
theorem a72 {f:Addr} {fd:ai} (Z:Al K t) (F:FunD K "_law_count" "_law_count" Jo f fd .none) (T:Tab P w K mg base 0 (A8 K t) bl):FnOk P w K mg base CX0 1 f fd Ob (Kj K t):=by
 refine F.okW0 bm6 bs0 T (bi3 K t) (fun vs H Q E h=>?_) (fun vs H Q E h=>?_)
 ·obtain⟨x,o,rfl,_⟩:=h;rfl
 ·obtain⟨x,o,rfl,hx,hs,k⟩:=h
  refine⟨(show 2<=sizeLine by decide),fun p1 h1=>?_⟩
  have s1:=Same.upd (o:=.tup [.str "put", .int 6]) h1
  have q1:SqT K (upd H p1 (.tup [.str "put", .int 6])) p1 [.str "put", .int 6]:=SqT.of Af
  generalize upd H p1 (.tup [.str "put", .int 6])=H1 at s1 q1 ⊢
  refine⟨(show 2<=sizeLine by decide),fun p2 h2=>?_⟩
  have s2:=Same.upd (o:=.tup [.str "write", .int 3]) h2
  have q2:SqT K (upd H1 p2 (.tup [.str "write", .int 3])) p2 [.str "write", .int 3]:=SqT.of Af
  generalize upd H1 p2 (.tup [.str "write", .int 3])=H2 at s2 q2 ⊢
  refine⟨(show 2<=sizeLine by decide),fun p3 h3=>?_⟩
  have s3:=Same.upd (o:=.tup [.str "splice", .int 5]) h3
  have q3:SqT K (upd H2 p3 (.tup [.str "splice", .int 5])) p3 [.str "splice", .int 5]:=SqT.of Af
  generalize upd H2 p3 (.tup [.str "splice", .int 5])=H3 at s3 q3 ⊢
  refine⟨(show 2<=sizeLine by decide),fun p4 h4=>?_⟩
  have s4:=Same.upd (o:=.tup [.str "cell", .int 5]) h4
  have q4:SqT K (upd H3 p4 (.tup [.str "cell", .int 5])) p4 [.str "cell", .int 5]:=SqT.of Af
  generalize upd H3 p4 (.tup [.str "cell", .int 5])=H4 at s4 q4 ⊢
  refine⟨(show 2<=sizeLine by decide),fun p5 h5=>?_⟩
  have s5:=Same.upd (o:=.tup [.str "addrow", .int 4]) h5
  have q5:SqT K (upd H4 p5 (.tup [.str "addrow", .int 4])) p5 [.str "addrow", .int 4]:=SqT.of Af
  generalize upd H4 p5 (.tup [.str "addrow", .int 4])=H5 at s5 q5 ⊢
  refine⟨(show 2<=sizeLine by decide),fun p6 h6=>?_⟩
  have s6:=Same.upd (o:=.tup [.str "cutrow", .int 3]) h6
  have q6:SqT K (upd H5 p6 (.tup [.str "cutrow", .int 3])) p6 [.str "cutrow", .int 3]:=SqT.of Af
  generalize upd H5 p6 (.tup [.str "cutrow", .int 3])=H6 at s6 q6 ⊢
  refine⟨(show 2<=sizeLine by decide),fun p7 h7=>?_⟩
  have s7:=Same.upd (o:=.tup [.str "cut", .int 2]) h7
  have q7:SqT K (upd H6 p7 (.tup [.str "cut", .int 2])) p7 [.str "cut", .int 2]:=SqT.of Af
  generalize upd H6 p7 (.tup [.str "cut", .int 2])=H7 at s7 q7 ⊢
  refine⟨(show 7<=sizeLine by decide),fun l hl=>?_⟩
  have sl:=Same.upd (o:=.lst [.ref p1,.ref p2,.ref p3,.ref p4,.ref p5,.ref p6,.ref p7]) hl
  have el:upd H7 l (.lst [.ref p1,.ref p2,.ref p3,.ref p4,.ref p5,.ref p6,.ref p7]) l=some (.lst [.ref p1,.ref p2,.ref p3,.ref p4,.ref p5,.ref p6,.ref p7]):=Af
  generalize upd H7 l (.lst [.ref p1,.ref p2,.ref p3,.ref p4,.ref p5,.ref p6,.ref p7])=HL at sl el ⊢
  refine⟨(show 2<=sizeLine by decide),fun p8 h8=>?_⟩
  have s8:=Same.upd (o:=.tup [.str "move", .int 4]) h8
  have q8:SqT K (upd HL p8 (.tup [.str "move", .int 4])) p8 [.str "move", .int 4]:=SqT.of Af
  generalize upd HL p8 (.tup [.str "move", .int 4])=H8 at s8 q8 ⊢
  refine⟨(show 2<=sizeLine by decide),fun p9 h9=>?_⟩
  have s9:=Same.upd (o:=.tup [.str "wrap", .int 4]) h9
  have q9:SqT K (upd H8 p9 (.tup [.str "wrap", .int 4])) p9 [.str "wrap", .int 4]:=SqT.of Af
  generalize upd H8 p9 (.tup [.str "wrap", .int 4])=H9 at s9 q9 ⊢
  refine⟨(show 2<=sizeLine by decide),fun m hm=>?_⟩
  have sm:=Same.upd (o:=.lst [.ref p8,.ref p9]) hm
  have em:upd H9 m (.lst [.ref p8,.ref p9]) m=some (.lst [.ref p8,.ref p9]):=Af
  generalize upd H9 m (.lst [.ref p8,.ref p9])=HM at sm em ⊢
  have SL:=(s8.trans s9).trans sm
  refine .inl ⟨l,m,_,_,rfl,rfl,SL _ _ el,em,(show 9<=sizeLine by decide),fun r hr=>?_⟩
  have sr:=Same.upd (o:=.lst ([.ref p1,.ref p2,.ref p3,.ref p4,.ref p5,.ref p6,.ref p7]++[.ref p8,.ref p9])) hr
  have er:upd HM r (.lst ([.ref p1,.ref p2,.ref p3,.ref p4,.ref p5,.ref p6,.ref p7]++[.ref p8,.ref p9])) r=some (.lst ([.ref p1,.ref p2,.ref p3,.ref p4,.ref p5,.ref p6,.ref p7]++[.ref p8,.ref p9])):=Af
  generalize upd HM r (.lst ([.ref p1,.ref p2,.ref p3,.ref p4,.ref p5,.ref p6,.ref p7]++[.ref p8,.ref p9]))=HR at sr er ⊢
  have u9:=sm.trans sr
  have u8:=s9.trans u9
  have uL:=s8.trans u8
  have u7:=sl.trans uL
  have u6:=s7.trans u7
  have u5:=s6.trans u6
  have u4:=s5.trans u5
  have u3:=s4.trans u4
  have u2:=s3.trans u3
  have u1:=s2.trans u2
  have S:=s1.trans u1
  have g:CtL K HR bv9 ([.ref p1,.ref p2,.ref p3,.ref p4,.ref p5,.ref p6,.ref p7]++[.ref p8,.ref p9]):=⟨p1,_,rfl,u1.seqT q1,⟨p2,_,rfl,u2.seqT q2,⟨p3,_,rfl,u3.seqT q3,⟨p4,_,rfl,u4.seqT q4,⟨p5,_,rfl,u5.seqT q5,⟨p6,_,rfl,u6.seqT q6,⟨p7,_,rfl,u7.seqT q7,⟨p8,_,rfl,u8.seqT q8,⟨p9,_,rfl,u9.seqT q9,rfl⟩⟩⟩⟩⟩⟩⟩⟩⟩
  generalize ([.ref p1,.ref p2,.ref p3,.ref p4,.ref p5,.ref p6,.ref p7]++[.ref p8,.ref p9]:List V)=xs at er g ⊢
  have gl:xs.length=9:=g.len
  refine .inl ⟨⟨_,SqL.of er⟩,Fa (Nw xs) (fun i σ H'=>H'=HR/\(∃ v2 v3,σ=[some x,some (.ref l),v2,v3]) /\ ∀ j,j<i->A7 o≠some (wd j)) ⟨rfl,⟨_,_,rfl⟩,fun j hj=>by omega⟩ (fun i σ H' _ q=>q.1▸SqL.of er) ?_ ?_⟩
  ·rintro i y σ H' hy ⟨rfl,⟨v2,v3,rfl⟩,hn⟩
   have hi:i<9:=by have:=(List.getElem?_eq_some_iff.mp hy).1;omega
   obtain⟨a,c,rfl,hc,q⟩:=g.get hy
   rw [ak7 i hi] at hc
   cases hc
   refine⟨_,q,rfl,?_⟩
   dsimp only [gdS,gdN]
   refine a36 (i:=0) (j:=2) (x:=x) (s:=wd i) rfl rfl (Ao S hx) hs (fun h=>?_) (fun h=>?_)
   ·rw [a27 hi h] at k
    exact k _ S
   ·exact⟨rfl,⟨_,_,rfl⟩,fun j hj=>by
     by_cases e:j=i
     ·subst e;exact h
     ·exact hn j (by omega)⟩
  ·rintro σ H' ⟨rfl,⟨v2,v3,rfl⟩,hn⟩
   rw [ak6 (fun j hj=>hn j (by omega))] at k
   exact .inl (k _ S)
theorem a35 {H:Hp} {o:Th} {x:V} {s1 s2:Str} {i:Nat} {σ:St} {u v R:DS} {D:Cy} (hv:σ[i]? = some (some x)) (hx:AtO K H o x) (st:stO o) (h1:A7 o=some s1\/A7 o=some s2->u { D with nx:=R D } σ H) (h0:A7 o≠some s1->A7 o≠some s2->v { D with nx:=R D } σ H) :
  Ag (dIf (dOr (Az (Ad (Aw K false) (Ac i) (dC (.str s1)))) (Az (Ad (Aw K false) (Ac i) (dC (.str s2))))) u v) R D σ H:=by
 show Ac i σ H (fun x H1=>Aw K false x (.str s1) H1 fun b H3=>match b with
  | .bl k=>if k=true then (if true=true then u { D with nx:=R D } σ H3 else v { D with nx:=R D } σ H3) else Ac i σ H3 (fun x H4=>Aw K false x (.str s2) H4 fun b H5=>match b with
   | .bl k=>if k=true then u { D with nx:=R D } σ H5 else v { D with nx:=R D } σ H5
   | _=>False) (D.ex σ)
  | _=>False) (D.ex σ)
 unfold Ac
 rw [hv]
 refine Dw hx st ?_
 by_cases e1:A7 o=some s1
 ·rw [decide_eq_true e1];exact E4 (E4 (h1 (.inl e1)))
 ·rw [decide_eq_false e1]
  refine D9 ?_
  dsimp only
  refine Dw hx st ?_
  by_cases e2:A7 o=some s2
  ·rw [decide_eq_true e2];exact E4 (h1 (.inr e2))
  ·rw [decide_eq_false e2];exact D9 (h0 e1 e2)
theorem bz2 {H:Hp} {o:Th} {x:V} {s:Str} {i:Nat} {σ:St} {t2:DT} {u v R:DS} {D:Cy} (hv:σ[i]? = some (some x)) (hx:AtO K H o x) (st:stO o) (h1:A7 o≠some s->u { D with nx:=R D } σ H) (h0:A7 o=some s->t2 σ H (fun b H3=>if b=true then u { D with nx:=R D } σ H3 else v { D with nx:=R D } σ H3) (D.ex σ)) :
  Ag (dIf (dOr (Az (Ad (Aw K true) (Ac i) (dC (.str s)))) t2) u v) R D σ H:=by
 show Ac i σ H (fun x H1=>Aw K true x (.str s) H1 fun b H3=>match b with
  | .bl k=>if k=true then (if true=true then u { D with nx:=R D } σ H3 else v { D with nx:=R D } σ H3) else t2 σ H3 (fun b H3=>if b=true then u { D with nx:=R D } σ H3 else v { D with nx:=R D } σ H3) (D.ex σ)
  | _=>False) (D.ex σ)
 unfold Ac
 rw [hv]
 refine Dw hx st ?_
 by_cases e:A7 o=some s
 ·rw [decide_eq_true e];exact D9 (h0 e)
 ·rw [decide_eq_false e];exact E4 (E4 (h1 e))
theorem an5 {H:Hp} {x:V} {i:Nat} {σ:St} {T:String} {t2:DT} {Q:Bool->Hp->Prop} {E:EK} (hv:σ[i]? = some (some x)) (h:Bs K [x,.ty T] H fun y H1=>Gw K y H1 fun k H2=>if (!k)=true then Q true H2 else t2 σ H2 Q E) :
  dOr (Cj (B8 K (dFn (fun vs H Q _=>(Bs K) vs H Q) (Aa (Ac i) (Aa (dC (.ty T)) Ae))))) t2 σ H Q E:=by
 show Ac i σ H (fun x H1=>Bs K [x,.ty T] H1 fun y H1=>Gw K y H1 fun k H2=>if (!k)=true then Q true H2 else t2 σ H2 Q E) E
 unfold Ac
 rw [hv]
 exact h
theorem Zj {k o:Th} (h:A7 k=some ("chapter" : Str)\/A7 k=some ("para" : Str)):(kdO k&&By k o)=txO o:=by
 rcases h with h|h
 ·unfold kdO By;rw [h];rfl
 ·unfold kdO By;rw [h];rfl
theorem al2 {k o:Th} (h1:A7 k≠some ("chapter" : Str)) (h2:A7 k≠some ("para" : Str)) (h3:A7 k≠some ("table" : Str)):(kdO k&&By k o)=false:=by
 have:kdO k=false:=by
  unfold kdO
  cases hk:A7 k with
  | none=>rfl
  | some z=>
   show kdS z=false
   unfold kdS
   rw [decide_eq_false (fun e=>h1 (by rw [hk,e])),decide_eq_false (fun e=>h2 (by rw [hk,e])),decide_eq_false (fun e=>h3 (by rw [hk,e]))]
   rfl
 rw [this,aR]
theorem Zi {k o:Th} (h:A7 k=some ("table" : Str)):(kdO k&&By k o)=V5 o:=by
 unfold kdO By;rw [h];rfl
theorem a81 {f:Addr} {fd:ai} (Z:Al K t) (F:FunD K "_law_fits" "_law_fits" Jx f fd .none) (T:Tab P w K mg base 2 (G9 K t) bl):FnOk P w K mg base CX0 3 f fd Ol (Sz K t):=by
 refine F.okW0 bn5 bs9 T (bj2 K t) (fun vs H Q E h=>?_) (fun vs H Q E h=>?_)
 ·obtain⟨x,y,k,o,rfl,_⟩:=h;rfl
 ·obtain⟨x,y,k0,o,rfl,hx,hy,sk,so,k⟩:=h
  dsimp only [ay0]
  refine a35 (i:=0) (x:=x) (s1 := "chapter") (s2 := "para") rfl hx sk (fun h=>?_) (fun n1 n2=>?_)
  ·rw [Zj h] at k
   exact⟨y,o,rfl,hy,so,k⟩
  ·dsimp only [Ah]
   refine bz2 (i:=0) (x:=x) (s := "table") rfl hx sk (fun h=>?_) (fun h=>?_)
   ·rw [al2 n1 n2 h] at k
    exact k H (Same.refl _)
   ·rw [Zi h] at k
    refine an5 (i:=1) (x:=y) (T := "tuple") rfl ?_
    match o,hy,so,k with
    | none,hy,so,k=>exact isT hy (fun ds=>by simp) (k H (Same.refl _))
    | some (.lst l),hy,so,k=>exact isT hy (fun ds=>by simp) (k H (Same.refl _))
    | some (.at_ v),hy,so,k=>exact isT hy (fun ds=>by simp) (k H (Same.refl _))
    | some (.tup ds),hy,so,k=>
     obtain⟨a,xs,rfl,q,g⟩:=B0 (show At K H (.tup ds) y from hy)
     have k:∀ H',Same H H'->Q (.bl (in6 ds.length&&(ds.all rwD&&ds.all fun d=>decide (C3 d=C3 (ds.headD (.tup [])))))) H':=k
     have gl:=g.length
     have no:in6 ds.length=false->Q (.bl false) H:=fun h=>by rw [h,aR] at k;exact k H (Same.refl _)
     have e:=a49 ds.length
     rw [<- gl] at e
     refine⟨.type "tuple", true,.sqT rfl q rfl,rfl,.inl ⟨xs,.inr q,A2 (c:=decide (1<=(xs.length:Int))=true) (fun e1=>A2 (c:=(!decide ((xs.length:Int)<=6))=true) (fun e2=>?_) (fun e2=>?_)) (fun e1=>?_)⟩⟩
     ·exact no (by rw [<- gl,<- e,e1,av];simpa using e2)
     ·have h1:in6 ds.length=true:=by rw [<- gl,<- e,e1,av];simpa using e2
      rw [h1,av] at k
      have e6:=in6_iff.mp h1
      have h0:ds[0]? = some (ds.headD (.tup [])):=by
       cases ds with
       | nil=>exact absurd e6.1 (by decide)
       | cons d ds=>rfl
      refine .inr (.inl ⟨⟨_,q⟩,Fa (Kq xs) (fun i σ H'=>(∃ v,σ=[some x,some (.ref a),v])/\Same H H' /\ ∀ (j:Nat) d,j<i->ds[j]? = some d->rwD d=true/\C3 d=C3 (ds.headD (.tup []))) ⟨⟨_,rfl⟩,Same.refl _,fun j d hj=>by omega⟩ (fun i σ H' _ h=>h.2.1.seqT q) ?_ ?_⟩)
      ·rintro i y σ H1 hy1 ⟨⟨v,rfl⟩,S1,hn⟩
       have hi:i<ds.length:=by have:=(List.getElem?_eq_some_iff.mp hy1).1;omega
       have ed:=a9 hi
       obtain⟨y',hy',ha⟩:=Dx g ed
       rw [hy1] at hy'
       cases hy'
       refine⟨y,some ds[i],rfl,Hv S1 ha,(Nu so).2 _ (bW hi),fun H2 S2=>?_⟩
       have S12:=S1.trans S2
       refine A2 (c:=(!rwD ds[i])=true) (fun e3=>?_) (fun e3=>?_)
       ·have e3:rwD ds[i]=false:=by simpa using e3
        have:ds.all rwD=false:=List.all_eq_false.mpr ⟨_,bW hi,by rw [e3];decide⟩
        rw [this,aR] at k
        exact k H2 S12
       ·have e3:rwD ds[i]=true:=by simpa using e3
        obtain⟨b,zs,rfl,qb,lb⟩:=Rs ha e3
        have hd0:rwD (ds.headD (.tup []))=true:=by
         by_cases i0:i=0
         ·subst i0
          rw [ed] at h0
          rw [<- aN h0]
          exact e3
         ·exact (hn 0 _ (by omega) h0).1
        obtain⟨y0,hy0,ha0⟩:=Dx g h0
        obtain⟨b0,zs0,rfl,qb0,lb0⟩:=Rs ha0 hd0
        refine .inl ⟨zs,.inr (S12.seqT qb),_,_,.inr (S12.seqT q),Bg (i:=0) hy0,.inl ⟨zs0,.inr (S12.seqT qb0),?_⟩⟩
        refine A2 (c:=(!decide ((zs.length:Int)=(zs0.length:Int)))=true) (fun e4=>?_) (fun e4=>?_)
        ·have e4:¬ C3 ds[i]=C3 (ds.headD (.tup [])):=fun h=>by
          rw [decide_eq_true (show (zs.length:Int)=(zs0.length:Int) by omega)] at e4
          cases e4
         have:(ds.all fun d=>decide (C3 d=C3 (ds.headD (.tup []))))=false:=List.all_eq_false.mpr ⟨_,bW hi,by rw [decide_eq_false e4];decide⟩
         rw [this,b9] at k
         exact k H2 S12
        ·have e4:(zs.length:Int)=(zs0.length:Int):=by simpa using e4
         refine⟨⟨_,rfl⟩,S12,fun j d hj hd=>?_⟩
         by_cases e5:j=i
         ·subst e5
          rw [ed] at hd
          cases hd
          exact⟨e3,by omega⟩
         ·exact hn j d (by omega) hd
      ·rintro σ H1 ⟨⟨v,rfl⟩,S1,hn⟩
       have a1:ds.all rwD=true:=List.all_eq_true.mpr fun d hd=>by
        obtain⟨j,hj⟩:=List.mem_iff_getElem?.mp hd
        have:=(List.getElem?_eq_some_iff.mp hj).1
        exact (hn j d (by omega) hj).1
       have a2:(ds.all fun d=>decide (C3 d=C3 (ds.headD (.tup []))))=true:=List.all_eq_true.mpr fun d hd=>by
        obtain⟨j,hj⟩:=List.mem_iff_getElem?.mp hd
        have:=(List.getElem?_eq_some_iff.mp hj).1
        exact decide_eq_true (hn j d (by omega) hj).2
       rw [a1,a2] at k
       exact .inl (k H1 S1)
     ·exact no (by rw [<- gl,<- e,show decide (1<=(xs.length:Int))=false by simpa using e1,aR])
end
end K28
set_option maxHeartbeats 4000000
namespace K28
open PySem L2
section
variable {P:aI} {w:bq} {K:aa} {mg:Str->Option Value} {base:Heap} {t:Adr}
theorem Uj {i:Nat} {as:List Th} (hi:i<9) (l:as.length=ar i):Cc (wdO i::as)=okE i as:=by
 show (decide (as.length=ar (wds.idxOf (wd i)))&&okE (wds.idxOf (wd i)) as)=_
 rw [Mx i hi,decide_eq_true l,av]
theorem al6 {o:Th} {as:List Th} (h:G8 o≠((o::as).length:Int)):Cc (o::as)=false:=by
 unfold Cc
 dsimp only
 cases ho:A7 o with
 | none=>rfl
 | some z=>
  dsimp only
  unfold G8 at h
  rw [ho] at h
  dsimp only at h
  by_cases hi:wds.idxOf z<9
  ·rw [if_pos hi] at h
   rw [decide_eq_false (fun e=>h (by rw [ax,e];simp)),aR]
  ·have h9:wds.idxOf z=9:=by have:=gW (a:=z) (l:=wds);have h:wds.length=9:=rfl;omega
   rw [h9,show okE 9 as=false from rfl,b9]
theorem Pn {o:Th} {as:List Th} (h:G8 o=((o::as).length:Int)):∃ i,i<9/\o=wdO i/\as.length=ar i:=by
 unfold G8 at h
 cases ho:A7 o with
 | none=>rw [ho] at h;simp at h;omega
 | some z=>
  rw [ho] at h
  dsimp only at h
  split at h
  ·rename_i hi
   refine⟨_,hi,?_,by simp at h;omega⟩
   unfold A7 at ho
   split at ho
   ·cases ho
    show some (Dt.at_ (V.str z))=some (.at_ (.str (wd (wds.idxOf z))))
    rw [<- Tm hi]
   ·cases ho
  ·simp at h;omega
theorem a83 {f:Addr} {fd:ai} (Z:Al K t) (F:FunD K "_law_good" "_law_good" Jz f fd .none) (T:Tab P w K mg base 3 (Hb K t) bl):FnOk P w K mg base CX0 4 f fd On (Ta K t):=by
 refine F.okW0 bn7 bt1 T (bj4 K t) (fun vs H Q E h=>?_) (fun vs H Q E h=>?_)
 ·obtain⟨p,os,rfl,_⟩:=h;rfl
 ·obtain⟨p,os,rfl,⟨xs,q,g⟩,st,k⟩:=h
  refine⟨.type "tuple", true,.sqT rfl q rfl,rfl,(show 0<=sizeLine by decide),fun e he=>.inr (.inr (.inr ⟨p,e,xs,rfl,rfl,(Same.upd he).seqT q,SqT.of Af,?_⟩))⟩
  have S1:=Same.upd (o:=.tup []) he
  generalize upd H e (.tup [])=H1 at S1 ⊢
  cases os with
  | nil=>
   cases (show xs=[] from g)
   exact k H1 S1
  | cons o as=>
   obtain⟨y,ys,rfl,hy,g⟩:=g
   have q1:=S1.seqT q
   refine⟨_,y,.inr q1,Bg (i:=0) rfl,y,o,rfl,Ao S1 hy,st.2 o (.head _),fun H2 S2=>.inl ⟨_,.inr (S2.seqT q1),?_⟩⟩
   have S12:=S1.trans S2
   have q2:=S12.seqT q
   have el:(((y::ys).length:Nat):Int)=(((o::as).length:Nat):Int):=by rw [ax,ax,g.length]
   refine A2 (c:=(!decide (G8 o=(((y::ys).length:Nat):Int)))=true) (fun e1=>?_) (fun e1=>?_)
   ·rw [al6 (fun h=>by rw [<- el] at h;rw [decide_eq_true h] at e1;cases e1)] at k
    exact k H2 S12
   ·have e1:G8 o=(((y::ys).length:Nat):Int):=by simpa using e1
    obtain⟨i,hi,rfl,l⟩:=Pn (e1.trans el)
    have hy:y=.str (wd i):=(Dn hy rfl).2
    subst hy
    rw [Uj hi l] at k
    have st:=Nv st
    have g:=g.up S12
    clear e1 el q q1 S1 S2
    obtain rfl|rfl|rfl|rfl|rfl|rfl|rfl|rfl|rfl:i=0\/i=1\/i=2\/i=3\/i=4\/i=5\/i=6\/i=7\/i=8:=by omega
    ·obtain⟨o0,o1,o2,o3,o4,y0,y1,y2,y3,y4,rfl,rfl,h0,h1,h2,h3,h4⟩:=th5 g l
     have k:∀ H',Same H H'->Q (.bl ((nmO o0&&(prO o2&&rkO o3))&&(kdO o1&&By o1 o4))) H':=k
     refine⟨_,_,.inr q2,rfl,y0,o0,rfl,h0,st.2 o0 (by simp),fun H3 S3=>A2 (c:=(!nmO o0)=true) (fun e0=>?_) (fun e0=>?_)⟩
     ·rw [show nmO o0=false by simpa using e0] at k
      exact k H3 (S12.trans S3)
     ·rw [show nmO o0=true by simpa using e0,av] at k
      have q3:=S3.seqT q2
      have S13:=S12.trans S3
      refine⟨_,_,.inr q3,rfl,_,y2,.inr q3,rfl,?_⟩
      dsimp only [dC]
      refine Dw (Ao S3 h2) (st.2 o2 (by simp)) ?_
      refine A2 (c:=(!decide (A7 o2=some ("" : Str)))=true) (fun a1=>?_) (fun a1=>?_)
      ·have a1:decide (A7 o2=some ("" : Str))=false:=by simpa using a1
       have pr:prO o2=nmO o2:=by unfold prO;rw [a1,fQ]
       rw [pr] at k
       refine⟨_,_,.inr q3,rfl,y2,o2,rfl,Ao S3 h2,st.2 o2 (by simp),fun H4 S4=>A2 (c:=(!nmO o2)=true) (fun a2=>?_) (fun a2=>?_)⟩
       ·rw [show nmO o2=false by simpa using a2] at k
        exact k H4 (S12.trans (S3.trans S4))
       ·rw [show nmO o2=true by simpa using a2,av] at k
        refine⟨_,_,.inr ((S3.trans S4).seqT q2),rfl,y3,o3,rfl,Ao (S3.trans S4) h3,st.2 o3 (by simp),fun H6 S6=>A2 (c:=(!rkO o3)=true) (fun a3=>?_) (fun a3=>?_)⟩
        ·rw [show rkO o3=false by simpa using a3] at k
         simp only [b9,aR] at k
         exact k H6 ((S12.trans (S3.trans S4)).trans S6)
        ·rw [show rkO o3=true by simpa using a3,av] at k
         exact⟨_,_,.inr (((S3.trans S4).trans S6).seqT q2),rfl,_,_,.inr (((S3.trans S4).trans S6).seqT q2),rfl,y1,y4,o1,o4,rfl,Ao ((S3.trans S4).trans S6) h1,Ao ((S3.trans S4).trans S6) h4,st.2 o1 (by simp),st.2 o4 (by simp),fun H7 S7=>k H7 (((S12.trans (S3.trans S4)).trans S6).trans S7)⟩
      ·have a1:decide (A7 o2=some ("" : Str))=true:=by simpa using a1
       have pr:prO o2=true:=by unfold prO;rw [a1,cR]
       rw [pr,av] at k
       refine⟨_,_,.inr (S3.seqT q2),rfl,y3,o3,rfl,Ao S3 h3,st.2 o3 (by simp),fun H6 S6=>A2 (c:=(!rkO o3)=true) (fun a3=>?_) (fun a3=>?_)⟩
       ·rw [show rkO o3=false by simpa using a3] at k
        simp only [b9,aR] at k
        exact k H6 ((S12.trans S3).trans S6)
       ·rw [show rkO o3=true by simpa using a3,av] at k
        exact⟨_,_,.inr ((S3.trans S6).seqT q2),rfl,_,_,.inr ((S3.trans S6).seqT q2),rfl,y1,y4,o1,o4,rfl,Ao (S3.trans S6) h1,Ao (S3.trans S6) h4,st.2 o1 (by simp),st.2 o4 (by simp),fun H7 S7=>k H7 (((S12.trans S3).trans S6).trans S7)⟩
    ·obtain⟨o0,o1,y0,y1,rfl,rfl,h0,h1⟩:=th2 g l
     have k:∀ H',Same H H'->Q (.bl (nmO o0&&txO o1)) H':=k
     refine⟨_,_,.inr q2,rfl,y0,o0,rfl,h0,st.2 o0 (by simp),fun H3 S3=>A2 (c:=(!nmO o0)=true) (fun e0=>?_) (fun e0=>?_)⟩
     ·rw [show nmO o0=false by simpa using e0] at k
      exact k H3 (S12.trans S3)
     ·rw [show nmO o0=true by simpa using e0,av] at k
      have q3:=S3.seqT q2
      have S13:=S12.trans S3
      exact⟨_,_,.inr q3,rfl,_,_,.inr q3,rfl,y1,o1,rfl,Ao S3 h1,st.2 o1 (by simp),fun H4 S4=>k H4 (S13.trans S4)⟩
    ·obtain⟨o0,o1,o2,o3,y0,y1,y2,y3,rfl,rfl,h0,h1,h2,h3⟩:=th4 g l
     have k:∀ H',Same H H'->Q (.bl (nmO o0&&(rkO o1&&(rkO o2&&txO o3)))) H':=k
     refine⟨_,_,.inr q2,rfl,y0,o0,rfl,h0,st.2 o0 (by simp),fun H3 S3=>A2 (c:=(!nmO o0)=true) (fun e0=>?_) (fun e0=>?_)⟩
     ·rw [show nmO o0=false by simpa using e0] at k
      exact k H3 (S12.trans S3)
     ·rw [show nmO o0=true by simpa using e0,av] at k
      have q3:=S3.seqT q2
      have S13:=S12.trans S3
      refine⟨_,_,.inr q3,rfl,_,_,.inr q3,rfl,y1,o1,rfl,Ao S3 h1,st.2 o1 (by simp),fun H4 S4=>A2 (c:=rkO o1=true) (fun a1=>?_) (fun a1=>?_)⟩
      ·rw [a1,av] at k
       have S34:=S3.trans S4
       refine⟨_,_,.inr (S4.seqT q3),rfl,y2,o2,rfl,Ao S34 h2,st.2 o2 (by simp),fun H5 S5=>A2 (c:=rkO o2=true) (fun a2=>?_) (fun a2=>?_)⟩
       ·rw [a2,av] at k
        exact⟨_,_,.inr ((S4.trans S5).seqT q3),rfl,y3,o3,rfl,Ao (S34.trans S5) h3,st.2 o3 (by simp),fun H6 S6=>k H6 (((S13.trans S4).trans S5).trans S6)⟩
       ·have a2:rkO o2=false:=by simpa using a2
        rw [a2,aR] at k
        show Q (.bl (rkO o2)) H5
        rw [a2]
        exact k H5 ((S13.trans S4).trans S5)
      ·have a1:rkO o1=false:=by simpa using a1
       rw [a1,aR] at k
       show Q (.bl (rkO o1)) H4
       rw [a1]
       exact k H4 (S13.trans S4)
    ·obtain⟨o0,o1,o2,o3,y0,y1,y2,y3,rfl,rfl,h0,h1,h2,h3⟩:=th4 g l
     have k:∀ H',Same H H'->Q (.bl (nmO o0&&(rkO o1&&(rkO o2&&txO o3)))) H':=k
     refine⟨_,_,.inr q2,rfl,y0,o0,rfl,h0,st.2 o0 (by simp),fun H3 S3=>A2 (c:=(!nmO o0)=true) (fun e0=>?_) (fun e0=>?_)⟩
     ·rw [show nmO o0=false by simpa using e0] at k
      exact k H3 (S12.trans S3)
     ·rw [show nmO o0=true by simpa using e0,av] at k
      have q3:=S3.seqT q2
      have S13:=S12.trans S3
      refine⟨_,_,.inr q3,rfl,_,_,.inr q3,rfl,y1,o1,rfl,Ao S3 h1,st.2 o1 (by simp),fun H4 S4=>A2 (c:=rkO o1=true) (fun a1=>?_) (fun a1=>?_)⟩
      ·rw [a1,av] at k
       have S34:=S3.trans S4
       refine⟨_,_,.inr (S4.seqT q3),rfl,y2,o2,rfl,Ao S34 h2,st.2 o2 (by simp),fun H5 S5=>A2 (c:=rkO o2=true) (fun a2=>?_) (fun a2=>?_)⟩
       ·rw [a2,av] at k
        exact⟨_,_,.inr ((S4.trans S5).seqT q3),rfl,y3,o3,rfl,Ao (S34.trans S5) h3,st.2 o3 (by simp),fun H6 S6=>k H6 (((S13.trans S4).trans S5).trans S6)⟩
       ·have a2:rkO o2=false:=by simpa using a2
        rw [a2,aR] at k
        show Q (.bl (rkO o2)) H5
        rw [a2]
        exact k H5 ((S13.trans S4).trans S5)
      ·have a1:rkO o1=false:=by simpa using a1
       rw [a1,aR] at k
       show Q (.bl (rkO o1)) H4
       rw [a1]
       exact k H4 (S13.trans S4)
    ·obtain⟨o0,o1,o2,y0,y1,y2,rfl,rfl,h0,h1,h2⟩:=th3 g l
     have k:∀ H',Same H H'->Q (.bl (nmO o0&&(rkO o1&&rwO o2))) H':=k
     refine⟨_,_,.inr q2,rfl,y0,o0,rfl,h0,st.2 o0 (by simp),fun H3 S3=>A2 (c:=(!nmO o0)=true) (fun e0=>?_) (fun e0=>?_)⟩
     ·rw [show nmO o0=false by simpa using e0] at k
      exact k H3 (S12.trans S3)
     ·rw [show nmO o0=true by simpa using e0,av] at k
      have q3:=S3.seqT q2
      have S13:=S12.trans S3
      refine⟨_,_,.inr q3,rfl,_,_,.inr q3,rfl,y1,o1,rfl,Ao S3 h1,st.2 o1 (by simp),fun H4 S4=>A2 (c:=rkO o1=true) (fun a1=>?_) (fun a1=>?_)⟩
      ·rw [a1,av] at k
       exact⟨_,_,.inr (S4.seqT q3),rfl,y2,o2,rfl,Ao (S3.trans S4) h2,st.2 o2 (by simp),fun H5 S5=>k H5 ((S13.trans S4).trans S5)⟩
      ·have a1:rkO o1=false:=by simpa using a1
       rw [a1,aR] at k
       show Q (.bl (rkO o1)) H4
       rw [a1]
       exact k H4 (S13.trans S4)
    ·obtain⟨o0,o1,y0,y1,rfl,rfl,h0,h1⟩:=th2 g l
     have k:∀ H',Same H H'->Q (.bl (nmO o0&&rkO o1)) H':=k
     refine⟨_,_,.inr q2,rfl,y0,o0,rfl,h0,st.2 o0 (by simp),fun H3 S3=>A2 (c:=(!nmO o0)=true) (fun e0=>?_) (fun e0=>?_)⟩
     ·rw [show nmO o0=false by simpa using e0] at k
      exact k H3 (S12.trans S3)
     ·rw [show nmO o0=true by simpa using e0,av] at k
      have q3:=S3.seqT q2
      have S13:=S12.trans S3
      exact⟨_,_,.inr q3,rfl,_,_,.inr q3,rfl,y1,o1,rfl,Ao S3 h1,st.2 o1 (by simp),fun H4 S4=>k H4 (S13.trans S4)⟩
    ·obtain⟨o0,y0,rfl,rfl,h0⟩:=th1 g l
     have k:∀ H',Same H H'->Q (.bl (nmO o0)) H':=k
     refine⟨_,_,.inr q2,rfl,y0,o0,rfl,h0,st.2 o0 (by simp),fun H3 S3=>A2 (c:=(!nmO o0)=true) (fun e0=>?_) (fun e0=>?_)⟩
     ·rw [show nmO o0=false by simpa using e0] at k
      exact k H3 (S12.trans S3)
     ·rw [show nmO o0=true by simpa using e0] at k
      exact⟨_,_,.inr (S3.seqT q2),rfl,k H3 (S12.trans S3)⟩
    ·obtain⟨o0,o1,o2,y0,y1,y2,rfl,rfl,h0,h1,h2⟩:=th3 g l
     have k:∀ H',Same H H'->Q (.bl (nmO o0&&(prO o1&&rkO o2))) H':=k
     refine⟨_,_,.inr q2,rfl,y0,o0,rfl,h0,st.2 o0 (by simp),fun H3 S3=>A2 (c:=(!nmO o0)=true) (fun e0=>?_) (fun e0=>?_)⟩
     ·rw [show nmO o0=false by simpa using e0] at k
      exact k H3 (S12.trans S3)
     ·rw [show nmO o0=true by simpa using e0,av] at k
      have q3:=S3.seqT q2
      refine⟨_,_,.inr q3,rfl,_,y1,.inr q3,rfl,?_⟩
      dsimp only [dC]
      refine Dw (Ao S3 h1) (st.2 o1 (by simp)) ?_
      refine A2 (c:=decide (A7 o1=some ("" : Str))=true) (fun a1=>?_) (fun a1=>?_)
      ·have pr:prO o1=true:=by unfold prO;rw [a1,cR]
       rw [pr,av] at k
       refine av1 (b:=decide (A7 o1=some ("" : Str))) a1 ?_
       exact⟨_,_,.inr q3,rfl,y2,o2,rfl,Ao S3 h2,st.2 o2 (by simp),fun H6 S6=>k H6 ((S12.trans S3).trans S6)⟩
      ·have a1:decide (A7 o1=some ("" : Str))=false:=by simpa using a1
       have pr:prO o1=nmO o1:=by unfold prO;rw [a1,fQ]
       rw [pr] at k
       refine⟨_,_,.inr q3,rfl,y1,o1,rfl,Ao S3 h1,st.2 o1 (by simp),fun H4 S4=>A2 (c:=nmO o1=true) (fun a2=>?_) (fun a2=>?_)⟩
       ·rw [a2,av] at k
        exact⟨_,_,.inr (S4.seqT q3),rfl,y2,o2,rfl,Ao (S3.trans S4) h2,st.2 o2 (by simp),fun H6 S6=>k H6 ((S12.trans (S3.trans S4)).trans S6)⟩
       ·have a2:nmO o1=false:=by simpa using a2
        rw [a2,aR] at k
        show Q (.bl (nmO o1)) H4
        rw [a2]
        exact k H4 (S12.trans (S3.trans S4))
    ·obtain⟨o0,o1,o2,y0,y1,y2,rfl,rfl,h0,h1,h2⟩:=th3 g l
     have k:∀ H',Same H H'->Q (.bl (nmO o0&&(nmO o1&&txO o2))) H':=k
     refine⟨_,_,.inr q2,rfl,y0,o0,rfl,h0,st.2 o0 (by simp),fun H3 S3=>A2 (c:=(!nmO o0)=true) (fun e0=>?_) (fun e0=>?_)⟩
     ·rw [show nmO o0=false by simpa using e0] at k
      exact k H3 (S12.trans S3)
     ·rw [show nmO o0=true by simpa using e0,av] at k
      have q3:=S3.seqT q2
      have S13:=S12.trans S3
      refine⟨_,_,.inr q3,rfl,_,_,.inr q3,rfl,y1,o1,rfl,Ao S3 h1,st.2 o1 (by simp),fun H4 S4=>A2 (c:=nmO o1=true) (fun a1=>?_) (fun a1=>?_)⟩
      ·rw [a1,av] at k
       exact⟨_,_,.inr (S4.seqT q3),rfl,y2,o2,rfl,Ao (S3.trans S4) h2,st.2 o2 (by simp),fun H5 S5=>k H5 ((S13.trans S4).trans S5)⟩
      ·have a1:nmO o1=false:=by simpa using a1
       rw [a1,aR] at k
       show Q (.bl (nmO o1)) H4
       rw [a1]
       exact k H4 (S13.trans S4)
end
end K28
set_option maxHeartbeats 2000000
namespace K28
open PySem L2
noncomputable def wfS (z:Str):Prop:=wfB z=true
theorem ci1 {z:Str} (h:z.length<=60) (a:z.cps.toList.all B5=true):wfS z:=by
 unfold wfS wfB Ck
 rw [a,decide_eq_true (cY _),decide_eq_true h]
 rfl
theorem ay4 {z:Str} (h:wfS z):z.length<=60:=by
 unfold wfS wfB Ck at h
 simp at h
 exact h.1
noncomputable abbrev Tb:=List (List Str)
noncomputable def wfR (m:Nat) (r:List Str):Prop:=r.length=m /\ ∀ z∈r,wfS z
noncomputable def wfT (t:Tb):Prop:=1<=t.length/\t.length<=6 /\ ∃ m,1<=m/\m<=6 /\ ∀ r∈t,wfR m r
noncomputable def Fe (r:List Str):Dt:=.tup (r.map A0)
noncomputable def ai7 (t:Tb):Dt:=.tup (t.map Fe)
theorem bq2 {z:Str} (h:wfS z):txO (some (A0 z))=true:=h
theorem U0 {m:Nat} {r:List Str} (m1:1<=m) (m6:m<=6) (h:wfR m r):rwD (Fe r)=true:=by
 show (in6 (r.map A0).length&&(r.map A0).all fun d=>txO (some d))=true
 rw [aH,h.1,in6_iff.mpr ⟨m1,m6⟩,av]
 refine List.all_eq_true.mpr fun d hd=>?_
 obtain⟨z,hz,rfl⟩:=List.mem_map.mp hd
 exact bq2 (h.2 z hz)
theorem Up (r:List Str):C3 (Fe r)=r.length:=aH ..
theorem ar6 {c:Tb} (h:wfT c):al1 (ai7 c)=true:=by
 obtain⟨h1,h2,m,m1,m6,hr⟩:=h
 show (in6 (c.map Fe).length&&((c.map Fe).all rwD&&(c.map Fe).all fun d=>decide (C3 d=C3 ((c.map Fe).headD (.tup [])))))=true
 rw [aH,in6_iff.mpr ⟨h1,h2⟩,av,am]
 have hh:C3 ((c.map Fe).headD (.tup []))=m:=by
  match c,h1,hr with
  | r::rs,_,hr=>exact (Up r).trans (hr r (.head _)).1
 refine⟨List.all_eq_true.mpr fun d hd=>?_,List.all_eq_true.mpr fun d hd=>?_⟩
 ·obtain⟨r,hq,rfl⟩:=List.mem_map.mp hd
  exact U0 m1 m6 (hr r hq)
 ·obtain⟨r,hq,rfl⟩:=List.mem_map.mp hd
  exact decide_eq_true (by rw [hh,Up];exact (hr r hq).1)
theorem Nr {z:Str} (h:wfS z):StD (A0 z):=.at_ _ fun y e=>by cases e;exact aM (ay4 h) (by decide)
theorem bv0 {c:Tb} (h:wfT c):StD (ai7 c):=by
 obtain⟨h1,h2,m,m1,m6,hr⟩:=h
 refine .tup _ (by rw [aH];omega) fun d hd=>?_
 obtain⟨r,hq,rfl⟩:=List.mem_map.mp hd
 refine .tup _ (by rw [aH,(hr r hq).1];omega) fun e he=>?_
 obtain⟨z,hz,rfl⟩:=List.mem_map.mp he
 exact Nr ((hr r hq).2 z hz)
theorem Uc (r:List Str):dep (Fe r)<=1:=by
 unfold Fe dep
 exact eN (Ia Pc r)
theorem ak9 (tb:Tb):dep (ai7 tb)<=2:=by
 unfold ai7 dep
 exact eN (Ia Uc tb)
section
variable {P:aI} {w:bq} {K:aa} {mg:Str->Option Value} {base:Heap} {t:Adr}
theorem Ni {n i:Nat} {x:V} (h:(Qh 0 n)[i]? = some x):i<n/\x=.int (i:Int):=by
 have hi:i<n:=by
  have:=(List.getElem?_eq_some_iff.mp h).1
  rw [Bz] at this
  exact this
 rw [Iz hi] at h
 have:=aN h
 rw [Int.zero_add] at this
 exact⟨hi,this.symm⟩
theorem ci6 {c1 c2 c3:Bool} {A B:Prop} (a:A) (b:B):if c1=true then (if c2=true then (if c3=true then A else B) else (if false=true then A else B)) else (if false=true then A else B):=by
 cases c1 <;> cases c2 <;> cases c3 <;> first|exact D9 (D9 b)|exact D9 b|exact E4 (D9 (D9 b))|exact E4 (E4 (D9 b))|exact E4 (E4 (E4 a))
theorem atM {α:Type} {xs:List α} (c:Int) (m:Int) (hm:(xs.length:Int)=m) (h:0<m):∃ v,v∈xs/\atI xs (c % m)=some v:=by
 have h1:=b_ c (show m≠0 by omega)
 have h2:=bS c h
 have hl:(c % m).toNat<xs.length:=by omega
 refine⟨xs[(c % m).toNat],bW hl,?_⟩
 unfold atI ixN
 have a1:¬ (c % m<0):=by omega
 have a2:c % m<(xs.length:Int):=by omega
 simp [a1,a2]
 rw [if_pos h1]
 exact a9 hl
theorem Eg (c:Int) {m:Nat} (h:0<m):∃ j:Nat,c % (m:Int)=(j:Int)/\j<m:=by
 have h1:=b_ c (show (m:Int)≠0 by omega)
 have h2:=bS c (show (0:Int)<(m:Int) by omega)
 exact⟨(c % (m:Int)).toNat,by omega,by omega⟩
theorem a80 {f:Addr} {fd:ai} (Z:Al K t) (F:FunD K "_law_cell" "_law_cell" Jw f fd .none) (T:Tab P w K mg base 0 (A8 K t) bl):FnOk P w K mg base CX0 1 f fd Oj (Gq K t):=by
 refine F.okW0 bn4 bs8 T (bj1 K t) (fun vs H Q E h=>?_) (fun vs H Q E h=>?_)
 ·obtain⟨a,ns,k,rfl,_⟩:=h;rfl
 ·obtain⟨a,ns,k,rfl,hS,q⟩:=h
  refine .inl ⟨_,.inl hS,A2 (fun hlt=>?_) (fun _=>⟨.inr ⟨by decide,by decide⟩,q _⟩)⟩
  have hlt:(k:Int)<((ns.map V.int).length:Int):=of_decide_eq_true hlt
  have hk:k<ns.length:=by rw [aH] at hlt;omega
  refine⟨_,.int ns[k],.inl hS,?_,q _⟩
  exact Bg (by rw [bD,a9 hk];rfl)
theorem b18 {f:Addr} {fd:ai} (Z:Al K t) (F:FunD K "_law_stream" "_law_stream" Sq f fd .none) (T:Tab P w K mg base 0 (A8 K t) bl):FnOk P w K mg base CX0 1 f fd Y3 (Lz K t):=by
 refine F.okW0 b96 ch8 T (b69 K t) (fun vs H Q E h=>?_) (fun vs H Q E h=>?_)
 ·obtain⟨c,n,rfl,_⟩:=h;rfl
 ·obtain⟨c,n,rfl,hn,k⟩:=h
  refine⟨by decide,fun l hl=>⟨⟨by decide,by decide⟩,by decide,⟨by omega,by omega⟩,?_⟩⟩
  rw [dw]
  have m1:=b_ c (show (2147483629:Int)≠0 by decide)
  have m2:=bS c (show (0:Int)<2147483629 by decide)
  refine Fa (Ep 0 n) (fun i σ H'=>(∃ left num v,σ=[some (.int c),some (.int n),some (.ref l),some (.int left),some (.int num),v]/\0<=num/\num<4294967296)/\Same H H' /\ ∃ ns:List Int,ns.length=i/\H' l=some (.lst (ns.map V.int)) /\ ∀ z∈ns,0<=z/\z<2147483648)
   ⟨⟨_,_,_,rfl,by omega,by omega⟩,Same.upd hl,[],rfl,Af,(fun z hz=>by cases hz)⟩ (fun _ _ _ _ _=>bn) ?_ ?_
  ·rintro i x σ H' hx ⟨⟨left,num,v,rfl,u1,u2⟩,S,ns,e1,e2,e3⟩
   obtain⟨hi,rfl⟩:=Ni hx
   refine⟨.inr ⟨by decide,by decide⟩,.inl ⟨by decide,by decide⟩,by decide,by decide,?_⟩
   have w1:=b_ (num * 48271+7919 * (i:Int)+1) (show (2147483647:Int)≠0 by decide)
   have w2:=bS (num * 48271+7919 * (i:Int)+1) (show (0:Int)<2147483647 by decide)
   generalize (num * 48271+7919 * (i:Int)+1) % 2147483647=nu at w1 w2 ⊢
   have put:∀ y:Int,0<=y->y<2147483648->Same H (upd H' l (.lst (ns.map V.int++[.int y]))) /\ ∃ ns2:List Int,ns2.length=i+1/\upd H' l (.lst (ns.map V.int++[.int y])) l=some (.lst (ns2.map V.int)) /\ ∀ z∈ns2,0<=z/\z<2147483648:=fun y y1 y2=>
    ⟨S.set hl,ns++[y],by rw [aq,e1];rfl,by rw [Af,dt];rfl,fun z hz=>by
     rcases List.mem_append.mp hz with h|h
     ·exact e3 z h
     ·have:z=y:=by simpa using h
      subst this;exact⟨y1,y2⟩⟩
   have hsz:(ns.map V.int).length<sizeLine:=by rw [aH,e1];exact aD (show i<100 by omega) (by decide)
   refine ci6 ?_ ?_
   ·have y1:=b_ left (show (268435456:Int)≠0 by decide)
    have y2:=bS left (show (0:Int)<268435456 by decide)
    exact⟨.inl ⟨rfl,_,SqL.of e2⟩,by decide,l,_,_,rfl,rfl,e2,hsz,⟨by decide,by decide⟩,⟨_,_,_,rfl,by omega,by omega⟩,put _ y1 (by omega)⟩
   ·have y1:=b_ (nu * nu % 2147483629 * 16807+(i:Int)) (show (2147483587:Int)≠0 by decide)
    have y2:=bS (nu * nu % 2147483629 * 16807+(i:Int)) (show (0:Int)<2147483587 by decide)
    exact⟨.inl ⟨rfl,_,SqL.of e2⟩,.inl ⟨by omega,by omega⟩,by decide,.inr ⟨by decide,by decide⟩,by decide,⟨by decide,by decide⟩,l,_,_,rfl,rfl,e2,hsz,⟨_,_,_,rfl,by omega,by omega⟩,put _ (by omega) (by omega)⟩
  ·rintro σ H' ⟨⟨left,num,v,rfl,_⟩,S,ns,e1,e2,e3⟩
   rw [Bz] at e1
   exact .inl (k _ l ns S hl e2 e1 e3)
theorem in4 {a b c d:Nat} {v:V} (ha:a<=60) (hb:b<=60) (hc:c<=60) (hd:d<=60) (h:v∈[V.int a,.int b,.int c,.int d]):∃ m:Nat,v=.int (m:Int)/\m<=60:=by
 simp only [ay,aU,or_false] at h
 rcases h with rfl|rfl|rfl|rfl
 ·exact⟨a,rfl,ha⟩
 ·exact⟨b,rfl,hb⟩
 ·exact⟨c,rfl,hc⟩
 ·exact⟨d,rfl,hd⟩
noncomputable def signsS:Str:=cb " !#$&'()*+,-./0123456789:;<=>?@ABCDEFGHIJKLMNOPQRSTUVWXYZ[\\]^_`abcdefghijklmnopqrstuvwxyz{|}~" ++ cb "\""
theorem Kg:signsS.cps.toList.length=94/\signsS.cps.toList.all B5=true:=by decide +kernel
theorem Uf:(cb "|/\\a ").cps.toList.length=5/\(cb "|/\\a ").cps.toList.all B5=true:=by decide +kernel
theorem Tt (a b:Str):(a++b).length=a.length+b.length:=PySem.strLen_append a b
theorem aj5 {z:Str} {c:Nat} (h:z.cps.toList.all B5=true) (hc:B5 c=true):(z++⟨#[c]⟩).cps.toList.all B5=true:=by
 rw [ak2,List.all_append,h]
 simpa using hc
theorem a86 {f:Addr} {fd:ai} (Z:Al K t) (F:FunD K "_law_text" "_law_text" J2 f fd .none) (T:Tab P w K mg base 1 (E3 K t) bl):FnOk P w K mg base CX0 2 f fd Oq (Gs K t):=by
 refine F.okW0 bo0 bt4 T (bj7 K t) (fun vs H Q E h=>?_) (fun vs H Q E h=>?_)
 ·obtain⟨c,rfl,_⟩:=h;rfl
 ·obtain⟨c,rfl,k⟩:=h
  refine⟨by decide +kernel,c,4,rfl,by decide,fun H1 l ns S1 hl el en eb=>?_⟩
  match ns,en with
  | [n0,n1,n2,n3],_=>
   have q:SqL K H1 l [.int n0,.int n1,.int n2,.int n3]:=SqL.of el
   refine⟨_,_,.inl q,rfl,by decide,_,_,.inl q,rfl,by decide,_,_,.inl q,rfl,by decide,(show 4<=sizeLine by decide),fun p hp=>?_⟩
   have q1:=(Same.upd (o:=.lst [.int 0,.int (n1 % 4),.int (n1 % 12),.int (n1 % 61)]) hp).seqL q
   have S2:=S1.trans (Same.upd (o:=.lst [.int 0,.int (n1 % 4),.int (n1 % 12),.int (n1 % 61)]) hp)
   have ep:upd H1 p (.lst [.int 0,.int (n1 % 4),.int (n1 % 12),.int (n1 % 61)]) p=some (.lst [.int 0,.int (n1 % 4),.int (n1 % 12),.int (n1 % 61)]):=Af
   generalize upd H1 p (.lst [.int 0,.int (n1 % 4),.int (n1 % 12),.int (n1 % 61)])=H2 at q1 S2 ep ⊢
   refine⟨_,_,.inl q1,rfl,by decide,?_⟩
   obtain⟨v,hv,ev⟩:=atM (xs:=[V.int 0,.int (n1 % 4),.int (n1 % 12),.int (n1 % 61)]) n0 4 rfl (by decide)
   obtain⟨j1,e1,g1⟩:=Eg n1 (m:=4) (by decide)
   obtain⟨j2,e2,g2⟩:=Eg n1 (m:=12) (by decide)
   obtain⟨j3,e3,g3⟩:=Eg n1 (m:=61) (by decide)
   have hv2:v∈[V.int ((0:Nat):Int),.int j1,.int j2,.int j3]:=by
    rw [<- e1,<- e2,<- e3]
    exact hv
   obtain⟨m,rfl,hm⟩:=in4 (by omega) (by omega) (by omega) (by omega) hv2
   refine⟨_,_,.inl (SqL.of ep),ev,?_⟩
   refine⟨c+1,m,rfl,by omega,fun H3 l2 ns2 S3 hl2 el2 en2 _=>.inl ⟨⟨_,SqL.of el2⟩,?_⟩⟩
   have q3:=S3.seqL q1
   have S4:=S2.trans S3
   refine Fa (Nw (ns2.map V.int)) (fun i σ H'=>H'=H3 /\ ∃ z v,σ=[some (.int c),some (.str signsS),some (.ref l),some (.int m),some (.str z),v]/\z.length=i/\z.cps.toList.all B5=true)
    ⟨rfl,_,_,rfl,by decide +kernel,by decide +kernel⟩ (fun i σ H' _ h=>h.1▸SqL.of el2) ?_ ?_
   ·rintro i x σ H' hx ⟨rfl,z,v,rfl,lz,az⟩
    have hi:i<m:=by
     have:=(List.getElem?_eq_some_iff.mp hx).1
     rw [aH,en2] at this
     exact this
    rw [bD] at hx
    obtain⟨y,_,rfl⟩:=Option.map_eq_some_iff.mp hx
    have big:1000<=sizeLine:=by decide
    refine⟨_,_,.inl q3,rfl,by decide,?_⟩
    refine A2 (fun _=>?_) (fun _=>?_)
    ·obtain⟨ch,hc,ec⟩:=atM (xs:=(cb "|/\\a ").cps.toList) y 5 (by rw [Uf.1];rfl) (by decide)
     refine⟨by decide,by decide +kernel,ch,ec,?_,rfl,_,_,rfl,?_,aj5 az (List.all_eq_true.mp Uf.2 ch hc)⟩
     ·show z.length+1<=sizeLine;omega
     ·rw [Tt,lz];rfl
    ·obtain⟨ch,hc,ec⟩:=atM (xs:=signsS.cps.toList) y 94 (by rw [Kg.1];rfl) (by decide)
     refine⟨by decide,?_,ch,ec,?_,rfl,_,_,rfl,?_,aj5 az (List.all_eq_true.mp Kg.2 ch hc)⟩
     ·have:=Kg.1;rw [Hn] at this;omega
     ·show z.length+1<=sizeLine;omega
     ·rw [Tt,lz];rfl
   ·rintro σ H' ⟨rfl,z,v,rfl,lz,az⟩
    rw [aH,en2] at lz
    exact .inl (k z _ S4 (ci1 (by omega) az))
theorem in3 {a b c:Int} {v:V} (ha:1<=a/\a<=6) (hb:1<=b/\b<=6) (hc:1<=c/\c<=6) (h:v∈[V.int a,.int b,.int c]):∃ m:Nat,v=.int (m:Int)/\1<=m/\m<=6:=by
 have go:∀ d:Int,1<=d/\d<=6 -> ∃ m:Nat,V.int d=.int (m:Int)/\1<=m/\m<=6:=fun d hd=>⟨d.toNat,by rw [cU (by omega)],by omega,by omega⟩
 simp only [ay,aU,or_false] at h
 rcases h with rfl|rfl|rfl
 ·exact go _ ha
 ·exact go _ hb
 ·exact go _ hc
noncomputable def RowsAt (K:aa) (H':Hp) (lr n i:Nat):Prop:=∃ (ys:List V) (rs:Tb),H' lr=some (.lst ys)/\ys.length=i/\rs.length=i/\(∀ r∈rs,wfR n r)/\AtL K H' (rs.map Fe) ys
theorem RowsAt.same {H H':Hp} {lr n i:Nat} (h:RowsAt K H lr n i) (S:Same H H'):RowsAt K H' lr n i:=by
 obtain⟨ys,rs,h1,h2,h3,h4,h5⟩:=h
 exact⟨ys,rs,S _ _ h1,h2,h3,h4,Ec S h5⟩
theorem RowsAt.row {H:Hp} {lr n i r:Nat} {row:List Str} {ys:List V} (h:RowsAt K H lr n i) (e:H lr=some (.lst ys)) (hr:H r=some (.tup (row.map V.str))) (hw:wfR n row):RowsAt K (upd H lr (.lst (ys++[.ref r]))) lr n (i+1):=by
 obtain⟨ys',rs,h1,h2,h3,h4,h5⟩:=h
 rw [h1] at e
 cases e
 refine⟨_,rs++[row],Af,by rw [aq,h2];rfl,by rw [aq,h3];rfl,fun r' hr'=>?_,?_⟩
 ·rcases List.mem_append.mp hr' with q|q
  ·exact h4 r' q
  ·have:r'=row:=by simpa using q
   subst this;exact hw
 ·rw [dt]
  exact Ma (Ja (TKeep.lst h1) h5) (Dp (Mc (TKeep.lst h1 _ _ (SqT.of hr))) Er)
theorem RowsAt.done {H H0:Hp} {lr n i:Nat} (h:RowsAt K H lr n i) (i1:1<=i) (i6:i<=6) (n1:1<=n) (n6:n<=6) {Q:VK} (S:Same H0 H) (k:∀ d H' x,Same H0 H'->al1 d=true->StD d->dep d<=3->At K H' d x->Q x H') :
  ∃ ys,(SqL K H lr ys /\ ∀ l,H l=none->Q (.ref l) (upd H l (.tup ys)))\/(SqT K H lr ys/\Q (.ref lr) H):=by
 obtain⟨ys,rs,h1,h2,h3,h4,h5⟩:=h
 refine⟨ys,.inl ⟨SqL.of h1,fun l hl=>?_⟩⟩
 have wt:wfT rs:=⟨by omega,by omega,n,n1,n6,h4⟩
 exact k (ai7 rs) _ _ (S.trans (Same.upd hl)) (ar6 wt) (bv0 wt) (aM (ak9 rs) (by decide)) (Hu (SqT.of Af) (Ec (Same.upd hl) h5))
theorem a73 {f:Addr} {fd:ai} (Z:Al K t) (F:FunD K "_law_table" "_law_table" Jp f fd .none) (T:Tab P w K mg base 2 (G9 K t) bl):FnOk P w K mg base CX0 3 f fd Oc (Sw K t):=by
 refine F.okW0 bm7 bs1 T (bi4 K t) (fun vs H Q E h=>?_) (fun vs H Q E h=>?_)
 ·obtain⟨c,rfl,_⟩:=h;rfl
 ·obtain⟨c,rfl,k⟩:=h
  refine⟨c,3,rfl,by decide,fun H1 l ns S1 hl el en eb=>?_⟩
  match ns,en,eb with
  | [n0,n1,n2],_,eb=>
   have q:SqL K H1 l [.int n0,.int n1,.int n2]:=SqL.of el
   have pick:∀ y:Int,∃ m:Nat,atI [V.int (1+y / 3 % 3),.int (1+y / 3 % 6),.int 6] (y % 3)=some (.int (m:Int))/\1<=m/\m<=6:=fun y=>by
    obtain⟨v,hv,ev⟩:=atM (xs:=[V.int (1+y / 3 % 3),.int (1+y / 3 % 6),.int 6]) y 3 rfl (by decide)
    obtain⟨m,rfl,hm⟩:=in3 (by omega) (by omega) (by decide) hv
    exact⟨m,ev,hm⟩
   obtain⟨m,em,m1,m6⟩:=pick n0
   obtain⟨n,en',n1',n6⟩:=pick n1
   refine⟨_,_,.inl q,rfl,⟨by decide,by decide⟩,by decide,_,_,.inl q,rfl,⟨by decide,by decide⟩,by decide,(show 3<=sizeLine by decide),fun p hp=>?_⟩
   have Sp:=Same.upd (o:=.lst [.int (1+n0 / 3 % 3),.int (1+n0 / 3 % 6),.int 6]) hp
   have ep:upd H1 p (.lst [.int (1+n0 / 3 % 3),.int (1+n0 / 3 % 6),.int 6]) p=some (.lst [.int (1+n0 / 3 % 3),.int (1+n0 / 3 % 6),.int 6]):=Af
   generalize upd H1 p (.lst [.int (1+n0 / 3 % 3),.int (1+n0 / 3 % 6),.int 6])=H2 at Sp ep ⊢
   have q2:=Sp.seqL q
   refine⟨_,_,.inl q2,rfl,by decide,_,_,.inl (SqL.of ep),em,?_⟩
   refine⟨_,_,.inl q2,rfl,⟨by decide,by decide⟩,by decide,_,_,.inl q2,rfl,⟨by decide,by decide⟩,by decide,(show 3<=sizeLine by decide),fun p2 hp2=>?_⟩
   have Sp2:=Same.upd (o:=.lst [.int (1+n1 / 3 % 3),.int (1+n1 / 3 % 6),.int 6]) hp2
   have ep2:upd H2 p2 (.lst [.int (1+n1 / 3 % 3),.int (1+n1 / 3 % 6),.int 6]) p2=some (.lst [.int (1+n1 / 3 % 3),.int (1+n1 / 3 % 6),.int 6]):=Af
   generalize upd H2 p2 (.lst [.int (1+n1 / 3 % 3),.int (1+n1 / 3 % 6),.int 6])=H3 at Sp2 ep2 ⊢
   have q3:=Sp2.seqL q2
   refine⟨_,_,.inl q3,rfl,by decide,_,_,.inl (SqL.of ep2),en',?_⟩
   have S3:=(S1.trans Sp).trans Sp2
   refine⟨by decide,fun lr hlr=>⟨⟨by omega,by omega⟩,?_⟩⟩
   rw [dw]
   have hlr0:H lr=none:=S3.free hlr
   refine Fa (Ep 0 m) (fun i σ H'=>(∃ v,σ=[some (.int c),some (.ref l),some (.int m),some (.int n),some (.ref lr),v])/\Same H H'/\RowsAt K H' lr n i)
    ⟨⟨_,rfl⟩,S3.trans (Same.upd hlr),[],[],Af,rfl,rfl,(fun r hr=>by cases hr),Er⟩ (fun _ _ _ _ _=>bn) ?_ ?_
   ·rintro i x σ H4 hx ⟨⟨v,rfl⟩,S4,R4⟩
    obtain⟨hi,rfl⟩:=Ni hx
    have hys:∃ ys,H4 lr=some (.lst ys)/\ys.length=i:=by obtain⟨ys,_,h1,h2,_⟩:=R4;exact⟨ys,h1,h2⟩
    obtain⟨ys,ey,ly⟩:=hys
    refine⟨.inl ⟨rfl,_,SqL.of ey⟩,⟨by omega,by omega⟩,fun D hD=>?_⟩
    rw [dw]
    refine Hw (Ep 0 n) (fun j σ' H'=>(∃ v,σ'=[v,some (.int c),some (.int (i:Int))])/\Same H4 H' /\ ∃ zs:List Str,zs.length=j/\(∀ z∈zs,wfS z)/\H' D=some (.lst (zs.map V.str)))
     ⟨⟨_,rfl⟩,Same.upd hD,[],rfl,(fun z hz=>by cases hz),Af⟩ (fun _ _ _ _ _=>bn) ?_ ?_
    ·rintro j xj σ' H5 hxj ⟨⟨v,rfl⟩,S5,zs,e1,e2,e3⟩
     obtain⟨hj,rfl⟩:=Ni hxj
     refine⟨.inl ⟨by decide,by decide⟩,.inl ⟨by decide,by decide⟩,_,rfl,fun z H6 S6 hz=>?_⟩
     refine⟨_,S6 _ _ e3,?_,⟨_,rfl⟩,(S5.trans S6).set hD,zs++[z],by rw [aq,e1];rfl,fun z' hz'=>?_,by rw [Af,dt];rfl⟩
     ·rw [aH,e1];exact aD (show j<6 by omega) (by decide)
     ·rcases List.mem_append.mp hz' with q|q
      ·exact e2 z' q
      ·have:z'=z:=by simpa using q
       subst this;exact hz
    ·rintro σ' H5 ⟨_,S5,zs,e1,e2,e3⟩
     rw [Bz] at e1
     refine⟨_,.inl ⟨SqL.of e3,fun rt hrt=>?_⟩⟩
     have S6:=S5.trans (Same.upd (o:=.tup (zs.map V.str)) hrt)
     have er:upd H5 rt (.tup (zs.map V.str)) rt=some (.tup (zs.map V.str)):=Af
     generalize upd H5 rt (.tup (zs.map V.str))=H6 at S6 er ⊢
     exact⟨lr,_,_,rfl,rfl,S6 _ _ ey,by rw [ly];exact aD (show i<6 by omega) (by decide),⟨_,rfl⟩,(S4.trans S6).set hlr0,(R4.same S6).row (S6 _ _ ey) er ⟨e1,e2⟩⟩
   ·rintro σ H4 ⟨⟨v,rfl⟩,S4,R4⟩
    rw [Bz] at R4
    exact .inl (R4.done m1 m6 n1' n6 S4 k)
theorem b09 {f:Addr} {fd:ai} (Z:Al K t) (F:FunD K "_law_content" "_law_content" Sd f fd .none) (T:Tab P w K mg base 3 (Hb K t) bl):FnOk P w K mg base CX0 4 f fd Yu (Vd K t):=by
 refine F.okW0 b87 cg8 T (b60 K t) (fun vs H Q E h=>?_) (fun vs H Q E h=>?_)
 ·obtain⟨c,z,rfl,_⟩:=h;rfl
 ·obtain⟨c,z,rfl,hz,k⟩:=h
  refine A2 (c:=decide (z = "table")=true) (fun e=>?_) (fun e=>?_)
  ·have e:z = "table" := of_decide_eq_true e
   subst e
   exact⟨c,rfl,fun d H' x S f st dp a=>k (some d) H' x S f ⟨st,by omega⟩ a⟩
  ·have e:¬ z = "table" := fun h=>e (decide_eq_true h)
   refine⟨c,rfl,fun y H' S hy=>k (some (A0 y)) H' _ S ?_ ⟨Nr hy,by have:=Pc y;omega⟩ (ofS (K:=K) (H:=H') (z:=y))⟩
   show (if some z=some ("table" : Str) then V5 (some (A0 y)) else txO (some (A0 y)))=true
   rw [if_neg (fun q=>e (aN q))]
   exact hy
end
theorem Mz (l:List Nat):Txt.join (cb "") (l.map fun k=>(⟨#[k]⟩:Str))=⟨l.toArray⟩:=by
 show Builtin.Str.glued (cb "") _=_
 rw [StrLaws.glued_eq_join,show cb "" = (⟨#[]⟩:Str) from by decide +kernel]
 exact PyProof.Rows.join_ones l
theorem Ki {l:List Nat} {n:Int} (h0:0<=n) (h:n.toNat<=l.length):iV ⟨l.toArray⟩ none (some n)=⟨(l.take n.toNat).toArray⟩:=by
 have e:=bP (PyProof.Rows.slice_closes_to (x:=⟨l.toArray⟩) (j:=n) ⟨h0,by show n<=(l.length:Int);omega⟩)
 rw [e,Int.sub_zero]
 rfl
theorem Ss {l:List Nat} {n:Int} (h0:0<=n) (h:n.toNat<=l.length):iV ⟨l.toArray⟩ (some n) none=⟨(l.drop n.toNat).toArray⟩:=by
 have e:=bP (PyProof.Rows.slice_closes_from (x:=⟨l.toArray⟩) (i:=n) ⟨h0,by show n<=(l.length:Int);omega⟩)
 rw [e]
 show (⟨((l.drop n.toNat).take ((l.length:Int) - n).toNat).toArray⟩:Str)=_
 rw [eC (by rw [bz];omega)]
theorem av2 {l:List Nat} (h1:1<=l.length) (h2:l.length<=12) (a:∀ c∈l,Dg c=true):nmB ⟨l.toArray⟩=true:=by
 unfold nmB Ck
 have e:(⟨l.toArray⟩:Str).length=l.length:=by simp [iB]
 rw [e,decide_eq_true h1,decide_eq_true h2,av,av]
 refine List.all_eq_true.mpr fun c hc=>a c ?_
 simpa using hc
theorem L8 (l m:List Nat):(⟨l.toArray⟩:Str)++⟨m.toArray⟩=⟨(l++m).toArray⟩:=by
 show (⟨l.toArray++m.toArray⟩:Str)=_
 simp
theorem Hx (c:Nat) (l:List Nat):(⟨#[c]⟩:Str)++⟨l.toArray⟩=⟨(c::l).toArray⟩:=L8 [c] l
theorem M2 (l:List Nat):(⟨l.toArray⟩:Str).length=l.length:=by simp [iB]
theorem aq5 {n i:Nat} {x:V} (h:(Qh 1 n)[i]? = some x):i<n/\x=.int (1+(i:Int)):=by
 have hi:i<n:=by
  have:=(List.getElem?_eq_some_iff.mp h).1
  rw [Bz] at this
  exact this
 rw [Iz hi] at h
 exact⟨hi,(aN h).symm⟩
theorem Vk:alpha.cps.toList.length=37:=by decide +kernel
theorem Fh:alpha.length<=sizeLine:=by decide +kernel
theorem Fg (i:Int):∃ c,Dg c=true/\atI alpha.cps.toList (i % 37)=some c:=by
 obtain⟨c,hc,e⟩:=atM (xs:=alpha.cps.toList) i 37 (by rw [Vk];rfl) (by decide)
 exact⟨c,by rw [<- O7];exact decide_eq_true hc,e⟩
noncomputable def someN:List Str:=["chapter", "put", "para", "table", "top", "cut", "wrap", "move", "write", "none", "cell", "0"]
theorem ar2:∀ z∈someN,nmB z=true:=by decide +kernel
theorem ai5 (cs:List Nat):((cs.map fun c=>(⟨#[c]⟩:Str)).map (·.length)).sum=cs.length:=by
 induction cs with
 | nil=>rfl
 | cons c cs ih=>
  rw [ba,ba,List.sum_cons,ih,ax]
  show 1+cs.length=cs.length+1
  omega
section
variable {P:aI} {w:bq} {K:aa} {mg:Str->Option Value} {base:Heap} {t:Adr}
theorem a85 {f:Addr} {fd:ai} (Z:Al K t) (F:FunD K "_law_name" "_law_name" J1 f fd .none) (T:Tab P w K mg base 0 (A8 K t) bl):FnOk P w K mg base CX0 1 f fd Op (Gr K t):=by
 refine F.okW0 bn9 bt3 T (bj6 K t) (fun vs H Q E h=>?_) (fun vs H Q E h=>?_)
 ·obtain⟨c,n,rfl,_⟩:=h;rfl
 ·obtain⟨c,n,rfl,hn,k⟩:=h
  refine⟨(show 12<=sizeLine by decide),fun l hl=>?_⟩
  have S1:=Same.upd (o:=.lst (someN.map V.str)) hl
  have el:upd H l (.lst (someN.map V.str)) l=some (.lst (someN.map V.str)):=Af
  refine⟨by decide,A2 (fun e4=>?_) (fun e4=>?_)⟩
  ·obtain⟨v,hv,ev⟩:=atM (xs:=someN.map V.str) ((n:Int)+c / 5) 12 rfl (by decide)
   obtain⟨z,hz,rfl⟩:=List.mem_map.mp hv
   exact⟨⟨by decide,by decide⟩,by decide,_,_,.inl (SqL.of el),ev,k z _ S1 (ar2 z hz)⟩
  ·refine⟨rfl,⟨by decide,by decide,by decide,by decide⟩,fun D hD=>?_⟩
   refine Hw (Ep 1 11) (fun j σ' H'=>(∃ v,σ'=[v,some (.int c),some (.str alpha)])/\Same (upd H l (.lst (someN.map V.str))) H' /\ ∃ cs:List Nat,cs.length=j/\(∀ x∈cs,Dg x=true)/\H' D=some (.lst ((cs.map fun c=>(⟨#[c]⟩:Str)).map V.str))) ⟨⟨_,rfl⟩,Same.upd hD,[],rfl,(fun x hx=>by cases hx),Af⟩ (fun _ _ _ _ _=>bn) ?_ ?_
   ·rintro j x σ' H5 hxj ⟨⟨v,rfl⟩,S5,cs,e1,e2,e3⟩
    obtain⟨hj,rfl⟩:=aq5 hxj
    obtain⟨ch,hch,ec⟩:=Fg (c / 37+7 * (1+(j:Int)) * (1+(j:Int)))
    refine⟨⟨by decide,by decide⟩,.inl ⟨by decide,by decide⟩,.inr ⟨by omega,by omega⟩,by decide,Fh,ch,ec,?_⟩
    refine⟨_,e3,?_,⟨_,rfl⟩,S5.set hD,cs++[ch],by rw [aq,e1];rfl,fun y hy=>?_,by rw [Af,dt,dt];rfl⟩
    ·rw [aH,aH,e1];exact aD (show j<11 by omega) (by decide)
    ·rcases List.mem_append.mp hy with q|q
     ·exact e2 y q
     ·have:y=ch:=by simpa using q
      subst this;exact hch
   ·rintro σ' H5 ⟨_,S5,cs,e1,e2,e3⟩
    rw [Bz] at e1
    refine⟨"", D,cs.map fun c=>(⟨#[c]⟩:Str),rfl,rfl,SqL.of e3,?_,?_⟩
    ·rw [ai5,aH,e1];decide +kernel
    rw [Mz]
    have S15:=S1.trans S5
    refine⟨by decide,A2 (fun e5=>?_) (fun e5=>?_)⟩
    ·obtain⟨ch,hch,ec⟩:=Fg (c / 5+(n:Int) / 12)
     refine⟨⟨by decide,by decide⟩,⟨by decide,by decide⟩,by decide,Fh,ch,ec,by decide,?_⟩
     have m1:0<=(n:Int) % 12/\(n:Int) % 12<12:=by omega
     refine⟨by rw [M2,e1];decide,?_⟩
     rw [Ki m1.1 (by omega)]
     refine⟨?_,k _ _ S15 ?_⟩
     ·show 1+(⟨(cs.take ((n:Int) % 12).toNat).toArray⟩:Str).length<=sizeLine
      rw [M2,bc]
      exact aM (show 1+_<=100 by omega) (by decide)
     ·rw [Hx]
      refine av2 (by simp) (by simp;omega) fun x hx=>?_
      rcases List.mem_cons.mp hx with rfl|hx
      ·exact hch
      ·exact e2 x (dI hx)
    ·have big:100<=sizeLine:=by decide
     have hs:1<=1+c / 5 % 12/\1+c / 5 % 12<=12:=by omega
     refine⟨⟨by decide,by decide⟩,by decide,⟨by decide,by decide⟩,by omega,?_⟩
     have ha1:=b_ (c / 60) (show 1+c / 5 % 12≠0 by omega)
     have ha2:=bS (c / 60) (show 0<1+c / 5 % 12 by omega)
     obtain⟨ch,hch,ec⟩:=Fg (c / 720)
     obtain⟨ch2,hch2,ec2⟩:=Fg (c / 26640+(n:Int))
     refine⟨⟨by decide,by decide⟩,by decide,Fh,ch,ec,?_⟩
     refine⟨by show 1+(⟨cs.toArray⟩:Str).length<=sizeLine;rw [M2,e1];omega,by rw [Hx,M2,ax,e1];omega,?_⟩
     generalize 1+c / 5 % 12=sz at hs ha1 ha2 ⊢
     generalize c / 60 % sz=at_ at ha1 ha2 ⊢
     rw [Hx,Ki (l:=ch::cs) (n:=sz) (by omega) (by rw [ax];omega)]
     have lB:((ch::cs).take sz.toNat).length=sz.toNat:=by rw [bc,ax,e1];omega
     have aB:∀ x∈(ch::cs).take sz.toNat,Dg x=true:=fun x hx=>by
      rcases List.mem_cons.mp (dI hx) with rfl|hx
      ·exact hch
      ·exact e2 x hx
     generalize (ch::cs).take sz.toNat=B at lB aB ⊢
     refine⟨by rw [M2,lB];omega,?_⟩
     rw [Ki (l:=B) (n:=at_) ha1 (by omega)]
     refine⟨⟨by decide,by decide⟩,by decide,Fh,ch2,ec2,by rw [M2,bc];show _+1<=_;omega,by rw [M2,lB];omega,?_⟩
     rw [Ss (l:=B) (n:=at_+1) (by omega) (by omega)]
     have e7:(⟨(B.take at_.toNat).toArray⟩:Str)++⟨#[ch2]⟩=⟨(B.take at_.toNat++[ch2]).toArray⟩:=L8 _ [ch2]
     rw [e7]
     refine⟨by rw [M2,M2,aq,bc,bz];show _+1+_<=_;omega,k _ _ S15 ?_⟩
     rw [L8]
     refine av2 ?_ ?_ fun x hx=>?_
     ·rw [aq,aq,bc,bz];show 1<=_+1+_;omega
     ·rw [aq,aq,bc,bz];show _+1+_<=12;omega
     ·rcases List.mem_append.mp hx with hx|hx
      ·rcases List.mem_append.mp hx with hx|hx
       ·exact aB x (dI hx)
       ·have:x=ch2:=by simpa using hx
        subst this;exact hch2
      ·exact aB x (gX hx)
end
section
variable {K:aa} {t:Adr} {H:Hp} {Q:VK}
theorem ca0 {a:Addr} {xs:List V} {p:Nat} (q:SqT K H a xs) (hp:p<=xs.length) (k:∀ H' b,Same H H'->SqT K H' b (xs.take p)->Q (.ref b) H'):Qb K (.ref a) none (some (p:Int)) H Q:=by
 have s1:HT.sIx xs.length 0 none=0:=rfl
 have s2:HT.sIx xs.length xs.length (some (p:Int))=p:=by rw [HT.sIx_nat];omega
 refine .inr ⟨xs,q,fun hw=>?_,fun _ b hb=>k _ b (Same.upd hb) ?_⟩
 ·rw [s2] at hw
  refine k H a (Same.refl _) ?_
  rw [hw.2,List.take_length]
  exact q
 ·have:Fm xs none (some (p:Int))=xs.take p:=by unfold Fm;rw [s1,s2];rfl
  rw [this]
  exact SqT.of Af
theorem U6 {a:Addr} {xs:List V} {i:Int} {p:Nat} (q:SqT K H a xs) (hi:i=(p:Int)) (hp:p<=xs.length) (k:∀ H' b,Same H H'->SqT K H' b (xs.drop p)->Q (.ref b) H'):Qb K (.ref a) (some i) none H Q:=by
 subst hi
 have s1:HT.sIx xs.length 0 (some (p:Int))=p:=by rw [HT.sIx_nat];omega
 have s2:HT.sIx xs.length xs.length none=xs.length:=rfl
 refine .inr ⟨xs,q,fun hw=>?_,fun _ b hb=>k _ b (Same.upd hb) ?_⟩
 ·rw [s1] at hw
  refine k H a (Same.refl _) ?_
  rw [hw.1]
  exact q
 ·have:Fm xs (some (p:Int)) none=xs.drop p:=by
   unfold Fm;rw [s1,s2]
   rw [eC (by rw [bz];exact ae _)]
  rw [this]
  exact SqT.of Af
theorem Pb {a b:Addr} {xs ys:List V} (q:SqT K H a xs) (q2:SqT K H b ys) (hl:xs.length+ys.length<=100) (k:∀ H' c,Same H H'->SqT K H' c (xs++ys)->Q (.ref c) H'):As K (.ref a) (.ref b) H Q:=by
 by_cases hx:xs=[]
 ·subst hx
  exact .inr (.inr ⟨a,b,ys,rfl,rfl,q,q2,k H b (Same.refl _) q2⟩)
 ·refine .inr (.inl ⟨a,b,xs,ys,rfl,rfl,q,q2,hx,aM hl (by decide),fun hy=>?_,fun hy p hp=>k _ p (Same.upd hp) (SqT.of Af)⟩)
  subst hy
  exact k H a (Same.refl _) (by rw [eW];exact q)
theorem Ths.app:∀ {os us:List Th} {xs ys:List V},Ths K H os xs->Ths K H us ys->Ths K H (os++us) (xs++ys)
 | [],us,xs,ys,h,g=>by rw [show xs=[] from h];exact g
 | o::os,us,xs,ys,h,g=>by
  obtain⟨y,zs,rfl,h1,h2⟩:=h
  exact⟨y,zs++ys,rfl,h1,h2.app g⟩
theorem Ths.take:∀ {n:Nat} {os:List Th} {xs:List V},Ths K H os xs->Ths K H (os.take n) (xs.take n)
 | 0,_,_,_=>rfl
 | n+1,[],xs,h=>by rw [show xs=[] from h];rfl
 | n+1,o::os,xs,h=>by
  obtain⟨y,zs,rfl,h1,h2⟩:=h
  exact⟨y,zs.take n,rfl,h1,h2.take⟩
theorem Ths.drop:∀ {n:Nat} {os:List Th} {xs:List V},Ths K H os xs->Ths K H (os.drop n) (xs.drop n)
 | 0,_,_,h=>h
 | n+1,[],xs,h=>by rw [show xs=[] from h];rfl
 | n+1,o::os,xs,h=>by
  obtain⟨y,zs,rfl,h1,h2⟩:=h
  exact Ths.drop (n:=n) h2
theorem Ths.get:∀ {i:Nat} {os:List Th} {xs:List V},Ths K H os xs->i<os.length -> ∃ o x,os[i]? = some o/\xs[i]? = some x/\AtO K H o x
 | i,[],xs,h,hi=>by simp at hi
 | 0,o::os,xs,h,hi=>by
  obtain⟨y,zs,rfl,h1,h2⟩:=h
  exact⟨o,y,rfl,rfl,h1⟩
 | i+1,o::os,xs,h,hi=>by
  obtain⟨y,zs,rfl,h1,h2⟩:=h
  exact Ths.get (i:=i) h2 (by simpa using hi)
theorem Ths.set:∀ {i:Nat} {os:List Th} {xs:List V} {o:Th} {x:V},Ths K H os xs->AtO K H o x->Ths K H (os.set i o) (xs.set i x)
 | _,[],xs,o,x,h,g=>by rw [show xs=[] from h];rfl
 | 0,u::os,xs,o,x,h,g=>by
  obtain⟨y,zs,rfl,h1,h2⟩:=h
  exact⟨x,zs,rfl,g,h2⟩
 | i+1,u::os,xs,o,x,h,g=>by
  obtain⟨y,zs,rfl,h1,h2⟩:=h
  exact⟨y,zs.set i x,rfl,h1,h2.set g⟩
end
section
variable {P:aI} {w:bq} {K:aa} {mg:Str->Option Value} {base:Heap} {t:Adr}
theorem Ul {n i:Nat} (h:i<n):ixN n (i:Int)=some i:=by
 unfold ixN
 simp
 omega
theorem Qw {a:Addr} {xs:List V} {i j n:Nat} {σ:St} {H:Hp} {Q:VK} {E:EK} (hv:σ[i]? = some (some (.ref a))) (hw:σ[j]? = some (some (.int (n:Int)))) (q:SqT K H a xs) (hp:n<=xs.length) (k:∀ H' b,Same H H'->SqT K H' b (xs.take n)->Q (.ref b) H'):dSl K (Ac i) Bu (Co (Ac j)) σ H Q E:=by
 show Ac i σ H (fun x H1=>Ac j σ H1 (fun y H2=>(match y with
  | .int m=>Qb K x none (some m) H2 Q
  | _=>False)) E) E
 unfold Ac
 rw [hv,hw]
 exact ca0 q hp k
theorem a31 {a:Addr} {xs:List V} {i j n:Nat} {σ:St} {H:Hp} {Q:VK} {E:EK} (hv:σ[i]? = some (some (.ref a))) (hw:σ[j]? = some (some (.int (n:Int)))) (q:SqT K H a xs) (hp:n<=xs.length) (k:∀ H' b,Same H H'->SqT K H' b (xs.drop n)->Q (.ref b) H'):dSl K (Ac i) (Co (Ac j)) Bu σ H Q E:=by
 show Ac i σ H (fun x H1=>Ac j σ H1 (fun y H2=>(match y with
  | .int m=>Qb K x (some m) none H2 Q
  | _=>False)) E) E
 unfold Ac
 rw [hv,hw]
 exact U6 q rfl hp k
theorem Ud {a:Addr} {xs:List V} {i j n:Nat} {σ:St} {H:Hp} {Q:VK} {E:EK} (hv:σ[i]? = some (some (.ref a))) (hw:σ[j]? = some (some (.int (n:Int)))) (q:SqT K H a xs) (hp:n+1<=xs.length) (k:∀ H' b,Same H H'->SqT K H' b (xs.drop (n+1))->Q (.ref b) H'):dSl K (Ac i) (Co (Ad (As K) (Ac j) (dC (.int 1)))) Bu σ H Q E:=by
 show Ac i σ H (fun x H1=>Ac j σ H1 (fun y H2=>As K y (.int 1) H2 fun z H3=>(match z with
  | .int m=>Qb K x (some m) none H3 Q
  | _=>False)) E) E
 unfold Ac
 rw [hv,hw]
 exact U6 (p:=n+1) (i:=(n:Int)+1) q (by omega) hp k
theorem Kl {os us:List Th} (h:∀ o∈os,stO o) (g:∀ o∈us,stO o):∀ o∈os++us,stO o:=fun o ho=>(List.mem_append.mp ho).elim (h o) (g o)
theorem ca3 {o:Th} (h:stO o):∀ u∈[o],stO u:=fun u hu=>by rw [List.mem_singleton.mp hu];exact h
theorem Nt {os:List Th} {n:Nat} (h:∀ o∈os,stO o):∀ o∈os.take n,stO o:=fun o ho=>h o (dI ho)
theorem Nq {os:List Th} {n:Nat} (h:∀ o∈os,stO o):∀ o∈os.drop n,stO o:=fun o ho=>h o (gX ho)
theorem b17 {f:Addr} {fd:ai} (Z:Al K t) (F:FunD K "_law_spoilt" "_law_spoilt" So f fd .none) (T:Tab P w K mg base 1 (E3 K t) bl):FnOk P w K mg base CX0 2 f fd Y2 (ai4 K t):=by
 refine F.okW0 b95 ch7 T (b68 K t) (fun vs H Q E h=>?_) (fun vs H Q E h=>?_)
 ·obtain⟨p,os,c,d,rfl,_⟩:=h;rfl
 ·obtain⟨p,os,c,d,rfl,⟨xs,q,g⟩,st,l2,l6,k⟩:=h
  have gl:=g.length
  refine⟨⟨by decide,by decide⟩,.inl ⟨xs,.inr q,by omega,?_⟩⟩
  have a1:=b_ (c / 6) (show ((xs.length:Nat):Int)≠0 by omega)
  have a2:=bS (c / 6) (show (0:Int)<((xs.length:Nat):Int) by omega)
  obtain⟨n,en⟩:∃ n:Nat,c / 6 % ((xs.length:Nat):Int)=(n:Int):=⟨_,(cU a1).symm⟩
  rw [en] at a1 a2 ⊢
  have hn:n<xs.length:=by omega
  refine⟨by decide,A2 (fun e1=>?_) (fun e1=>?_)⟩
  ·dsimp only [Ag,Am,Ad]
   refine Qw (i:=0) (j:=3) (n:=n) rfl rfl q (by omega) fun H1 b1 S1 q1=>?_
   refine⟨d,rfl,fun H2 o x S2 so ho=>⟨(show 1<=sizeLine by decide),fun r hr=>?_⟩⟩
   have S3:=Same.upd (o:=.tup [x]) hr
   refine Pb (S3.seqT (S2.seqT q1)) (SqT.of Af) (by rw [bc];show _+1<=100;omega) fun H4 b4 S4 q4=>?_
   have S14:=(S1.trans S2).trans (S3.trans S4)
   refine Ud (i:=0) (j:=3) (n:=n) rfl rfl (S14.seqT q) (by omega) fun H5 b5 S5 q5=>?_
   refine Pb (S5.seqT q4) q5 (by rw [aq,bc,bz];show _+1+_<=100;omega) fun H6 b6 S6 q6=>?_
   have S16:=S14.trans (S5.trans S6)
   have g6:=g.up S16
   have hx6:AtO K H6 o x:=Ao (S3.trans (S4.trans (S5.trans S6))) ho
   have h1:Ths K H6 [o] [x]:=⟨x,[],rfl,hx6,rfl⟩
   refine k H6 b6 (os.take n++[o]++os.drop (n+1)) S16 ⟨_,q6,(g6.take.app h1).app g6.drop⟩ ⟨?_,?_⟩ ?_
   ·rw [aq,aq,bc,bz];show _+1+_<=10;omega
   ·exact Kl (Kl (Nt st) (ca3 so)) (Nq st)
   ·rw [aq,aq];show 1<=_+1+_;omega
  ·refine⟨by decide,A2 (fun e2=>?_) (fun e2=>?_)⟩
   ·dsimp only [Ag,Am,Ad]
    refine Qw (i:=0) (j:=3) (n:=n) rfl rfl q (by omega) fun H1 b1 S1 q1=>?_
    refine Ud (i:=0) (j:=3) (n:=n) rfl rfl (S1.seqT q) (by omega) fun H5 b5 S5 q5=>?_
    refine Pb (S5.seqT q1) q5 (by rw [bc,bz];omega) fun H6 b6 S6 q6=>?_
    have S16:=S1.trans (S5.trans S6)
    have g6:=g.up S16
    refine k H6 b6 (os.take n++os.drop (n+1)) S16 ⟨_,q6,g6.take.app g6.drop⟩ ⟨?_,Kl (Nt st) (Nq st)⟩ ?_
    ·rw [aq,bc,bz];omega
    ·rw [aq,bc,bz];omega
   ·refine⟨by decide,A2 (fun e3=>?_) (fun e3=>?_)⟩
    ·obtain⟨o,x,eo,ex,ho⟩:=g.get (i:=n) (by omega)
     dsimp only [Ag,Am,Ad]
     refine Qw (i:=0) (j:=3) (n:=n) rfl rfl q (by omega) fun H1 b1 S1 q1=>?_
     refine⟨_,x,.inr (S1.seqT q),Bg ex,(show 1<=sizeLine by decide),fun r hr=>?_⟩
     have S3:=Same.upd (o:=.tup [x]) hr
     refine Pb (S3.seqT q1) (SqT.of Af) (by rw [bc];show _+1<=100;omega) fun H4 b4 S4 q4=>?_
     have S14:=S1.trans (S3.trans S4)
     refine a31 (i:=0) (j:=3) (n:=n) rfl rfl (S14.seqT q) (by omega) fun H5 b5 S5 q5=>?_
     refine Pb (S5.seqT q4) q5 (by rw [aq,bc,bz];show _+1+_<=100;omega) fun H6 b6 S6 q6=>?_
     have S16:=S14.trans (S5.trans S6)
     have g6:=g.up S16
     have so:stO o:=st o (bB eo)
     have h1:Ths K H6 [o] [x]:=⟨x,[],rfl,Ao S16 ho,rfl⟩
     refine k H6 b6 (os.take n++[o]++os.drop n) S16 ⟨_,q6,(g6.take.app h1).app g6.drop⟩ ⟨?_,?_⟩ ?_
     ·rw [aq,aq,bc,bz];show _+1+_<=10;omega
     ·exact Kl (Kl (Nt st) (ca3 so)) (Nq st)
     ·rw [aq,aq];show 1<=_+1+_;omega
    ·refine .inl ⟨xs,.inr q,by omega,?_⟩
     have b1:=b_ d (show ((xs.length:Nat):Int)≠0 by omega)
     have b2:=bS d (show (0:Int)<((xs.length:Nat):Int) by omega)
     obtain⟨m,em⟩:∃ m:Nat,d % ((xs.length:Nat):Int)=(m:Int):=⟨_,(cU b1).symm⟩
     rw [em] at b1 b2 ⊢
     have hm:m<xs.length:=by omega
     obtain⟨o1,x1,eo1,ex1,ho1⟩:=g.get (i:=n) (by omega)
     obtain⟨o2,x2,eo2,ex2,ho2⟩:=g.get (i:=m) (by omega)
     refine .inl ⟨xs,.inr q,fun l hl=>?_⟩
     have S1:=Same.upd (o:=.lst xs) hl
     have el:upd H l (.lst xs) l=some (.lst xs):=Af
     generalize upd H l (.lst xs)=H1 at S1 el ⊢
     refine⟨_,x2,.inr (S1.seqT q),Bg ex2,.inl ⟨xs,n,el,Ul hn,?_⟩⟩
     have S2:Same H (upd H1 l (.lst (xs.set n x2))):=S1.set hl
     have el2:upd H1 l (.lst (xs.set n x2)) l=some (.lst (xs.set n x2)):=Af
     generalize upd H1 l (.lst (xs.set n x2))=H2 at S2 el2 ⊢
     refine⟨_,x1,.inr (S2.seqT q),Bg ex1,.inl ⟨_,m,el2,Ul (by rw [bO];exact hm),?_⟩⟩
     have S3:Same H (upd H2 l (.lst ((xs.set n x2).set m x1))):=S2.set hl
     have el3:upd H2 l (.lst ((xs.set n x2).set m x1)) l=some (.lst ((xs.set n x2).set m x1)):=Af
     generalize upd H2 l (.lst ((xs.set n x2).set m x1))=H3 at S3 el3 ⊢
     refine⟨_,.inl ⟨SqL.of el3,fun r hr=>?_⟩⟩
     have S4:=S3.trans (Same.upd (o:=.tup ((xs.set n x2).set m x1)) hr)
     refine k _ r ((os.set n o2).set m o1) S4 ⟨_,SqT.of Af,((g.up S4).set (Ao S4 ho2)).set (Ao S4 ho1)⟩ ⟨by rw [bO,bO];omega,fun u hu=>?_⟩ (by rw [bO,bO];omega)
     rcases fv hu with hu|rfl
     ·rcases fv hu with hu|rfl
      ·exact st u hu
      ·exact st _ (bB eo2)
     ·exact st _ (bB eo1)
end
end K28
set_option maxHeartbeats 400000
namespace K28
open PySem L2
noncomputable def Nj:V->Bool
 | .str z=>decide (z.length<=100)
 | _=>true
theorem E1 {v:V} (h:Nj v=true):stO (some (.at_ v)):=⟨.at_ v fun z e=>by subst e;exact of_decide_eq_true h,by unfold dep;decide⟩
noncomputable def stB:Nat->Dt->Bool
 | _,.at_ v=>Nj v
 | 0,_=>false
 | n+1,.tup ds=>decide (ds.length<=100)&&ds.all (stB n)
 | n+1,.lst ds=>decide (ds.length<=100)&&ds.all (stB n)
theorem Mq {n:Nat}:∀ {ds:List Dt},(∀ d∈ds,dep d<=n)->Dd ds<=n
 | [],_=>by unfold Dd;exact cY _
 | d::ds,h=>by unfold Dd;exact Nat.max_le.mpr ⟨h d (.head _),Mq fun u hu=>h u (.tail _ hu)⟩
theorem Np:∀ {n:Nat} {d:Dt},stB n d=true->StD d/\dep d<=n
 | n,.at_ v,h=>by
  have h:Nj v=true:=by cases n <;> exact h
  exact⟨(E1 h).1,by unfold dep;exact cY _⟩
 | 0,.tup ds,h=>by cases h
 | 0,.lst ds,h=>by cases h
 | n+1,.tup ds,h=>by
  have h:(decide (ds.length<=100)&&ds.all (stB n))=true:=h
  rw [am] at h
  have g:∀ d∈ds,StD d/\dep d<=n:=fun d hd=>Np (List.all_eq_true.mp h.2 d hd)
  exact⟨.tup ds (of_decide_eq_true h.1) fun d hd=>(g d hd).1,by unfold dep;exact eN (Mq fun d hd=>(g d hd).2)⟩
 | n+1,.lst ds,h=>by
  have h:(decide (ds.length<=100)&&ds.all (stB n))=true:=h
  rw [am] at h
  have g:∀ d∈ds,StD d/\dep d<=n:=fun d hd=>Np (List.all_eq_true.mp h.2 d hd)
  exact⟨.lst ds (of_decide_eq_true h.1) fun d hd=>(g d hd).1,by unfold dep;exact eN (Mq fun d hd=>(g d hd).2)⟩
theorem Cf {d:Dt} (h:stB 4 d=true):stO (some d):=⟨(Np h).1,aM (Np h).2 (by decide)⟩
section
variable {K:aa} {B:Hp} {σ:St} {E:EK} {P:Th->Prop}
noncomputable def GD (K:aa) (σ:St) (E:EK) (de:DE) (d:Dt):Prop:=∀ H1 (Q:VK),(∀ x H2,Same H1 H2->At K H2 d x->Q x H2)->de σ H1 Q E
noncomputable def GDs (K:aa) (σ:St) (E:EK) (da:DA) (ds:List Dt):Prop:=∀ H1 (Q:List V->Hp->Prop),(∀ xs H2,Same H1 H2->AtL K H2 ds xs->Q xs H2)->da σ H1 Q E
noncomputable def GR (B:Hp) (σ:St) (E:EK) (R:Hp->V->Prop) (de:DE):Prop:=∀ H1 (Q:VK),Same B H1->(∀ x H2,Same H1 H2->R H2 x->Q x H2)->de σ H1 Q E
noncomputable def Mo (R:Hp->V->Prop):Prop:=∀ H H' x,Same H H'->R H x->R H' x
noncomputable def GRs (B:Hp) (σ:St) (E:EK) (R:Hp->V->Prop) (n:Nat) (da:DA):Prop:=∀ H1 (Q:List V->Hp->Prop),Same B H1->(∀ xs H2,Same H1 H2->xs.length=n->(∀ x∈xs,R H2 x)->Q xs H2)->da σ H1 Q E
noncomputable def RP (K:aa) (P:Th->Prop) (H:Hp) (x:V):Prop:=∃ o,P o/\AtO K H o x
theorem Lu {K:aa} {P:Th->Prop}:Mo (RP K P):=fun H H' x S ⟨o,p,a⟩=>⟨o,p,Ao S a⟩
theorem Fr {v:V} (f:Bn v=true):GD K σ E (dC v) (.at_ v):=fun H1 Q q=>q v H1 (Same.refl _) (Fj f)
theorem B3:GDs K σ E Ae []:=fun H1 Q q=>q [] H1 (Same.refl _) Er
theorem Bi {de:DE} {da:DA} {d:Dt} {ds:List Dt} (h:GD K σ E de d) (g:GDs K σ E da ds):GDs K σ E (Aa de da) (d::ds):=fun H1 Q q=>
 h H1 _ fun x H2 S2 a=>g H2 _ fun xs H3 S3 b=>q (x::xs) H3 (S2.trans S3) (Dp (Hv S3 a) b)
theorem Ms {da:DA} {ds:List Dt} (g:GDs K σ E da ds) (l:ds.length<=1000):GD K σ E (Bm da) (.lst ds):=fun H1 Q q=>g H1 _ fun xs H2 S2 b=>⟨by rw [b.length];exact aM l (by decide),fun p hp=>
 q (.ref p) _ (S2.trans (Same.upd hp)) (a20 (SqL.of Af) (Ec (Same.upd hp) b))⟩
theorem Eh {da:DA} {ds:List Dt} (g:GDs K σ E da ds) (l:ds.length<=1000):GD K σ E (A6 da) (.tup ds):=fun H1 Q q=>g H1 _ fun xs H2 S2 b=>⟨by rw [b.length];exact aM l (by decide),fun p hp=>
 q (.ref p) _ (S2.trans (Same.upd hp)) (Hu (SqT.of Af) (Ec (Same.upd hp) b))⟩
theorem Ig {v:V} (f:Bn v=true):GD K σ E (A6 (Aa (dC v) Ae)) (.tup [.at_ v]):=Eh (Bi (Fr f) B3) (cy rfl)
theorem cj1 {de:DE} {d:Dt} (h:GD K σ E de d):GD K σ E (A6 (Aa de Ae)) (.tup [d]):=Eh (Bi h B3) (cy rfl)
theorem Ui {v u:V} (f:Bn v=true) (g:Bn u=true):GD K σ E (A6 (Aa (dC v) (Aa (dC u) Ae))) (.tup [.at_ v,.at_ u]):=Eh (Bi (Fr f) (Bi (Fr g) B3)) (cy rfl)
theorem Tu {H:Hp} {ds:List Dt} {xs:List V} (h:AtL K H ds xs):∀ n:Nat,AtL K H (aX n ds).flatten (aX n xs).flatten
 | 0=>Er
 | n+1=>by rw [b7,b7,cN,cN];exact Ma h (Tu h n)
theorem Zs {de:DE} {ds:List Dt} (k:Nat) (h:GD K σ E de (.tup ds)) (k2:2<=k) (k3:k<=1000) (h1:ds.length≠0) (h2:ds.length<=1000):GD K σ E (Ad (Ci K) de (dC (.int (k:Int)))) (.tup (aX k ds).flatten):=fun H1 Q q=>h H1 _ fun x H2 S2 a=>by
 obtain⟨p,xs,rfl,sq,g⟩:=B0 a
 refine .inr ⟨p,(k:Int),xs,rfl,rfl,sq,by omega,by omega,by rw [g.length];exact h1,by rw [g.length];exact h2,fun p2 hp2=>?_⟩
 rw [dw]
 exact q _ _ (S2.trans (Same.upd hp2)) (Hu (SqT.of Af) (Tu (Ec (Same.upd hp2) g) k))
theorem Mt {z:Str} {k:Int} (h:0<z.length/\2<=k/\k<=1000/\z.length * k.toNat<=16777216/\(aq3 z k.toNat).length<=16777216):GD K σ E (Ad (Ci K) (dC (.str z)) (dC (.int k))) (A0 (aq3 z k.toNat)):=fun H1 Q q=>
 ⟨h.1,h.2.1,h.2.2.1,h.2.2.2.1,h.2.2.2.2,q _ _ (Same.refl _) B6⟩
theorem Ft {de:DE} {d:Dt} (h:GD K σ E de d) (p:P (some d)):GR B σ E (RP K P) de:=fun H1 Q _ q=>h H1 _ fun x H2 S2 a=>q x H2 S2 ⟨some d,p,a⟩
theorem al7 (p:P none):GR B σ E (RP K P) Ld:=fun H1 Q _ q p' hp=>.inl (q _ _ (Same.upd hp) ⟨none,p,p',rfl,Af⟩)
theorem Cz {R:Hp->V->Prop}:GRs B σ E R 0 Ae:=fun H1 Q _ q=>q [] H1 (Same.refl _) rfl (fun o ho=>by cases ho)
theorem Ay {R:Hp->V->Prop} (m:Mo R) {de:DE} {da:DA} {n:Nat} (h:GR B σ E R de) (g:GRs B σ E R n da):GRs B σ E R (n+1) (Aa de da):=fun H1 Q S q=>
 h H1 _ S fun x H2 S2 a=>g H2 _ (S.trans S2) fun xs H3 S3 l b=>q (x::xs) H3 (S2.trans S3) (by rw [ax,l]) fun u hu=>by
  rcases List.mem_cons.mp hu with rfl|hu
  ·exact m _ _ _ S3 a
  ·exact b u hu
theorem Aq {de:DE} {da:DA} {n:Nat} (h:GR B σ E (RP K P) de) (g:GRs B σ E (RP K P) n da):GRs B σ E (RP K P) (n+1) (Aa de da):=Ay Lu h g
end
noncomputable abbrev tc {K:aa} {B:Hp} {σ:St} {E:EK} {v:V} (f:Bn v=true) (g:Nj v=true):GR B σ E (RP K stO) (dC v):=Ft (Fr f) (E1 g)
section
variable {K:aa} {B:Hp} {R:Hp->V->Prop}
noncomputable def LsAt (H:Hp) (R:Hp->V->Prop) (n:Nat) (l:Addr):Prop:=∃ xs,H l=some (.lst xs)/\xs.length=n /\ ∀ x∈xs,R H x
theorem LsAt.up (m:Mo R) {H H':Hp} {n:Nat} {l:Addr} (S:Same H H') (h:LsAt H R n l):LsAt H' R n l:=by
 obtain⟨xs,h1,h2,h3⟩:=h
 exact⟨xs,S _ _ h1,h2,fun x hx=>m _ _ _ S (h3 x hx)⟩
noncomputable def FsAt (H H':Hp) (R:Hp->V->Prop) (n:Nat) (l:Addr):Prop:=∃ Hm xs,Same H Hm/\Hm l=none/\H'=upd Hm l (.lst xs)/\xs.length=n /\ ∀ x∈xs,R Hm x
theorem FsAt.same {H H':Hp} {n:Nat} {l:Addr} (h:FsAt H H' R n l):Same H H':=by
 obtain⟨Hm,xs,S,h1,rfl,_⟩:=h
 exact S.trans (Same.upd h1)
theorem FsAt.ls (m:Mo R) {H H':Hp} {n:Nat} {l:Addr} (h:FsAt H H' R n l):LsAt H' R n l:=by
 obtain⟨Hm,xs,S,h1,rfl,e,p⟩:=h
 exact⟨xs,Af,e,fun x hx=>m _ _ _ (Same.upd h1) (p x hx)⟩
theorem as7 {da:DA} {σ:St} {H:Hp} {Q:VK} {E:EK} {n:Nat} (g:GRs B σ E R n da) (sb:Same B H) (hn:n<=1000) (k:∀ l H2,FsAt H H2 R n l->Q (.ref l) H2):Bm da σ H Q E:=g H _ sb fun xs H2 S2 l b=>⟨by rw [l];exact aM hn (by decide),fun a ha=>
 k a _ ⟨H2,xs,S2,ha,rfl,l,b⟩⟩
theorem af9 {i:Nat} {da:DA} {u:DS} {D:Cy} {σ:St} {H:Hp} {n:Nat} (g:GRs B σ (D.ex σ) R n da) (sb:Same B H) (hn:n<=1000) (k:∀ l H2,FsAt H H2 R n l->u D (σ.set i (some (.ref l))) H2):Ag (A1 i (Bm da)) u D σ H:=as7 (H:=H) (Q:=fun v H1=>u D (σ.set i (some v)) H1) g sb hn k
theorem Ug (mo:Mo R) {i:Nat} {l:Addr} {da:DA} {σ:St} {H:Hp} {Q:VK} {E:EK} {n m:Nat} (hv:σ[i]? = some (some (.ref l))) (hl:LsAt H R n l) (g:GRs B σ E R m da) (sb:Same B H) (hn:n+m<=1000) (hm:m<=1000) (k:∀ b H2,FsAt H H2 R (n+m) b->Q (.ref b) H2):Ad (As K) (Ac i) (Bm da) σ H Q E:=by
 show Ac i σ H (fun x H1=>Bm da σ H1 (fun y H2=>As K x y H2 Q) E) E
 unfold Ac
 rw [hv]
 refine as7 g sb hm fun b H2 h2=>?_
 obtain⟨xs,e1,n1,p1⟩:=hl.up mo h2.same
 obtain⟨ys,e2,n2,p2⟩:=h2.ls mo
 refine .inl ⟨l,b,xs,ys,rfl,rfl,e1,e2,by rw [n1,n2];exact aM hn (by decide),fun q hq=>?_⟩
 refine k q _ ⟨H2,xs++ys,h2.same,hq,rfl,by rw [aq,n1,n2],fun u hu=>?_⟩
 rcases List.mem_append.mp hu with hu|hu
 ·exact p1 u hu
 ·exact p2 u hu
theorem af8 (mo:Mo R) {i j:Nat} {l:Addr} {da:DA} {u:DS} {D:Cy} {σ:St} {H:Hp} {n m:Nat} (hv:σ[i]? = some (some (.ref l))) (hl:LsAt H R n l) (g:GRs B σ (D.ex σ) R m da) (sb:Same B H) (hn:n+m<=1000) (hm:m<=1000) (k:∀ b H2,FsAt H H2 R (n+m) b->u D (σ.set j (some (.ref b))) H2):Ag (A1 j (Ad (As K) (Ac i) (Bm da))) u D σ H:=Ug (H:=H) (Q:=fun v H1=>u D (σ.set j (some v)) H1) mo hv hl g sb hn hm k
theorem b43 {a b:DE} {u:DS} {D:Cy} {σ:St} {H:Hp} (h:a σ H (fun x H1=>b σ H1 (fun y H2=>Ak K x y H2 D.rt) (D.ex σ)) (D.ex σ)):Ag (Am (Ad (Ak K) a b)) u D σ H:=h
theorem LsAt.get {H:Hp} {n:Nat} {l:Addr} (h:LsAt H R n l) (i:Int) (h0:0<=i) (h1:i<n):∃ x xs,SqL K H l xs/\atI xs i=some x/\R H x:=by
 obtain⟨xs,e,rfl,p⟩:=h
 obtain⟨j,rfl⟩:∃ j:Nat,i=(j:Int):=⟨i.toNat,by omega⟩
 have hj:j<xs.length:=by omega
 exact⟨xs[j],xs,SqL.of e,Bg (a9 hj),p _ (bW hj)⟩
end
section
variable {P:aI} {w:bq} {K:aa} {mg:Str->Option Value} {base:Heap} {t:Adr}
theorem ad2:ay8 10 9:=⟨by decide,by decide,by decide +kernel⟩
theorem Mu {B:Hp} {σ:St} {E:EK} {de:DE} {i:Int} (h:∀ H (Q:VK),Q (.int i) H->de σ H Q E):GR B σ E (RP K stO) de:=fun H1 Q _ q=>h H1 _ (q _ _ (Same.refl _) ⟨some (.at_ (.int i)),E1 rfl,show At K H1 (.at_ (.int i)) (.int i) from Fj rfl⟩)
theorem a74 {f:Addr} {fd:ai} (Z:Al K t) (F:FunD K "_law_thing" "_law_thing" Jq f fd .none) (T:Tab P w K mg base 0 (A8 K t) bl):FnOk P w K mg base CX0 1 f fd Od (Sx K t):=by
  refine F.okW0 bm8 bs2 T (bi5 K t) (fun vs H Q E h=>?_) (fun vs H Q E h=>?_)
  . obtain⟨c,rfl,_⟩:=h;rfl
  . obtain⟨c,rfl,k⟩:=h
    have g1:∀ σ E,GRs H σ E (RP K stO) 15 _:=fun σ E=>Aq (tc (v:=.non) rfl rfl) (Aq (tc (v:=.bl true) rfl rfl) (Aq (Mu (i:=-1) (de:=dUn Fw (dC (.int 1))) fun H Q q=>q) (Aq (Mu (i:=10 ^ 9+1) (de:=Ad (As K) (Ad Dh (dC (.int 10)) (dC (.int 9))) (dC (.int 1))) fun H Q q=>⟨ad2,q⟩) (Aq (Mu (i:=10 ^ 9) (de:=Ad Dh (dC (.int 10)) (dC (.int 9))) fun H Q q=>⟨ad2,q⟩) (Aq (tc (v:=.int 0) rfl rfl) (Aq (tc (v:=.str "") rfl rfl) (Aq (tc (v:=.str "a") rfl rfl) (Aq (tc (v:=.str "A") rfl rfl) (Aq (tc (v:=.str "a b") rfl rfl) (Aq (tc (v:=.str ".") rfl rfl)
      (Aq (Ft (Mt (z := "a") (k:=13) (by decide +kernel)) (Cf (by decide +kernel))) (Aq (Ft (Mt (z := "a") (k:=12) (by decide +kernel)) (Cf (by decide +kernel))) (Aq (Ft (Mt (z := "a") (k:=61) (by decide +kernel)) (Cf (by decide +kernel))) (Aq (Ft (Mt (z := "b") (k:=60) (by decide +kernel)) (Cf (by decide +kernel))) Cz))))))))))))))
    have g2:∀ σ E,GRs H σ E (RP K stO) 11 _:=fun σ E=>Aq (tc (v:=.str "a\n") rfl rfl) (Aq (Ft (Ms B3 (by decide)) (Cf rfl)) (Aq (al7 bn) (Aq (Ft (Eh B3 (by decide)) (Cf rfl)) (Aq (Ft (Ig (v:=.str "a") rfl) (Cf rfl)) (Aq (Ft (Ms (Bi (Fr (v:=.str "a") rfl) B3) (by decide)) (Cf rfl)) (Aq (Ft (cj1 (Ig (v:=.str "a") rfl)) (Cf rfl)) (Aq (Ft (Eh (Bi (Ig (v:=.str "a") rfl) (Bi (Ui (v:=.str "a") (u:=.str "b") rfl rfl) B3)) (by decide)) (Cf rfl))
      (Aq (Ft (Zs 6 (Ig (v:=.str "a") rfl) (by decide) (by decide) (by decide) (by decide)) (Cf (by decide +kernel))) (Aq (Ft (Zs 7 (Ig (v:=.str "a") rfl) (by decide) (by decide) (by decide) (by decide)) (Cf (by decide +kernel))) (Aq (Ft (Ui (v:=.str "a") (u:=.int 1) rfl rfl) (Cf rfl)) Cz))))))))))
    have g3:∀ σ E,σ[0]? = some (some (.int c))->GRs H σ E (RP K stO) 5 _:=fun σ E hv=>Aq (tc (v:=.str "para") rfl rfl) (Aq (tc (v:=.str "put") rfl rfl) (Aq (tc (v:=.str "wrap") rfl rfl) (Aq (tc (v:=.str "chapter") rfl rfl) (Aq (Mu (i:=-1 - c / 32 % 10 ^ 9) (de:=Ad G5 (dUn Fw (dC (.int 1))) (Ad Ar (Ad A5 (Ac 0) (dC (.int 32))) (Ad Dh (dC (.int 10)) (dC (.int 9))))) fun H Q q=>by
      dsimp only [Ad,dUn,dC,Ac]
      rw [hv]
      exact⟨⟨by decide,by decide⟩,ad2,by decide,q⟩) Cz))))
    unfold ax9
    refine af9 (g1 _ _) (Same.refl _) (by decide) fun l1 H1 h1=>?_
    refine af8 Lu (i:=1) rfl (h1.ls Lu) (g2 _ _) h1.same (by decide) (by decide) fun l2 H2 h2=>?_
    have S2:=h1.same.trans h2.same
    obtain⟨Hm,xs,Sm,hm,rfl,n2,p2⟩:=h2
    refine⟨.inl ⟨rfl,xs,SqL.of Af⟩,⟨l2,xs,_,rfl,rfl,Af,by rw [n2];decide,?_⟩⟩
    rw [Ho]
    have Sn:=Same.upd (o:=.lst (xs++[.str "table"])) hm
    have hn:LsAt (upd Hm l2 (.lst (xs++[.str "table"]))) (RP K stO) 27 l2:=⟨_,Af,by rw [aq,n2];rfl,fun u hu=>by
      rcases List.mem_append.mp hu with hu|hu
      . exact Lu _ _ _ Sn (p2 u hu)
      . rw [List.mem_singleton.mp hu];exact⟨some (A0 "table"),E1 rfl,B6 (K:=K) (H:=Hm)⟩⟩
    have S3:Same H (upd Hm l2 (.lst (xs++[.str "table"]))):=h1.same.trans (Sm.trans Sn)
    generalize upd Hm l2 (.lst (xs++[.str "table"]))=H3 at hn S3 ⊢
    dsimp only;refine b43 ?_
    refine Ug Lu (i:=1) rfl hn (g3 _ _ rfl) S3 (by decide) (by decide) fun l4 H4 h4=>?_
    obtain⟨x,ys,q,e,o,po,a⟩:=(h4.ls Lu).get (K:=K) (c % 32) (by omega) (by omega)
    exact⟨by decide,ys,x,.inl q,e,k H4 o x (S3.trans h4.same) po a⟩
end
theorem stc {o:Th} {os:List Th} (h:stO o) (g:∀ u∈os,stO u):∀ u∈o::os,stO u:=fun u hu=>by
 rcases List.mem_cons.mp hu with rfl|hu
 ·exact h
 ·exact g u hu
theorem stn:∀ u∈([]:List Th),stO u:=fun u hu=>by cases hu
theorem Gv {z:Str} (h:z.length<=100):stO (some (A0 z)):=⟨.at_ _ fun y e=>by cases e;exact h,by unfold A0 dep;decide⟩
theorem ab5 {z:Str} (h:nmB z=true):z.length<=100:=by
 unfold nmB Ck at h
 simp only [am,decide_eq_true_eq] at h
 omega
noncomputable def FrO (os:List Th):Prop:=∃ i as,os=wdO i::as/\i<9/\as.length=ar i/\okE i as=true/\stL os
theorem as0:∀ i,i<9->1<=ar i/\ar i<=5:=by decide +kernel
theorem ci0:∀ i,i<9->(wd i).length<=100:=by decide +kernel
theorem Fq (i:Nat) {as:List Th} (hi:i<9) (l:as.length=ar i) (ok:okE i as=true) (st:∀ u∈as,stO u):FrO (wdO i::as):=
 ⟨i,as,rfl,hi,l,ok,by rw [ax,l];have:=as0 i hi;omega,stc (Gv (ci0 i hi)) st⟩
noncomputable def Ks (K:aa) (H:Hp) (x:V):Prop:=∃ p os,x=.ref p/\FrO os/\TpAt K H os p
theorem TpAt.up {K:aa} {H H':Hp} {os:List Th} {p:Addr} (S:Same H H') (h:TpAt K H os p):TpAt K H' os p:=by
 obtain⟨xs,q,g⟩:=h
 exact⟨xs,S.seqT q,g.up S⟩
theorem Cw {K:aa}:Mo (Ks K):=fun H H' x S ⟨p,os,e,f,g⟩=>⟨p,os,e,f,g.up S⟩
section
variable {K:aa} {B:Hp} {σ:St} {E:EK} {P:List Th->Prop} {da:DA}
noncomputable def GT (K:aa) (B:Hp) (σ:St) (E:EK) (da:DA) (P:List Th->Prop):Prop:=∀ H1 (Q:List V->Hp->Prop),Same B H1->(∀ xs os H2,Same H1 H2->Ths K H2 os xs->P os->Q xs H2)->da σ H1 Q E
theorem D0 (h:P []):GT K B σ E Ae P:=fun H1 Q _ q=>q [] [] H1 (Same.refl _) rfl h
theorem Mv {v:V} (f:Bn v=true) (g:GT K B σ E da fun os=>P (some (.at_ v)::os)):GT K B σ E (Aa (dC v) da) P:=fun H1 Q S q=>g H1 _ S fun xs os H2 S2 t p=>q (v::xs) (some (.at_ v)::os) H2 S2 ⟨v,xs,rfl,Fj (K:=K) (H:=H2) f,t⟩ p
theorem Cq {i:Nat} {x:V} {o:Th} (hv:σ[i]? = some (some x)) (ho:AtO K B o x) (g:GT K B σ E da fun os=>P (o::os)):GT K B σ E (Aa (Ac i) da) P:=fun H1 Q S q=>by
 show Ac i σ H1 (fun x H2=>da σ H2 _ E) E
 unfold Ac
 rw [hv]
 exact g H1 _ S fun xs os H2 S2 t p=>q (x::xs) (o::os) H2 S2 ⟨x,xs,rfl,Ao (S.trans S2) ho,t⟩ p
theorem bx0 {de:DE} {R:Th->Prop} (h:∀ H1 (Q:VK),Same B H1->(∀ x o H2,Same H1 H2->AtO K H2 o x->R o->Q x H2)->de σ H1 Q E) (g:∀ o,R o->GT K B σ E da fun os=>P (o::os)):GT K B σ E (Aa de da) P:=fun H1 Q S q=>
 h H1 _ S fun x o H2 S2 a r=>g o r H2 _ (S.trans S2) fun xs os H3 S3 t p=>q (x::xs) (o::os) H3 (S2.trans S3) ⟨x,xs,rfl,Ao S3 a,t⟩ p
theorem Dz (g:GT K B σ E da FrO):GR B σ E (Ks K) (A6 da):=fun H1 Q S q=>g H1 _ S fun xs os H2 S2 t p=>⟨by
 obtain⟨i,as,_,_,_,_,h,_⟩:=id p
 rw [t.length];exact aM h (by decide),fun a ha=>q (.ref a) _ (S2.trans (Same.upd ha)) ⟨a,os,rfl,p,xs,SqT.of Af,t.up (Same.upd ha)⟩⟩
end
section
variable {K:aa} {t:Adr} {B:Hp} {σ:St} {E:EK}
noncomputable def Qy (K:aa) (t:Adr) (i:Int):DE:=(dFn (spE (Gr K t) []) (Aa (Ad (Ak K) (Ac 1) (dC (.int 1))) (Aa (Ad Ar (Ad (Ak K) (Ac 1) (dC (.int i))) (dC (.int 10))) Ae)))
theorem Q6 {l:Addr} {xs:List V} {i n m:Int} (hv:σ[1]? = some (some (.ref l))) (q:SqL K B l xs) (h1:atI xs 1=some (.int n)) (h2:atI xs i=some (.int m)):∀ H1 (Q:VK),Same B H1->(∀ z H2,Same H1 H2->nmB z=true->Q (.str z) H2)->Qy K t i σ H1 Q E:=fun H1 Q S k=>by
 obtain⟨j,e,g⟩:∃ j:Nat,m % 10=(j:Int)/\j<10:=Eg m (m:=10) (by decide)
 unfold Qy
 dsimp only [dFn,Aa,Ad,Ac,dC,Ae]
 rw [hv]
 exact⟨xs,_,.inl (S.seqL q),h1,xs,_,.inl (S.seqL q),h2,by decide,n,j,congrArg (fun v=>[V.int n,V.int v]) e,by omega,k⟩
noncomputable def Zd (K:aa) (i:Int):DE:=(Ad (Ak K) (Bm (Aa (Ad Ar (Ad A5 (Ad (Ak K) (Ac 1) (dC (.int i))) (dC (.int 3))) (dC (.int 9))) (Aa (Ad G5 (Ad Dh (dC (.int 10)) (dC (.int 9))) (Ad Ar (Ad A5 (Ad (Ak K) (Ac 1) (dC (.int i))) (dC (.int 3))) (dC (.int 2)))) (Aa (Ad Ar (Ad A5 (Ad (Ak K) (Ac 1) (dC (.int i))) (dC (.int 3))) (Ad Dh (dC (.int 10)) (dC (.int 9)))) Ae)))) (Ad Ar (Ad (Ak K) (Ac 1) (dC (.int i))) (dC (.int 3))))
theorem Zq {l:Addr} {xs:List V} {i n:Int} {j:Nat} {u:DS} {D:Cy} {H:Hp} (hv:σ[1]? = some (some (.ref l))) (q:SqL K H l xs) (h2:atI xs i=some (.int n)) (k:∀ r H2,Same H H2->0<=r->r<=1000000000->u D (σ.set j (some (.int r))) H2):Ag (A1 j (Zd K i)) u D σ H:=by
 unfold Zd
 dsimp only [Ag,A1,Bm,Aa,Ad,Ac,dC,Ae]
 rw [hv]
 refine⟨xs,_,.inl q,h2,⟨by decide,by decide⟩,by decide,ad2,xs,_,.inl q,h2,⟨by decide,by decide⟩,by decide,xs,_,.inl q,h2,⟨by decide,by decide⟩,ad2,by decide,(show 3<=sizeLine by decide),fun p hp=>?_⟩
 have S:=Same.upd (o:=.lst [.int (n / 3 % 9),.int (10 ^ 9 - n / 3 % 2),.int (n / 3 % 10 ^ 9)]) hp
 obtain⟨v,hv,ev⟩:=atM (xs:=[V.int (n / 3 % 9),.int (10 ^ 9 - n / 3 % 2),.int (n / 3 % 10 ^ 9)]) n 3 rfl (by decide)
 refine⟨xs,_,.inl (S.seqL q),h2,by decide,_,v,.inl (SqL.of Af),ev,?_⟩
 have go:∃ r,v=.int r/\0<=r/\r<=1000000000:=by
  simp only [ay,aU,or_false] at hv
  rcases hv with rfl|rfl|rfl
  ·exact⟨_,rfl,by omega,by omega⟩
  ·exact⟨_,rfl,by omega,by omega⟩
  ·exact⟨_,rfl,by omega,by omega⟩
 obtain⟨r,rfl,r1,r2⟩:=go
 exact k r _ S r1 r2
theorem af7 {r:Int} (h1:0<=r) (h2:r<=1000000000):rkO (some (.at_ (.int r)))=true:=by
 show (decide (0<=r)&&decide (r<=1000000000))=true
 rw [decide_eq_true h1,decide_eq_true h2];rfl
theorem b29 (b:Bool) (x y:V):∃ v,atI [x,y] (if b then 1 else 0)=some v/\(v=x\/v=y):=by
 cases b
 ·exact⟨x,rfl,.inl rfl⟩
 ·exact⟨y,rfl,.inr rfl⟩
end
structure Vr (σ:St) (l p7:Addr) (z2 y3 z4 z8:Str) (r5 r6:Int):Prop where
 h1:σ[1]? = some (some (.ref l))
 h2:σ[2]? = some (some (.str z2))
 h3:σ[3]? = some (some (.str y3))
 h4:σ[4]? = some (some (.str z4))
 h5:σ[5]? = some (some (.int r5))
 h6:σ[6]? = some (some (.int r6))
 h7:σ[7]? = some (some (.ref p7))
 h8:σ[8]? = some (some (.str z8))
theorem Vr.set {σ:St} {l p7:Addr} {z2 y3 z4 z8:Str} {r5 r6:Int} {v:Option V} (h:Vr σ l p7 z2 y3 z4 z8 r5 r6):Vr (σ.set 9 v) l p7 z2 y3 z4 z8 r5 r6:=by
 constructor <;> rw [dG (by decide)]
 ·exact h.h1
 ·exact h.h2
 ·exact h.h3
 ·exact h.h4
 ·exact h.h5
 ·exact h.h6
 ·exact h.h7
 ·exact h.h8
section
variable {K:aa} {t:Adr} {B:Hp} {σ:St} {E:EK}
noncomputable def Qx (K:aa) (t:Adr):DE:=(dFn (spE (Vd K t) []) (Aa (Ac 8) (Aa (Ad (Ak K) (Ac 1) (dC (.int 4))) Ae)))
theorem a37 {l:Addr} {xs:List V} {n:Int} {z:Str} (hv:σ[1]? = some (some (.ref l))) (hw:σ[8]? = some (some (.str z))) (q:SqL K B l xs) (h1:atI xs 4=some (.int n)) (hz:kdS z=true):∀ H1 (Q:VK),Same B H1->(∀ x o H2,Same H1 H2->AtO K H2 o x->(By (some (A0 z)) o=true/\stO o)->Q x H2)->Qx K t σ H1 Q E:=fun H1 Q S k=>by
 unfold Qx
 dsimp only [dFn,Aa,Ad,Ac,dC,Ae]
 rw [hv,hw]
 exact⟨xs,_,.inl (S.seqL q),h1,n,z,rfl,hz,fun o H2 x S2 f st a=>k x o H2 S2 a ⟨f,st⟩⟩
theorem Zn {l p7:Addr} {z2 y3 z4 z8:Str} {r5 r6 n0:Int} {xs:List V} {D:Cy} {dA dB dC' dD:DA}
  (gA:∀ σ E,Vr σ l p7 z2 y3 z4 z8 r5 r6->GRs B σ E (Ks K) 2 dA) (gB:∀ σ E,Vr σ l p7 z2 y3 z4 z8 r5 r6->GRs B σ E (Ks K) 3 dB) (gC:∀ σ E,Vr σ l p7 z2 y3 z4 z8 r5 r6->GRs B σ E (Ks K) 3 dC') (gD:∀ σ E,Vr σ l p7 z2 y3 z4 z8 r5 r6->GRs B σ E (Ks K) 1 dD)
  (hl:σ.length=10) (v:Vr σ l p7 z2 y3 z4 z8 r5 r6) (q10:SqL K B l xs) (h0:atI xs 0=some (.int n0)) (k:∀ H' p i as,Same B H'->i<9->as.length=ar i->okE i as=true->stL (wdO i::as)->TpAt K H' (wdO i::as) p->D.rt (.ref p) H') :
  Ag (A1 9 (Bm dA)) (Ag (A1 9 (Ad (As K) (Ac 9) (Bm dB))) (Ag (A1 9 (Ad (As K) (Ac 9) (Bm dC'))) (Ag (Am (Ad (Ak K) (Ad (As K) (Ac 9) (Bm dD)) (Ad Ar (Ad (Ak K) (Ac 1) (dC (.int 0))) (dC (.int 9))))) Ah))) D σ B:=by
 have g9:∀ (τ:St) (u:Option V),τ.length=10->(τ.set 9 u)[9]? = some u:=fun τ u h=>dg (by omega)
 refine af9 (gA _ _ v) (Same.refl _) (by decide) fun l1 H11 h1=>?_
 refine af8 Cw (i:=9) (g9 _ _ hl) (h1.ls Cw) (gB _ _ v.set) h1.same (by decide) (by decide) fun l2 H12 h2=>?_
 have U12:=h1.same.trans h2.same
 have hl2:(σ.set 9 (some (.ref l1))).length=10:=by rw [bO];exact hl
 refine af8 Cw (i:=9) (g9 _ _ hl2) (h2.ls Cw) (gC _ _ v.set.set) U12 (by decide) (by decide) fun l3 H13 h3=>?_
 have U13:=U12.trans h3.same
 have hl3:((σ.set 9 (some (.ref l1))).set 9 (some (.ref l2))).length=10:=by rw [bO];exact hl2
 refine b43 ?_
 refine Ug Cw (i:=9) (g9 _ _ hl3) (h3.ls Cw) (gD _ _ v.set.set.set) U13 (by decide) (by decide) fun l4 H14 h4=>?_
 have U14:=U13.trans h4.same
 obtain⟨x,ys,qy,e,p,os,rfl,⟨i,as,rfl,hi,la,ok,st⟩,hp⟩:=(h4.ls Cw).get (K:=K) (n0 % 9) (by omega) (by omega)
 dsimp only [Ad,Ac,dC]
 rw [v.set.set.set.h1]
 exact⟨_,_,.inl (U14.seqL q10),h0,by decide,ys,_,.inl qy,e,k H14 p i as U14 hi la ok st hp⟩
end
section
variable {P:aI} {w:bq} {K:aa} {mg:Str->Option Value} {base:Heap} {t:Adr}
theorem aq7 {e:DE} {j:Nat} {u:DS} {D:Cy} {σ:St} {H:Hp} (h:e σ H (fun v H1=>u D (σ.set j (some v)) H1) (D.ex σ)):Ag (A1 j e) u D σ H:=h
theorem ck5 {e b:DE} {v:V} {j:Nat} {u:DS} {D:Cy} {σ:St} {H:Hp} (h:e σ H (fun x H1=>2<=sizeLine /\ ∀ p,H1 p=none->b σ (upd H1 p (.lst [x,v])) (fun y H2=>Ak K (.ref p) y H2 fun w H3=>u D (σ.set j (some w)) H3) (D.ex σ)) (D.ex σ)):Ag (A1 j (Ad (Ak K) (Bm (Aa e (Aa (dC v) Ae))) b)) u D σ H:=h
theorem a82 {f:Addr} {fd:ai} (Z:Al K t) (F:FunD K "_law_form" "_law_form" Jy f fd .none) (T:Tab P w K mg base 4 (V6 K t) bl):FnOk P w K mg base CX0 5 f fd Om (S0 K t):=by
 refine F.okW0 bn6 bt0 T (bj3 K t) (fun vs H Q E h=>?_) (fun vs H Q E h=>?_)
 ·obtain⟨c,rfl,_⟩:=h;rfl
 ·obtain⟨c,rfl,k⟩:=h
  unfold ay1
  refine⟨c,9,rfl,by decide,fun H1 l ns S1 hl el en eb=>?_⟩
  match ns,en with
  | [n0,n1,n2,n3,n4,n5,n6,n7,n8],_=>
   have q:SqL K H1 l ([n0,n1,n2,n3,n4,n5,n6,n7,n8].map V.int):=SqL.of el
   clear eb
   dsimp only
   refine aq7 (Q6 (K:=K) (t:=t) (i:=2) (m:=n2) (n:=n1) rfl q rfl rfl H1 _ (Same.refl _) fun z2 H2 S2 hz2=>?_)
   have q2:=S2.seqL q
   have T2:=S1.trans S2
   refine ck5 (Q6 (K:=K) (t:=t) (i:=3) (m:=n3) (n:=n1) rfl q2 rfl rfl H2 _ (Same.refl _) fun z3 H3 S3 hz3=>⟨(show 2<=sizeLine by decide),fun p3 hp3=>?_⟩)
   have S4:=S3.trans (Same.upd (o:=.lst [.str z3,.str ""]) hp3)
   have ep:upd H3 p3 (.lst [.str z3,.str ""]) p3=some (.lst [.str z3,.str ""]):=Af
   generalize upd H3 p3 (.lst [.str z3,.str ""])=H4 at S4 ep ⊢
   have q4:=S4.seqL q2
   obtain⟨v3,ev,hv⟩:=b29 (decide (n3 / 10 % 4=0)) (.str z3) (.str "")
   refine⟨_,_,.inl q4,rfl,⟨by decide,by decide⟩,by decide,_,v3,.inl (SqL.of ep),ev,?_⟩
   obtain⟨y3,rfl,hy3,ly3⟩:∃ y,v3=.str y/\prO (some (A0 y))=true/\y.length<=100:=by
    rcases hv with rfl|rfl
    ·exact⟨z3,rfl,by show (nmB z3||_)=true;rw [hz3];rfl,ab5 hz3⟩
    ·exact⟨_,rfl,by decide +kernel,by decide⟩
   have T4:=T2.trans S4
   refine⟨_,_,.inl q4,rfl,n4,rfl,fun z4 H5 S5 hz4=>?_⟩
   have q5:=S5.seqL q4
   have T5:=T4.trans S5
   dsimp only
   refine Zq (i:=5) (n:=n5) rfl q5 rfl fun r5 H6 S6 r5a r5b=>?_
   have q6:=S6.seqL q5
   have T6:=T5.trans S6
   refine Zq (i:=6) (n:=n6) rfl q6 rfl fun r6 H7 S7 r6a r6b=>?_
   have q7:=S7.seqL q6
   have T7:=T6.trans S7
   obtain⟨m,em,m6⟩:∃ m:Nat,n7 % 6=(m:Int)/\m<6:=Eg n7 (m:=6) (by decide)
   refine aq7 ⟨_,_,.inl q7,rfl,by decide,⟨by omega,by omega⟩,fun D hD=>?_⟩
   rw [show (1+n7 % 6).toNat=m+1 by omega]
   refine Hw (Ep 0 (m+1)) (fun j σ' H'=>(∃ v,σ'=[v,some (.ref l)])/\Same H7 H' /\ ∃ zs:List Str,zs.length=j/\(∀ z∈zs,wfS z)/\H' D=some (.lst (zs.map V.str)))
    ⟨⟨_,rfl⟩,Same.upd hD,[],rfl,(fun z hz=>by cases hz),Af⟩ (fun _ _ _ _ _=>bn) ?_ ?_
   ·rintro j xj σ' H8 hxj ⟨⟨v,rfl⟩,S8,zs,e1,e2,e3⟩
    obtain⟨hj,rfl⟩:=Ni hxj
    refine⟨_,_,.inl (S8.seqL q7),rfl,_,rfl,fun z H9 S9 hz=>?_⟩
    refine⟨_,S9 _ _ e3,?_,⟨_,rfl⟩,(S8.trans S9).set hD,zs++[z],by rw [aq,e1];rfl,fun z' hz'=>?_,by rw [Af,dt];rfl⟩
    ·rw [aH,e1];exact aD (show j<6 by omega) (by decide)
    ·rcases List.mem_append.mp hz' with q|q
     ·exact e2 z' q
     ·have:z'=z:=by simpa using q
      subst this;exact hz
   ·rintro σ' H8 ⟨_,S8,zs,e1,e2,e3⟩
    rw [Bz] at e1
    refine⟨_,.inl ⟨SqL.of e3,fun p7 hp7=>?_⟩⟩
    have S9:=S8.trans (Same.upd (o:=.tup (zs.map V.str)) hp7)
    have e7:AtO K (upd H8 p7 (.tup (zs.map V.str))) (some (Fe zs)) (.ref p7):=Mc (SqT.of Af)
    generalize upd H8 p7 (.tup (zs.map V.str))=H9 at S9 e7 ⊢
    have hrw:rwO (some (Fe zs))=true:=U0 (m:=m+1) (by omega) (by omega) ⟨e1,e2⟩
    have q9:=S9.seqL q7
    have T9:=T7.trans S9
    dsimp only
    refine aq7 ⟨(show 3<=sizeLine by decide),fun p8 hp8=>?_⟩
    have S10:=Same.upd (o:=.lst [.str "chapter", .str "para", .str "table"]) hp8
    have e8:upd H9 p8 (.lst [.str "chapter", .str "para", .str "table"]) p8=some (.lst [.str "chapter", .str "para", .str "table"]):=Af
    generalize upd H9 p8 (.lst [.str "chapter", .str "para", .str "table"])=H10 at S10 e8 ⊢
    have q10:=S10.seqL q9
    have T10:=T9.trans S10
    have e7:=Ao S10 e7
    obtain⟨v8,hv8,ev8⟩:=atM (xs:=[V.str "chapter", .str "para", .str "table"]) n8 3 rfl (by decide)
    refine⟨_,_,.inl q10,rfl,by decide,_,v8,.inl (SqL.of e8),ev8,?_⟩
    obtain⟨z8,rfl,hk8,l8⟩:∃ y,v8=.str y/\kdS y=true/\y.length<=100:=by
     simp only [ay,aU,or_false] at hv8
     rcases hv8 with rfl|rfl|rfl
     ·exact⟨_,rfl,by decide +kernel,by decide⟩
     ·exact⟨_,rfl,by decide +kernel,by decide⟩
     ·exact⟨_,rfl,by decide +kernel,by decide⟩
    have sP:stO (some (A0 z2)):=Gv (ab5 hz2)
    have sO:stO (some (A0 y3)):=Gv ly3
    have sT:stO (some (A0 z4)):=Gv (aM (ay4 hz4) (by decide))
    have sK:stO (some (A0 z8)):=Gv l8
    have sA:stO (some (.at_ (.int r5))):=E1 rfl
    have sZ:stO (some (.at_ (.int r6))):=E1 rfl
    have sR:stO (some (Fe zs)):=⟨.tup _ (by rw [aH,e1];omega) fun d hd=>by
     obtain⟨z,hz,rfl⟩:=List.mem_map.mp hd
     exact Nr (e2 z hz),aM (Uc zs) (by decide)⟩
    have kP:nmO (some (A0 z2))=true:=hz2
    have kA:=af7 r5a r5b
    have kZ:=af7 r6a r6b
    have kT:txO (some (A0 z4))=true:=hz4
    have kK:kdO (some (A0 z8))=true:=hk8
    have f0:∀ o,(By (some (A0 z8)) o=true/\stO o)->FrO (wdO 0::[some (A0 z2),some (A0 z8),some (A0 y3),some (.at_ (.int r5)),o]):=fun o h=>Fq 0 (by decide) rfl (by
     show ((nmO _&&(prO _&&rkO _))&&(kdO _&&By _ _))=true
     rw [kP,hy3,kA,kK,h.1];rfl) (stc sP (stc sK (stc sO (stc sA (stc h.2 stn)))))
    have f1:FrO (wdO 1::[some (A0 z2),some (A0 z4)]):=Fq 1 (by decide) rfl (by show (nmO _&&txO _)=true;rw [kP,kT];rfl) (stc sP (stc sT stn))
    have f2:FrO (wdO 2::[some (A0 z2),some (.at_ (.int r5)),some (.at_ (.int r6)),some (A0 z4)]):=Fq 2 (by decide) rfl (by show (nmO _&&(rkO _&&(rkO _&&txO _)))=true;rw [kP,kA,kZ,kT];rfl) (stc sP (stc sA (stc sZ (stc sT stn))))
    have f3:FrO (wdO 3::[some (A0 z2),some (.at_ (.int r5)),some (.at_ (.int r6)),some (A0 z4)]):=Fq 3 (by decide) rfl (by show (nmO _&&(rkO _&&(rkO _&&txO _)))=true;rw [kP,kA,kZ,kT];rfl) (stc sP (stc sA (stc sZ (stc sT stn))))
    have f4:FrO (wdO 4::[some (A0 z2),some (.at_ (.int r5)),some (Fe zs)]):=Fq 4 (by decide) rfl (by show (nmO _&&(rkO _&&rwO _))=true;rw [kP,kA,hrw];rfl) (stc sP (stc sA (stc sR stn)))
    have f5:FrO (wdO 5::[some (A0 z2),some (.at_ (.int r5))]):=Fq 5 (by decide) rfl (by show (nmO _&&rkO _)=true;rw [kP,kA];rfl) (stc sP (stc sA stn))
    have f6:FrO (wdO 6::[some (A0 z2)]):=Fq 6 (by decide) rfl kP (stc sP stn)
    have f7:FrO (wdO 7::[some (A0 z2),some (A0 y3),some (.at_ (.int r5))]):=Fq 7 (by decide) rfl (by show (nmO _&&(prO _&&rkO _))=true;rw [kP,hy3,kA];rfl) (stc sP (stc sO (stc sA stn)))
    have f8:∀ z,nmB z=true->FrO (wdO 8::[some (A0 z2),some (A0 z),some (A0 z4)]):=fun z h=>Fq 8 (by decide) rfl (by
     show (nmO _&&(nmB z&&txO _))=true
     rw [kP,h,kT];rfl) (stc sP (stc (Gv (ab5 h)) (stc sT stn)))
    have aP:AtO K H10 (some (A0 z2)) (.str z2):=B6 (K:=K) (H:=H10)
    have aO:AtO K H10 (some (A0 y3)) (.str y3):=B6 (K:=K) (H:=H10)
    have aT:AtO K H10 (some (A0 z4)) (.str z4):=B6 (K:=K) (H:=H10)
    have aK:AtO K H10 (some (A0 z8)) (.str z8):=B6 (K:=K) (H:=H10)
    have aA:AtO K H10 (some (.at_ (.int r5))) (.int r5):=Fj (K:=K) (H:=H10) rfl
    have aZ:AtO K H10 (some (.at_ (.int r6))) (.int r6):=Fj (K:=K) (H:=H10) rfl
    clear hz3 hv hv8 ev8 ev ep e3 el e8 hD hp7 hp8 hp3 hl q q2 q4 q5 q6 q7 q9
    clear S1 S2 S3 S4 S5 S6 S7 S8 S9 S10 T2 T4 T5 T6 T7 T9
    have gA:∀ σ E,Vr σ l p7 z2 y3 z4 z8 r5 r6->GRs H10 σ E (Ks K) 2 _:=fun σ E v=>Ay Cw (Dz (Mv (v:=.str "put") rfl (Cq v.h2 aP (Cq v.h8 aK (Cq v.h3 aO (Cq v.h5 aA (bx0 (R:=fun o=>By (some (A0 z8)) o=true/\stO o) (de:=Qx K t) (fun H1 Q S kk=>a37 v.h1 v.h8 q10 (n:=n4) rfl hk8 H1 Q S fun x o H2 S2 a f=>kk x o H2 S2 a f) fun o ho=>D0 (f0 o ho)))))))) (Ay Cw (Dz (Mv (v:=.str "write") rfl (Cq v.h2 aP (Cq v.h4 aT (D0 f1))))) Cz)
    have gB:∀ σ E,Vr σ l p7 z2 y3 z4 z8 r5 r6->GRs H10 σ E (Ks K) 3 _:=fun σ E v=>Ay Cw (Dz (Mv (v:=.str "splice") rfl (Cq v.h2 aP (Cq v.h5 aA (Cq v.h6 aZ (Cq v.h4 aT (D0 f2))))))) (Ay Cw (Dz (Mv (v:=.str "cell") rfl (Cq v.h2 aP (Cq v.h5 aA (Cq v.h6 aZ (Cq v.h4 aT (D0 f3))))))) (Ay Cw (Dz (Mv (v:=.str "addrow") rfl (Cq v.h2 aP (Cq v.h5 aA (Cq v.h7 e7 (D0 f4)))))) Cz))
    have gC:∀ σ E,Vr σ l p7 z2 y3 z4 z8 r5 r6->GRs H10 σ E (Ks K) 3 _:=fun σ E v=>Ay Cw (Dz (Mv (v:=.str "cutrow") rfl (Cq v.h2 aP (Cq v.h5 aA (D0 f5))))) (Ay Cw (Dz (Mv (v:=.str "cut") rfl (Cq v.h2 aP (D0 f6)))) (Ay Cw (Dz (Mv (v:=.str "move") rfl (Cq v.h2 aP (Cq v.h3 aO (Cq v.h5 aA (D0 f7)))))) Cz))
    have gD:∀ σ E,Vr σ l p7 z2 y3 z4 z8 r5 r6->GRs H10 σ E (Ks K) 1 _:=fun σ E v=>Ay Cw (Dz (Mv (v:=.str "wrap") rfl (Cq v.h2 aP (bx0 (R:=fun o=>∃ z,o=some (A0 z)/\nmB z=true) (de:=Qy K t 3) (fun H1 Q S kk=>Q6 (K:=K) (t:=t) (i:=3) (m:=n3) (n:=n1) v.h1 q10 rfl rfl H1 _ S fun z H2 S2 hz=>kk _ (some (A0 z)) H2 S2 (B6 (K:=K) (H:=H2)) ⟨z,rfl,hz⟩) fun o ho=>by
     obtain⟨z,rfl,hz⟩:=ho
     exact Cq v.h4 aT (D0 (f8 z hz)))))) Cz
    refine Zn (l:=l) (p7:=p7) (z2:=z2) (y3:=y3) (z4:=z4) (z8:=z8) (r5:=r5) (r6:=r6) (B:=H10) (n0:=n0) gA gB gC gD rfl ⟨rfl,rfl,rfl,rfl,rfl,rfl,rfl,rfl⟩ q10 rfl fun H14 p i as U14 hi la ok st hp=>k H14 p i as (T10.trans U14) hi la ok st hp
end
theorem U7 {o:Th} (h:txO o=true):o.isSome=true:=by
 cases o with
 | none=>cases h
 | some d=>rfl
theorem E6 {o:Th} (h:nmO o=true):o.isSome=true:=by
 cases o with
 | none=>cases h
 | some d=>rfl
theorem aw3 {o:Th} (h:prO o=true):o.isSome=true:=by
 cases o with
 | none=>exact absurd h (by decide +kernel)
 | some d=>rfl
theorem G6 {o:Th} (h:rkO o=true):o.isSome=true:=by
 cases o with
 | none=>cases h
 | some d=>rfl
theorem ca2 {o:Th} (h:rwO o=true):o.isSome=true:=by
 cases o with
 | none=>cases h
 | some d=>rfl
theorem ca1 {o:Th} (h:kdO o=true):o.isSome=true:=by
 cases o with
 | none=>cases h
 | some d=>rfl
theorem ar1 {k o:Th} (h:By k o=true):o.isSome=true:=by
 cases o with
 | none=>unfold By at h;split at h <;> cases h
 | some d=>rfl
theorem am7 {i:Nat} {as:List Th} (h:okE i as=true):∀ o∈as,o.isSome=true:=by
  unfold okE at h
  split at h
  all_goals first
    | cases h;done
    | (try simp only [am] at h
       intro o ho
       simp only [ay,aU,or_false] at ho)
  . obtain⟨⟨h1,h2,h3⟩,h4,h5⟩:=h
    rcases ho with rfl|rfl|rfl|rfl|rfl
    . exact E6 h1
    . exact ca1 h4
    . exact aw3 h2
    . exact G6 h3
    . exact ar1 h5
  . rcases ho with rfl|rfl
    . exact E6 h.1
    . exact U7 h.2
  . rcases ho with rfl|rfl|rfl|rfl
    . exact E6 h.1
    . exact G6 h.2.1
    . exact G6 h.2.2.1
    . exact U7 h.2.2.2
  . rcases ho with rfl|rfl|rfl|rfl
    . exact E6 h.1
    . exact G6 h.2.1
    . exact G6 h.2.2.1
    . exact U7 h.2.2.2
  . rcases ho with rfl|rfl|rfl
    . exact E6 h.1
    . exact G6 h.2.1
    . exact ca2 h.2.2
  . rcases ho with rfl|rfl
    . exact E6 h.1
    . exact G6 h.2
  . subst ho
    exact E6 h
  . rcases ho with rfl|rfl|rfl
    . exact E6 h.1
    . exact aw3 h.2.1
    . exact G6 h.2.2
  . rcases ho with rfl|rfl|rfl
    . exact E6 h.1
    . exact E6 h.2.1
    . exact U7 h.2.2
theorem V8 {os:List Th} (h:Cc os=true):∀ o∈os,o.isSome=true:=by
 cases os with
 | nil=>cases h
 | cons o as=>
  unfold Cc at h
  dsimp only at h
  cases ho:A7 o with
  | none=>rw [ho] at h;cases h
  | some z=>
   rw [ho] at h
   dsimp only at h
   rw [am] at h
   intro u hu
   rcases List.mem_cons.mp hu with rfl|hu
   ·cases u with
    | none=>cases ho
    | some d=>rfl
   ·exact am7 h.2 u hu
section
variable {K:aa} {H:Hp}
theorem Ths.tr:∀ {os:List Th} {xs:List V},(∀ o∈os,o.isSome=true)->(∀ o∈os,stO o)->Ths K H os xs -> ∃ ds,os=ds.map some/\AtL K H ds xs/\Dd ds<=10
 | [],xs,_,_,h=>⟨[],rfl,by rw [show xs=[] from h];exact Er,by unfold Dd;decide⟩
 | none::os,xs,n,_,h=>by cases n none (.head _)
 | some d::os,xs,n,s,h=>by
  obtain⟨y,zs,rfl,h1,h2⟩:=h
  obtain⟨ds,rfl,h3,h4⟩:=Ths.tr (fun o ho=>n o (.tail _ ho)) (fun o ho=>s o (.tail _ ho)) h2
  exact⟨d::ds,rfl,Dp h1 h3,by unfold Dd;exact Nat.max_le.mpr ⟨(s _ (.head _)).2,h4⟩⟩
theorem ce9 {os:List Th} {p q:Addr} {neg:Bool} {Q:VK} (n:∀ o∈os,o.isSome=true) (s:∀ o∈os,stO o) (hp:TpAt K H os p) (hq:TpAt K H os q) (k:Q (.bl (!neg)) H):Aw K neg (.ref p) (.ref q) H Q:=by
 obtain⟨xs,q1,g1⟩:=hp
 obtain⟨ys,q2,g2⟩:=hq
 obtain⟨ds,rfl,a1,d1⟩:=g1.tr n s
 obtain⟨ds',e,a2,_⟩:=g2.tr n s
 have e:ds=ds':=(List.map_inj_right (fun a b h=>aN h)).mp e
 subst e
 have t1:At K H (.tup ds) (.ref p):=Hu q1 a1
 refine .inr (.inl ⟨.tup ds,.tup ds,t1,Hu q2 a2,by unfold dep;omega,?_⟩)
 rw [Fo t1]
 cases neg <;> exact k
end
noncomputable def Yd (K:aa) (H:Hp) (x:V):Prop:=∃ g,a19 K H g x/\Li g=false /\ ∀ os,g=.tp os->stL os
theorem Db {K:aa}:Mo (Yd K):=fun H H' x S ⟨g,h,b,s⟩=>⟨g,by
 cases g with
 | th o=>exact⟨Ao S h.1,h.2⟩
 | tp os=>obtain⟨p,e,h⟩:=h;exact⟨p,e,h.up S⟩,b,s⟩
section
variable {K:aa} {B:Hp} {σ:St} {E:EK}
theorem Pm {de:DE} {d:Dt} (h:GD K σ E de d) (n:∀ ds,d≠.tup ds):GR B σ E (Yd K) de:=fun H1 Q _ q=>h H1 _ fun x H2 S2 a=>q x H2 S2 ⟨.th (some d),⟨a,fun ds e=>n ds (aN e)⟩,rfl,fun os e=>by cases e⟩
theorem al5:GR B σ E (Yd K) Ld:=fun H1 Q _ q p' hp=>.inl (q _ _ (Same.upd hp) ⟨.th none,⟨⟨p',rfl,Af⟩,fun ds e=>by cases e⟩,rfl,fun os e=>by cases e⟩)
theorem ai8 {H:Hp}:∀ {ds:List Dt} {xs:List V},AtL K H ds xs->Ths K H (ds.map some) xs
 | [],xs,h=>by unfold AtL at h;exact h
 | d::ds,xs,h=>by
  unfold AtL at h
  obtain⟨y,ys,e,h1,h2⟩:=h
  exact⟨y,ys,e,h1,ai8 h2⟩
theorem Lg {de:DE} {ds:List Dt} (h:GD K σ E de (.tup ds)) (b:Cc (ds.map some)=false) (s:(ds.map some).length<=10/\ds.all (stB 4)=true):GR B σ E (Yd K) de:=fun H1 Q _ q=>h H1 _ fun x H2 S2 a=>by
 obtain⟨p,xs,rfl,sq,g⟩:=B0 a
 have st:stL (ds.map some):=⟨s.1,fun o ho=>by
  obtain⟨d,hd,rfl⟩:=List.mem_map.mp ho
  exact Cf (List.all_eq_true.mp s.2 d hd)⟩
 exact q _ H2 S2 ⟨.tp (ds.map some),⟨p,rfl,xs,sq,ai8 g⟩,b,fun os e=>by cases e;exact st⟩
end
section
variable {P:aI} {w:bq} {K:aa} {mg:Str->Option Value} {base:Heap} {t:Adr}
theorem by5 {c:DT} {u R:DS} {D:Cy} {σ:St} {H:Hp} (h:c σ H (fun k H1=>if k=true then u { D with nx:=R D } σ H1 else R D σ H1) (D.ex σ)):Ag (dIf c u Ah) R D σ H:=h
theorem by4 {c d:DT} {u R:DS} {D:Cy} {σ:St} {H:Hp} (h:c σ H (fun k H1=>if k=true then u { D with nx:=R D } σ H1 else d σ H1 (fun k H1=>if k=true then u { D with nx:=R D } σ H1 else R D σ H1) (D.ex σ)) (D.ex σ)):Ag (dIf (dOr c d) u Ah) R D σ H:=by
 show c σ H (fun k H1=>if k=true then (if true=true then u { D with nx:=R D } σ H1 else R D σ H1) else d σ H1 (fun k H1=>if k=true then u { D with nx:=R D } σ H1 else R D σ H1) (D.ex σ)) (D.ex σ)
 simp only [if_true]
 exact h
theorem Fz {H:Hp} {os:List Th} {p:Addr} {b:Bool} {due:V} {i j:Nat} {σ:St} {Q:Bool->Hp->Prop} {E:EK} (hv:σ[i]? = some (some (.ref p))) (hw:σ[j]? = some (some due)) (hp:TpAt K H os p) (st:stL os) (hb:b=true -> ∃ i as,os=wdO i::as/\i<9/\as.length=ar i) (hd:due=if Cc os=true then .ref p else .str "refused") (k:∀ H',Same H H'->Q false H') :
  Az (Ad (Aw K true) (dFn (spE (Cv K t) []) (Aa (Ac i) (Aa (dC (.bl b)) Ae))) (Ac j)) σ H Q E:=by
 dsimp only [Az,Ad,dFn,Aa,Ac,dC,Ae]
 rw [hv,hw]
 refine⟨.ref p,.tp os,b,rfl,⟨p,rfl,hp⟩,fun os' e=>by cases e;exact st,fun e=>?_,fun os' e hg H' p' S hp'=>?_,fun hg H' S=>?_⟩
 ·obtain⟨i,as,rfl,h⟩:=hb e
  exact⟨i,as,rfl,h⟩
 ·cases e
  rw [if_pos hg] at hd
  subst hd
  exact ce9 (V8 hg) st.2 hp' (hp.up S) (k H' S)
 ·have hg:Cc os=false:=hg
  rw [hg] at hd
  have hd:due=.str "refused" := hd
  subst hd
  exact k H' S
theorem aq4 {lo st:Int} {n i:Nat} {x:V} (h:(Rq lo st n)[i]? = some x):x=.int (lo+(i:Int) * st):=by
 unfold Rq at h
 rw [bD] at h
 obtain⟨y,hy,rfl⟩:=Option.map_eq_some_iff.mp h
 have:=List.getElem?_eq_some_iff.mp hy
 obtain⟨h1,h2⟩:=this
 rw [List.getElem_range] at h2
 rw [h2]
theorem bg9 {a b:DE} {u:DS} {D:Cy} {σ:St} {H:Hp} (h:a σ H (fun x H1=>b σ H1 (fun y H2=>Ak K x y H2 fun v H3=>spE (Cv K t) [] [v,.bl false] H3 (fun w H4=>Aw K false w (.str "refused") H4 D.rt) (D.ex σ)) (D.ex σ)) (D.ex σ)) :
  Ag (Am (Ad (Aw K false) (dFn (spE (Cv K t) []) (Aa (Ad (Ak K) a b) (Aa (dC (.bl false)) Ae))) (dC (.str "refused")))) u D σ H:=h
theorem ba0 {f:Addr} {fd:ai} (Z:Al K t) (F:FunD K "law" "law" Du f fd .none) (T:Tab P w K mg base 12 (Zr K t) bl):FnOk P w K mg base CX0 13 f fd O5 (No K t):=by
 refine F.okW0 bp4 bu8 T (bl1 K t) (fun vs H Q E h=>?_) (fun vs H Q E h=>?_)
 ·obtain⟨a,ns,rfl,_⟩:=h;rfl
 ·obtain⟨a,ns,rfl,hS,hl,k⟩:=h
  unfold ay3
  refine .inl ⟨_,.inl hS,⟨?_,by decide,by decide⟩,?_⟩
  ·rw [aH]
   generalize ns.length=m at hl
   have:m<64:=by omega
   revert this
   revert m
   decide +kernel
  ·generalize (bL _ _ _).toNat=n
   refine Fa (ar7 0 3 n) (fun i σ' H'=>(∃ v1 v2 v3 v4,σ'=[some (.ref a),v1,v2,v3,v4,none])/\Same H H') ⟨⟨_,_,_,_,rfl⟩,Same.refl _⟩ (fun _ _ _ _ _=>bn) ?_ ?_
   ·rintro i x σ' H1 hx ⟨⟨v1,v2,v3,v4,rfl⟩,S1⟩
    have e:=aq4 hx
    rw [show (0:Int)+(i:Int) * 3=((3 * i:Nat):Int) by omega] at e
    subst e
    generalize 3 * i=n3
    refine⟨a,ns,n3,rfl,S1.seqL hS,fun r=>⟨r,rfl,fun H2 p j as S2 hj la ok st hp=>?_⟩⟩
    have T2:=S1.trans S2
    have gd:Cc (wdO j::as)=true:=(Uj hj la).trans ok
    dsimp only
    refine by4 (Fz (K:=K) (t:=t) (i:=2) (j:=2) rfl rfl hp st (fun h=>by cases h) (by rw [if_pos gd]) fun H3 S3=>D9 (Fz (K:=K) (t:=t) (i:=2) (j:=2) rfl rfl (hp.up S3) st (fun _=>⟨j,as,rfl,hj,la⟩) (by rw [if_pos gd]) fun H4 S4=>D9 ?_))
    have T4:=T2.trans (S3.trans S4)
    have ha:=as0 j hj
    refine⟨a,ns,n3+1,rfl,T4.seqL hS,fun r1=>⟨a,ns,n3+2,rfl,T4.seqL hS,fun r2=>⟨p,wdO j::as,r1,r2,rfl,(hp.up S3).up S4,st.2,by rw [ax];omega,by rw [ax];omega,fun H5 q os S5 hq st5 l5=>?_⟩⟩⟩
    have T5:=T4.trans S5
    clear hp st gd ok la ha S1 S2 S3 S4 S5 T4 T2
    dsimp only
    refine aq7 (e:=dC (.str "refused")) ?_
    refine by5 ⟨q,os,rfl,hq,st5,fun H6 S6=>?_⟩
    have T6:=T5.trans S6
    have hq:=hq.up S6
    have rest:∀ (D:Cy),(∀ due H',Same H H'->D.nx [some (.ref a),some (.int n3),some (.ref p),some (.ref q),some due,none] H') -> ∀ due,due=(if Cc os=true then .ref q else .str "refused")->(Ag (dIf (Az (Ad (Aw K true) (dFn (spE (Cv K t) []) (Aa (Ac 3) (Aa (dC (.bl false)) Ae))) (Ac 4))) (Ag (Am (dC (.bl false)))
   Ah) Ah)
  (Ag (dIf (Gb (Az (Ad (Aw K true) (Ac 3) (A6 Ae))) (Gb (Az (Ad (Aw K false) (dFn (spE (Kj K t) []) (Aa (Ad (Ak K) (Ac 3) (dC (.int 0))) Ae)) (dFn (fun vs H Q _=>(Ct K) vs H Q) (Aa (Ac 3) Ae)))) (Az (Ad (Aw K true) (dFn (spE (Cv K t) []) (Aa (Ac 3) (Aa (dC (.bl true)) Ae))) (Ac 4))))) (Ag (Am (dC (.bl false)))
   Ah) Ah)
  Ah)) D [some (.ref a),some (.int n3),some (.ref p),some (.ref q),some due,none] H6:=fun D hD due hd=>by
     refine by5 (Fz (K:=K) (t:=t) (i:=3) (j:=4) rfl rfl hq st5 (fun h=>by cases h) hd fun H7 S7=>D9 ?_)
     have T7:=T6.trans S7
     have hq:=hq.up S7
     obtain⟨xs,sq,g⟩:=id hq
     cases os with
     | nil=>cases l5
     | cons o as=>
      obtain⟨y,ys,rfl,hy,g⟩:=g
      refine⟨(show 0<=sizeLine by decide),fun e he=>.inr (.inr (.inr ⟨q,e,_,rfl,rfl,(Same.upd he).seqT sq,SqT.of Af,?_⟩))⟩
      have S8:=Same.upd (o:=.tup []) he
      generalize upd H7 e (.tup [])=H8 at S8 ⊢
      refine⟨_,y,.inr (S8.seqT sq),Bg (i:=0) rfl,y,o,rfl,Ao S8 hy,st5.2 o (.head _),fun H9 S9=>.inl ⟨_,.inr ((S8.trans S9).seqT sq),?_⟩⟩
      have T9:=T7.trans (S8.trans S9)
      have el:(((y::ys).length:Nat):Int)=(((o::as).length:Nat):Int):=by rw [ax,ax,g.length]
      refine A2 (c:=decide (G8 o=(((y::ys).length:Nat):Int))=true) (fun e1=>?_) (fun e1=>?_)
      ·obtain⟨i2,hi,eo,l⟩:=Pn ((of_decide_eq_true e1).trans el)
       exact Fz (K:=K) (t:=t) (i:=3) (j:=4) rfl rfl (hq.up (S8.trans S9)) st5 (fun _=>⟨i2,as,by rw [eo],hi,l⟩) hd fun H10 S10=>D9 (hD _ _ (T9.trans S10))
      ·exact hD _ _ T9
    cases hg:Cc os with
    | true => 
     refine rest _ ?_ (.ref q) (by rw [hg];rfl)
     exact fun due H' S=>⟨⟨_,_,_,_,rfl⟩,S⟩
    | false => 
     refine rest _ ?_ (.str "refused") (by rw [hg];rfl)
     exact fun due H' S=>⟨⟨_,_,_,_,rfl⟩,S⟩
   ·rintro σ' H1 ⟨⟨v1,v2,v3,v4,rfl⟩,S1⟩
    refine .inl ?_
    dsimp only
    refine af9 (B:=H1) (R:=Yd K) (Ay Db (Pm (Fr (v:=.non) rfl) (fun ds e=>by cases e)) (Ay Db (Pm (Fr (v:=.int 7) rfl) (fun ds e=>by cases e)) (Ay Db (Pm (Fr (v:=.str "cut a") rfl) (fun ds e=>by cases e)) (Ay Db (Pm (Ms (Bi (Fr (v:=.str "cut") rfl) (Bi (Fr (v:=.str "a") rfl) B3)) (by decide)) (fun ds e=>by cases e)) (Ay Db (Pm (Ms B3 (by decide)) (fun ds e=>by cases e)) (Ay Db al5
     (Ay Db (Lg (Eh B3 (by decide)) rfl (by decide +kernel)) (Ay Db (Lg (Ig (v:=.str "cut") rfl) (by decide +kernel) (by decide +kernel)) (Ay Db (Lg (Ui (v:=.str "put") (u:=.str "a") rfl rfl) (by decide +kernel) (by decide +kernel)) (Ay Db (Lg (Eh (Bi (Fr (v:=.str "cut") rfl) (Bi (Fr (v:=.str "a") rfl) (Bi (Fr (v:=.str "b") rfl) B3))) (by decide)) (by decide +kernel) (by decide +kernel)) (Ay Db (Lg (Ui (v:=.int 7) (u:=.str "a") rfl rfl) (by decide +kernel) (by decide +kernel)) Cz))))))))))) (Same.refl _) (by decide) fun l1 H2 h1=>?_
    refine bg9 ?_
    refine Ug (B:=H1) Db (i:=5) rfl (h1.ls Db) (Ay Db (Lg (Eh (Bi (Ig (v:=.str "cut") rfl) (Bi (Fr (v:=.str "a") rfl) B3)) (by decide)) (by decide +kernel) (by decide +kernel)) Cz) h1.same (by decide) (by decide) fun l2 H3 h2=>?_
    refine⟨a,ns,1,rfl,(S1.trans (h1.same.trans h2.same)).seqL hS,fun r=>?_⟩
    obtain⟨x,ys,qy,e,g,hg,gf,st⟩:=(h2.ls Db).get (K:=K) (r % 12) (by omega) (by omega)
    refine⟨by decide,ys,x,.inl qy,e,?_⟩
    exact⟨x,g,false,rfl,hg,st,(fun h=>by cases h),(fun os e h=>by subst e;rw [show Cc os=false from gf] at h;cases h),fun _ H' _=>k H'⟩
end
inductive DEn (w:bq):List fI->List (Key×V)->Prop where
 | nil:DEn w [] []
 | cons {k:Str} {t:Tok} {v:V} {h:Int} {u:Value} {es:List fI} {kvs:List (Key×V)} (e:h=hashStr w k) (e2:RelV v u) (r:DEn w es kvs):DEn w (⟨h,.str k t,u⟩::es) ((.inr k,v)::kvs)
theorem DEn.go {P:aI} {w:bq}:∀ {es:List fI} {kvs:List (Key×V)},DEn w es kvs -> ∃ vs:List (Key×Value),KV kvs vs/\Pairs (A9 P w) es vs/\vs.map (·.1)=kvs.map (·.1) /\ ∀ e∈es,∃ k,(A9 P w).is k e.key=true/\e.hash=(A9 P w).hash k
 | _,_,.nil=>⟨[],.nil,.nil,rfl,fun e he=>by cases he⟩
 | _,_,.cons (k:=k) (t:=t) (u:=u) e e2 r=>by
  obtain⟨vs,h1,h2,h3,h4⟩:=DEn.go (P:=P) r
  refine⟨(.inr k,u)::vs,.cons ⟨rfl,e2⟩ h1,.cons (En P w k t) rfl h2,by rw [ba,ba,h3],fun x hx=>?_⟩
  rcases List.mem_cons.mp hx with rfl|hx
  ·exact⟨.inr k,En P w k t,e⟩
  ·exact h4 x hx
theorem al9 {P:aI} {w:bq} {K:aa} {a:Addr} {es:Array fI} {ep:Nat} {kvs:List (Key×V)} (ha:(a==cf)=false) (l:K.lookup a=some ⟨.type "dict", none,.dict es ep,#[]⟩) (h:DEn w es.toList kvs) (nd:(kvs.map (·.1)).Nodup):Hs P w K a kvs:=by
 obtain⟨vs,h1,h2,h3,h4⟩:=DEn.go (P:=P) h
 exact⟨ha,vs,h1,fun h KI=>⟨_,es,ep,KI _ _ l,⟨rfl,rfl,rfl⟩,rfl,fun e he=>h4 e (Array.mem_toList_iff.mpr he),h2,by rw [h3];exact nd⟩⟩
theorem D4 {K:aa} {H:Hp} {q f:Addr} {d:Option Addr} {n:Int} {tk:Tok} {c:Nat} {sl:Array (Option Value)} (l:K.lookup q=some ⟨.type "tuple", d,.seq #[.int n tk,.ref f] c,sl⟩):SqT K H q [.int n,.ref f]:=
 .inr ⟨_,_,_,l,rfl,rfl,(show 2<=sizeLine by decide),rfl,.cons ⟨_,rfl⟩ (.cons rfl .nil)⟩
theorem a21 {K:aa} {L C B E:Addr} (nd:[L,C,B,E].Nodup) (xl:XC K L valTail) (xc:XC K C (.ref L::valTail)) (xb:XC K B (.ref L::valTail)) (xe:XC K E (.ref L::valTail)) (tl:A4 (.ref L::valTail)=true) (mb:cZ K B (.ref B)=some true) :
  ECls K B/\cZ K B (.ref B)=some true/\bV K (.ref B) (.ref L)=some true/\bV K (.ref B) (.type "ValueError")=some true/\df K (.ref B) [.ref E,.ref C]=some false:=by
 have h:∀ a b:Addr,a≠b->(aC a==aC b)=false:=fun a b n=>by
  rw [Bool.eq_false_iff]
  intro z
  exact n (Value.ref.inj (bP z))
 have vt:∀ a:Addr,valTail.contains (.ref a)=false:=fun a=>rfl
 simp only [d_,ay,aU,or_false,not_or] at nd
 obtain⟨⟨n1,n2,n3⟩,⟨n4,n5⟩,n6,_⟩:=nd
 have c1:(aC B::.ref L::valTail).contains (.ref E)=false:=by
  rw [a0,a0,vt,h E B (dj n6),h E L (dj n3)];rfl
 have c2:(aC B::.ref L::valTail).contains (.ref C)=false:=by
  rw [a0,a0,vt,h C B n4,h C L (dj n1)];rfl
 refine⟨xb.ecls tl,mb,xb.kit xl (by rw [a0,a0];simp),xb.kitV tl,?_⟩
 unfold df
 rw [xb.kit xe c1]
 dsimp only
 unfold df
 rw [xb.kit xc c2]
 rfl
end K28
set_option maxHeartbeats 4000000
namespace K28
open PySem L2
structure ar8 (K:aa) (mg:Str->Option Value) (t:Adr):Prop where
 g_zav:DOk K mg "_law_cell" Jw t.f_zav t.d_zav Oj
 g_zz:DOk K mg "_law_stream" Sq t.f_zz t.d_zz Y3
 g_zbb:DOk K mg "_law_text" J2 t.f_zbb t.d_zbb Oq
 g_zao:DOk K mg "_law_table" Jp t.f_zao t.d_zao Oc
 g_zq:DOk K mg "_law_content" Sd t.f_zq t.d_zq Yu
 g_zba:DOk K mg "_law_name" J1 t.f_zba t.d_zba Op
 g_zax:DOk K mg "_law_form" Jy t.f_zax t.d_zax Om
 g_zap:DOk K mg "_law_thing" Jq t.f_zap t.d_zap Od
 g_zy:DOk K mg "_law_spoilt" So t.f_zy t.d_zy Y2
 g_zan:DOk K mg "_law_count" Jo t.f_zan t.d_zan Ob
 g_zi:DOk K mg "_law_is_whole" R5 t.f_zi t.d_zi Ym
 g_zr:DOk K mg "_law_is_name" Se t.f_zr t.d_zr Yv
 g_zs:DOk K mg "_law_is_text" Sf t.f_zs t.d_zs Yw
 g_zh:DOk K mg "_law_is_cells" R0 t.f_zh t.d_zh Yl
 g_zaw:DOk K mg "_law_fits" Jx t.f_zaw t.d_zaw Ol
 g_zay:DOk K mg "_law_good" Jz t.f_zay t.d_zay On
 g_zat:MOk K "told" "Put.told" Ju t.f_zat t.d_zat Oh
 g_zw:MOk K "told" "Write.told" Sk t.f_zw t.d_zw Y0
 g_zo:MOk K "told" "Splice.told" Sb t.f_zo t.d_zo Ys
 g_zab:MOk K "told" "Cell.told" Jc t.f_zab t.d_zab Nz
 g_zk:MOk K "told" "AddRow.told" R7 t.f_zk t.d_zk Yo
 g_zm:MOk K "told" "CutRow.told" R9 t.f_zm t.d_zm Yq
 g_zar:MOk K "told" "Cut.told" Js t.f_zar t.d_zar Of
 g_zae:MOk K "told" "Move.told" Jf t.f_zae t.d_zae N2
 g_zah:MOk K "told" "Wrap.told" Ji t.f_zah t.d_zah N5
 g_zx:DOk K mg "has_length" Sl t.f_zx t.d_zx Y1
 g_zal:DOk K mg "is_letter" Jm t.f_zal t.d_zal N9
 g_zak:DOk K mg "is_figure" Jl t.f_zak t.d_zak N8
 g_ze:DOk K mg "is_name_sign" Rx t.f_ze t.d_ze Yi
 g_zbg:DOk K mg "is_name" J7 t.f_zbg t.d_zbg Ow
 g_zau:DOk K mg "is_whole" Jv t.f_zau t.d_zau Oi
 g_zbh:DOk K mg "is_rank" J8 t.f_zbh t.d_zbh Ox
 g_zf:DOk K mg "is_text_sign" Ry t.f_zf t.d_zf Yj
 g_zbi:DOk K mg "is_text" J9 t.f_zbi t.d_zbi Oy
 g_zac:MOk K "fits" "Kind.fits" Jd t.f_zac t.d_zac N0
 g_zp:DOk K mg "is_tuple_of" Sc t.f_zp t.d_zp Yt
 g_zbn:DOk K mg "is_row" Ke t.f_zbn t.d_zbn O3
 g_zt:MOk K "fits" "Table.fits" Sh t.f_zt t.d_zt Yx
 g_zd:MOk K "word" "Chapter.word" Rw t.f_zd t.d_zd Yh
 g_zaf:MOk K "word" "Para.word" Jg t.f_zaf t.d_zaf N3
 g_zu:MOk K "word" "Table.word" Si t.f_zu t.d_zu Yy
 g_zg:DOk K mg "kind_of_word" Rz t.f_zg t.d_zg Yk
 g_zbm:DOk K mg "insist" Kd t.f_zbm t.d_zbm O2
 g_zam:DOk K mg "is_parent" Jn t.f_zam t.d_zam Oa
 g_zas:MOk K "__init__" "Put.__init__" Jt t.f_zas t.d_zas Og
 g_zbo:DOk K mg "put_of" Kf t.f_zbo t.d_zbo O4
 g_zb:MOk K "__init__" "PartEdit.__init__" Ru t.f_zb t.d_zb Yf
 g_zc:MOk K "__init__" "TextEdit.__init__" Rv t.f_zc t.d_zc Yg
 g_zv:MOk K "__init__" "Write.__init__" Sj t.f_zv t.d_zv Yz
 g_zbd:DOk K mg "write_of" J4 t.f_zbd t.d_zbd Ot
 g_zn:MOk K "__init__" "Splice.__init__" Sa t.f_zn t.d_zn Yr
 g_zaq:DOk K mg "splice_of" Jr t.f_zaq t.d_zaq Oe
 g_za:MOk K "__init__" "TableEdit.__init__" Rt t.f_za t.d_za Ye
 g_zaa:MOk K "__init__" "Cell.__init__" Jb t.f_zaa t.d_zaa Ny
 g_zbe:DOk K mg "cell_of" J5 t.f_zbe t.d_zbe Ou
 g_zj:MOk K "__init__" "AddRow.__init__" R6 t.f_zj t.d_zj Yn
 g_zai:DOk K mg "addrow_of" Jj t.f_zai t.d_zai N6
 g_zl:MOk K "__init__" "CutRow.__init__" R8 t.f_zl t.d_zl Yp
 g_zaj:DOk K mg "cutrow_of" Jk t.f_zaj t.d_zaj N7
 g_zbl:DOk K mg "cut_of" Kc t.f_zbl t.d_zbl O1
 g_zad:MOk K "__init__" "Move.__init__" Je t.f_zad t.d_zad N1
 g_zbj:DOk K mg "move_of" Ka t.f_zbj t.d_zbj Oz
 g_zag:MOk K "__init__" "Wrap.__init__" Jh t.f_zag t.d_zag N4
 g_zbk:DOk K mg "wrap_of" Kb t.f_zbk t.d_zbk O0
 g_zbf:DOk K mg "edit_of" J6 t.f_zbf t.d_zbf Ov
 g_zaz:DOk K mg "_law_made" J0 t.f_zaz t.d_zaz Oo
 g_zbc:DOk K mg "_law_told" J3 t.f_zbc t.d_zbc Os
 F_zbp:FunD K "law" "law" Du t.f_zbp t.d_zbp .none
 b_zbp:∀ j,j<=0->Binds K t.d_zbp O5 (([]:List Value).drop j)
 w_zbp:Vals [] ([]:List Value)
 m_zbp:mg "law" = some (.ref t.f_zbp)
 at_zbv:mg "LeafError" = some (.ref t.c_zbv)
 kp_zbv:aj K (.ref t.c_zbv)=true
 ec_zbv:ECls K t.c_zbv
 in_zbv:ac K (.ref t.c_zbv) "__init__" = some (some (.builtin "ValueError.__init__"))
 at_zbx:mg "BadCond" = some (.ref t.c_zbx)
 kp_zbx:aj K (.ref t.c_zbx)=true
 ec_zbx:ECls K t.c_zbx
 in_zbx:ac K (.ref t.c_zbx) "__init__" = some (some (.builtin "ValueError.__init__"))
 at_zby:mg "BadEdit" = some (.ref t.c_zby)
 kp_zby:aj K (.ref t.c_zby)=true
 ec_zby:ECls K t.c_zby
 in_zby:ac K (.ref t.c_zby) "__init__" = some (some (.builtin "ValueError.__init__"))
 at_zbu:mg "EditError" = some (.ref t.c_zbu)
 kp_zbu:aj K (.ref t.c_zbu)=true
 ec_zbu:ECls K t.c_zbu
 at_zbz:mg "Chapter" = some (.ref t.c_zbz)
 kp_zbz:aj K (.ref t.c_zbz)=true
 mk_zbz:aE K t.c_zbz=true
 in_zbz:ac K (.ref t.c_zbz) "__init__" = some (some (.builtin "object.__init__"))
 cl_zbz:Cls K t.c_zbz
 at_zch:mg "Para" = some (.ref t.c_zch)
 kp_zch:aj K (.ref t.c_zch)=true
 mk_zch:aE K t.c_zch=true
 in_zch:ac K (.ref t.c_zch) "__init__" = some (some (.builtin "object.__init__"))
 cl_zch:Cls K t.c_zch
 at_zcd:mg "Table" = some (.ref t.c_zcd)
 kp_zcd:aj K (.ref t.c_zcd)=true
 mk_zcd:aE K t.c_zcd=true
 in_zcd:ac K (.ref t.c_zcd) "__init__" = some (some (.builtin "object.__init__"))
 cl_zcd:Cls K t.c_zcd
 at_zck:mg "Put" = some (.ref t.c_zck)
 kp_zck:aj K (.ref t.c_zck)=true
 mk_zck:aE K t.c_zck=true
 in_zck:ac K (.ref t.c_zck) "__init__" = some (some (.ref t.f_zas))
 cl_zck:Cls K t.c_zck
 at_zce:mg "Write" = some (.ref t.c_zce)
 kp_zce:aj K (.ref t.c_zce)=true
 mk_zce:aE K t.c_zce=true
 in_zce:ac K (.ref t.c_zce) "__init__" = some (some (.ref t.f_zv))
 cl_zce:Cls K t.c_zce
 at_zcc:mg "Splice" = some (.ref t.c_zcc)
 kp_zcc:aj K (.ref t.c_zcc)=true
 mk_zcc:aE K t.c_zcc=true
 in_zcc:ac K (.ref t.c_zcc) "__init__" = some (some (.ref t.f_zn))
 cl_zcc:Cls K t.c_zcc
 at_zcf:mg "Cell" = some (.ref t.c_zcf)
 kp_zcf:aj K (.ref t.c_zcf)=true
 mk_zcf:aE K t.c_zcf=true
 in_zcf:ac K (.ref t.c_zcf) "__init__" = some (some (.ref t.f_zaa))
 cl_zcf:Cls K t.c_zcf
 at_zca:mg "AddRow" = some (.ref t.c_zca)
 kp_zca:aj K (.ref t.c_zca)=true
 mk_zca:aE K t.c_zca=true
 in_zca:ac K (.ref t.c_zca) "__init__" = some (some (.ref t.f_zj))
 cl_zca:Cls K t.c_zca
 at_zcb:mg "CutRow" = some (.ref t.c_zcb)
 kp_zcb:aj K (.ref t.c_zcb)=true
 mk_zcb:aE K t.c_zcb=true
 in_zcb:ac K (.ref t.c_zcb) "__init__" = some (some (.ref t.f_zl))
 cl_zcb:Cls K t.c_zcb
 at_zcj:mg "Cut" = some (.ref t.c_zcj)
 kp_zcj:aj K (.ref t.c_zcj)=true
 mk_zcj:aE K t.c_zcj=true
 in_zcj:ac K (.ref t.c_zcj) "__init__" = some (some (.ref t.f_zb))
 cl_zcj:Cls K t.c_zcj
 at_zcg:mg "Move" = some (.ref t.c_zcg)
 kp_zcg:aj K (.ref t.c_zcg)=true
 mk_zcg:aE K t.c_zcg=true
 in_zcg:ac K (.ref t.c_zcg) "__init__" = some (some (.ref t.f_zad))
 cl_zcg:Cls K t.c_zcg
 at_zci:mg "Wrap" = some (.ref t.c_zci)
 kp_zci:aj K (.ref t.c_zci)=true
 mk_zci:aE K t.c_zci=true
 in_zci:ac K (.ref t.c_zci) "__init__" = some (some (.ref t.f_zag))
 cl_zci:Cls K t.c_zci
 at_PartEdit:mg "PartEdit" = some (.ref t.c_PartEdit)
 su_PartEdit:K3 K t.c_PartEdit t.f_zb
 at_TextEdit:mg "TextEdit" = some (.ref t.c_TextEdit)
 su_TextEdit:K3 K t.c_TextEdit t.f_zc
 at_TableEdit:mg "TableEdit" = some (.ref t.c_TableEdit)
 su_TableEdit:K3 K t.c_TableEdit t.f_za
 mt_Chapter_fits:Dk K t.c_zbz "fits" t.f_zac
 mt_Para_fits:Dk K t.c_zch "fits" t.f_zac
 mt_zt:Dk K t.c_zcd "fits" t.f_zt
 mt_zat:Dk K t.c_zck "told" t.f_zat
 mt_zw:Dk K t.c_zce "told" t.f_zw
 mt_zo:Dk K t.c_zcc "told" t.f_zo
 mt_zab:Dk K t.c_zcf "told" t.f_zab
 mt_zk:Dk K t.c_zca "told" t.f_zk
 mt_zm:Dk K t.c_zcb "told" t.f_zm
 mt_zar:Dk K t.c_zcj "told" t.f_zar
 mt_zae:Dk K t.c_zcg "told" t.f_zae
 mt_zah:Dk K t.c_zci "told" t.f_zah
 mt_zd:Dk K t.c_zbz "word" t.f_zd
 mt_zaf:Dk K t.c_zch "word" t.f_zaf
 mt_zu:Dk K t.c_zcd "word" t.f_zu
 v_zbq:mg "GREATEST_RANK" = some t.u_zbq
 r_zbq:RelV (.int 1000000000) t.u_zbq
 v_zbr:mg "LONGEST_TEXT" = some t.u_zbr
 r_zbr:RelV (.int 60) t.u_zbr
 v_zbs:mg "PERCENT_SIGN" = some t.u_zbs
 r_zbs:RelV (.int 37) t.u_zbs
 v_zbw:mg "MOST_ROWS" = some t.u_zbw
 r_zbw:RelV (.int 6) t.u_zbw
 v_zbt:mg "MOST_CELLS" = some t.u_zbt
 r_zbt:RelV (.int 6) t.u_zbt
 v_zcl:mg "TOP" = some t.u_zcl
 r_zcl:RelV (.str "") t.u_zcl
 m_FORMS:mg "FORMS" = some (.ref t.a_FORMS)
 z:∀ x∈bl,mg x=none
 Z:Al K t
theorem a57 {P:aI} {w:bq} {K:aa} {mg:Str->Option Value} {base:Heap} {t:Adr} (A:ar8 K mg t) (D_FORMS:Hs P w K t.a_FORMS (Cd t)):FnOk P w K mg base CX0 13 t.f_zbp t.d_zbp O5 (No K t):=by
 have T0:Tab P w K mg base 0 (A8 K t) bl:=(((((((((((((((((((((((Tab.nil A.z).consD A.m_FORMS D_FORMS).consV A.v_zcl A.r_zcl).consV A.v_zbt A.r_zbt).consV A.v_zbw A.r_zbw).consV A.v_zbs A.r_zbs).consV A.v_zbr A.r_zbr).consV A.v_zbq A.r_zbq).consV (v:=.ref t.c_zci) A.at_zci rfl).consV (v:=.ref t.c_zcg) A.at_zcg rfl).consV (v:=.ref t.c_zcj) A.at_zcj rfl).consV (v:=.ref t.c_zcb) A.at_zcb rfl).consV (v:=.ref t.c_zca) A.at_zca rfl).consV (v:=.ref t.c_zcf) A.at_zcf rfl).consV (v:=.ref t.c_zcc) A.at_zcc rfl).consV (v:=.ref t.c_zce) A.at_zce rfl).consV (v:=.ref t.c_zck) A.at_zck rfl).consC (oi:=none) ⟨A.at_zcd,A.kp_zcd,A.mk_zcd,A.in_zcd⟩).consC (oi:=none) ⟨A.at_zch,A.kp_zch,A.mk_zch,A.in_zch⟩).consC (oi:=none) ⟨A.at_zbz,A.kp_zbz,A.mk_zbz,A.in_zbz⟩).consV (v:=.ref t.c_zbu) A.at_zbu rfl).consX (oi:=none) ⟨A.at_zby,A.kp_zby,A.ec_zby,A.in_zby⟩).consX (oi:=none) ⟨A.at_zbx,A.kp_zbx,A.ec_zbx,A.in_zbx⟩).consX (oi:=none) ⟨A.at_zbv,A.kp_zbv,A.ec_zbv,A.in_zbv⟩
 have T1:Tab P w K mg base 1 (E3 K t) bl:=(((((((((((((((((T0.mono (show 0<=1 by decide)).conE (au7 K t) A.g_zbm (a97 (t:=t) A.Z A.g_zbm.F T0)).con (bx7 K t) A.g_zp (b08 (t:=t) A.Z A.g_zp.F T0)).con (bx3 K t) A.g_zf (bz8 (t:=t) A.Z A.g_zf.F T0)).con (at4 K t) A.g_zau (a79 (t:=t) A.Z A.g_zau.F T0)).con (as8 K t) A.g_zak (a69 (t:=t) A.Z A.g_zak.F T0)).con (as9 K t) A.g_zal (a70 (t:=t) A.Z A.g_zal.F T0)).con (by1 K t) A.g_zx (b16 (t:=t) A.Z A.g_zx.F T0)).con (by0 K t) A.g_zs (b11 (t:=t) A.Z A.g_zs.F T0)).con (bx9 K t) A.g_zr (b10 (t:=t) A.Z A.g_zr.F T0)).con (bx6 K t) A.g_zi (b01 (t:=t) A.Z A.g_zi.F T0)).con (at1 K t) A.g_zan (a72 (t:=t) A.Z A.g_zan.F T0)).con (at3 K t) A.g_zap (a74 (t:=t) A.Z A.g_zap.F T0)).con (au0 K t) A.g_zba (a85 (t:=t) A.Z A.g_zba.F T0)).con (by3 K t) A.g_zz (b18 (t:=t) A.Z A.g_zz.F T0)).con (at5 K t) A.g_zav (a80 (t:=t) A.Z A.g_zav.F T0)).consM (m := "word") (l:=Hk K t) (fun mi hm=>by
  simp only [Hk,ay,aU,or_false] at hm
  rcases hm with rfl|rfl|rfl
  ·exact⟨A.cl_zbz,A.mt_zd,A.g_zd.fi (a42 K t) (bz6 (t:=t) A.Z A.g_zd.F T0)⟩
  ·exact⟨A.cl_zch,A.mt_zaf,A.g_zaf.fi (Zz K t) (a64 (t:=t) A.Z A.g_zaf.F T0)⟩
  ·exact⟨A.cl_zcd,A.mt_zu,A.g_zu.fi (a47 K t) (b13 (t:=t) A.Z A.g_zu.F T0)⟩)).consM (m := "told") (l:=Ew K t) (fun mi hm=>by
  simp only [Ew,ay,aU,or_false] at hm
  rcases hm with rfl|rfl|rfl|rfl|rfl|rfl|rfl|rfl|rfl
  ·exact⟨A.cl_zck,A.mt_zat,A.g_zat.fi (Z7 K t) (a78 (t:=t) A.Z A.g_zat.F T0)⟩
  ·exact⟨A.cl_zce,A.mt_zw,A.g_zw.fi (a48 K t) (b15 (t:=t) A.Z A.g_zw.F T0)⟩
  ·exact⟨A.cl_zcc,A.mt_zo,A.g_zo.fi (a45 K t) (b07 (t:=t) A.Z A.g_zo.F T0)⟩
  ·exact⟨A.cl_zcf,A.mt_zab,A.g_zab.fi (Zx K t) (a61 (t:=t) A.Z A.g_zab.F T0)⟩
  ·exact⟨A.cl_zca,A.mt_zk,A.g_zk.fi (a43 K t) (b03 (t:=t) A.Z A.g_zk.F T0)⟩
  ·exact⟨A.cl_zcb,A.mt_zm,A.g_zm.fi (a44 K t) (b05 (t:=t) A.Z A.g_zm.F T0)⟩
  ·exact⟨A.cl_zcj,A.mt_zar,A.g_zar.fi (Z6 K t) (a76 (t:=t) A.Z A.g_zar.F T0)⟩
  ·exact⟨A.cl_zcg,A.mt_zae,A.g_zae.fi (Zy K t) (a63 (t:=t) A.Z A.g_zae.F T0)⟩
  ·exact⟨A.cl_zci,A.mt_zah,A.g_zah.fi (Z0 K t) (a66 (t:=t) A.Z A.g_zah.F T0)⟩)
 have T2:Tab P w K mg base 2 (G9 K t) bl:=(((((((T1.mono (show 1<=2 by decide)).con (bx4 K t) A.g_zg (bz9 (t:=t) A.Z A.g_zg.F T1)).con (au6 K t) A.g_zbi (a93 (t:=t) A.Z A.g_zbi.F T1)).con (au5 K t) A.g_zbh (a92 (t:=t) A.Z A.g_zbh.F T1)).con (bx2 K t) A.g_ze (bz7 (t:=t) A.Z A.g_ze.F T1)).con (bx5 K t) A.g_zh (b00 (t:=t) A.Z A.g_zh.F T1)).con (by2 K t) A.g_zy (b17 (t:=t) A.Z A.g_zy.F T1)).con (au1 K t) A.g_zbb (a86 (t:=t) A.Z A.g_zbb.F T1)
 have T3:Tab P w K mg base 3 (Hb K t) bl:=((((T2.mono (show 2<=3 by decide)).con (au8 K t) A.g_zbn (a98 (t:=t) A.Z A.g_zbn.F T2)).con (au4 K t) A.g_zbg (a91 (t:=t) A.Z A.g_zbg.F T2)).con (at6 K t) A.g_zaw (a81 (t:=t) A.Z A.g_zaw.F T2)).con (at2 K t) A.g_zao (a73 (t:=t) A.Z A.g_zao.F T2)
 have T4:Tab P w K mg base 4 (V6 K t) bl:=(((((T3.mono (show 3<=4 by decide)).consI (i:=Pu K t) ⟨A.at_PartEdit,A.su_PartEdit,A.g_zb.fiE (Pu K t) (av3 (t:=t) A.Z A.g_zb.F T3)⟩).con (at0 K t) A.g_zam (a71 (t:=t) A.Z A.g_zam.F T3)).con (at8 K t) A.g_zay (a83 (t:=t) A.Z A.g_zay.F T3)).con (bx8 K t) A.g_zq (b09 (t:=t) A.Z A.g_zq.F T3)).consM (m := "fits") (l:=Fu K t) (fun mi hm=>by
  simp only [Fu,ay,aU,or_false] at hm
  rcases hm with rfl|rfl|rfl
  ·exact⟨A.cl_zbz,A.mt_Chapter_fits,A.g_zac.fi (Ll K t) (ac2 (t:=t) A.Z A.g_zac.F T2)⟩
  ·exact⟨A.cl_zch,A.mt_Para_fits,A.g_zac.fi (Ll K t) (ac2 (t:=t) A.Z A.g_zac.F T2)⟩
  ·exact⟨A.cl_zcd,A.mt_zt,A.g_zt.fi (a46 K t) (b12 (t:=t) A.Z A.g_zt.F T3)⟩)
 have T5:Tab P w K mg base 5 (Hc K t) bl:=((T4.mono (show 4<=5 by decide)).consC (oi:=some (Pu K t)) ⟨A.at_zcj,A.kp_zcj,A.mk_zcj,A.in_zcj,A.g_zb.i,A.g_zb.fiE (Pu K t) (av3 (t:=t) A.Z A.g_zb.F T3),ae 5⟩).con (at7 K t) A.g_zax (a82 (t:=t) A.Z A.g_zax.F T4)
 have T6:Tab P w K mg base 6 (Gg K t) bl:=((((T5.mono (show 5<=6 by decide)).consI (i:=a40 K t) ⟨A.at_TableEdit,A.su_TableEdit,A.g_za.fiE (a40 K t) (bz4 (t:=t) A.Z A.g_za.F T5)⟩).consI (i:=a41 K t) ⟨A.at_TextEdit,A.su_TextEdit,A.g_zc.fiE (a41 K t) (bz5 (t:=t) A.Z A.g_zc.F T5)⟩).consC (oi:=some (Pt K t)) ⟨A.at_zck,A.kp_zck,A.mk_zck,A.in_zck,A.g_zas.i,A.g_zas.fiE (Pt K t) (a77 (t:=t) A.Z A.g_zas.F T4),ae 6⟩).conE (aa2 K t) A.g_zbl (a96 (t:=t) A.Z A.g_zbl.F T5)
 have T7:Tab P w K mg base 7 (Cp K t) bl:=(((T6.mono (show 6<=7 by decide)).consC (oi:=some (Ps K t)) ⟨A.at_zci,A.kp_zci,A.mk_zci,A.in_zci,A.g_zag.i,A.g_zag.fiE (Ps K t) (a65 (t:=t) A.Z A.g_zag.F T5),ae 7⟩).consC (oi:=some (Pq K t)) ⟨A.at_zcg,A.kp_zcg,A.mk_zcg,A.in_zcg,A.g_zad.i,A.g_zad.fiE (Pq K t) (a62 (t:=t) A.Z A.g_zad.F T5),ae 7⟩).conE (aa3 K t) A.g_zbo (a99 (t:=t) A.Z A.g_zbo.F T6)
 have T8:Tab P w K mg base 8 (Ie K t) bl:=((T7.mono (show 7<=8 by decide)).conE (aa1 K t) A.g_zbk (a95 (t:=t) A.Z A.g_zbk.F T7)).conE (aa0 K t) A.g_zbj (a94 (t:=t) A.Z A.g_zbj.F T7)
 have T9:Tab P w K mg base 9 (C9 K t) bl:=(((((T8.mono (show 8<=9 by decide)).consC (oi:=some (aa5 K t)) ⟨A.at_zcb,A.kp_zcb,A.mk_zcb,A.in_zcb,A.g_zl.i,A.g_zl.fiE (aa5 K t) (b04 (t:=t) A.Z A.g_zl.F T7),ae 9⟩).consC (oi:=some (aa4 K t)) ⟨A.at_zca,A.kp_zca,A.mk_zca,A.in_zca,A.g_zj.i,A.g_zj.fiE (aa4 K t) (b02 (t:=t) A.Z A.g_zj.F T7),ae 9⟩).consC (oi:=some (Pp K t)) ⟨A.at_zcf,A.kp_zcf,A.mk_zcf,A.in_zcf,A.g_zaa.i,A.g_zaa.fiE (Pp K t) (a60 (t:=t) A.Z A.g_zaa.F T7),ae 9⟩).consC (oi:=some (aa6 K t)) ⟨A.at_zcc,A.kp_zcc,A.mk_zcc,A.in_zcc,A.g_zn.i,A.g_zn.fiE (aa6 K t) (b06 (t:=t) A.Z A.g_zn.F T7),ae 9⟩).consC (oi:=some (aa7 K t)) ⟨A.at_zce,A.kp_zce,A.mk_zce,A.in_zce,A.g_zv.i,A.g_zv.fiE (aa7 K t) (b14 (t:=t) A.Z A.g_zv.F T7),ae 9⟩
 have T10:Tab P w K mg base 10 (C8 K t) bl:=((((((T9.mono (show 9<=10 by decide)).conE (at9 K t) A.g_zaz (a84 (t:=t) A.Z A.g_zaz.F T9)).conE (Z4 K t) A.g_zaj (a68 (t:=t) A.Z A.g_zaj.F T9)).conE (Z3 K t) A.g_zai (a67 (t:=t) A.Z A.g_zai.F T9)).conE (Z9 K t) A.g_zbe (a89 (t:=t) A.Z A.g_zbe.F T9)).conE (Z5 K t) A.g_zaq (a75 (t:=t) A.Z A.g_zaq.F T9)).conE (Z8 K t) A.g_zbd (a88 (t:=t) A.Z A.g_zbd.F T9)
 have T11:Tab P w K mg base 11 (Uh K t) bl:=(T10.mono (show 10<=11 by decide)).conE (au3 K t) A.g_zbf (a90 (t:=t) A.Z A.g_zbf.F T10)
 have T12:Tab P w K mg base 12 (Zr K t) bl:=(T11.mono (show 11<=12 by decide)).con (au2 K t) A.g_zbc (a87 (t:=t) A.Z A.g_zbc.F T11)
 exact ba0 (t:=t) A.Z A.F_zbp T12
@[elab_as_elim] theorem Be {P:List Value->Prop} (h:∀ a,P [a]):∀ us:List Value,us.length=1->P us
 | [a],_=>h a
@[elab_as_elim] theorem Hf {P:List Value->Prop} (h:∀ a b,P [a,b]):∀ us:List Value,us.length=2->P us
 | [a,b],_=>h a b
@[elab_as_elim] theorem am2 {P:List Value->Prop} (h:∀ a b c,P [a,b,c]):∀ us:List Value,us.length=3->P us
 | [a,b,c],_=>h a b c
@[elab_as_elim] theorem a58 {P:List Value->Prop} (h:∀ a b c d,P [a,b,c,d]):∀ us:List Value,us.length=4->P us
 | [a,b,c,d],_=>h a b c d
@[elab_as_elim] theorem by9 {P:List Value->Prop} (h:∀ a b c d e,P [a,b,c,d,e]):∀ us:List Value,us.length=5->P us
 | [a,b,c,d,e],_=>h a b c d e
@[elab_as_elim] theorem cj4 {P:List Value->Prop} (h:∀ a b c d e f,P [a,b,c,d,e,f]):∀ us:List Value,us.length=6->P us
 | [a,b,c,d,e,f],_=>h a b c d e f
theorem all_mk {l:gI} {w:bq} {K:aa} {h:Heap} {mg:Str->Option Value} {fa f_zav f_zz f_zbb f_zao f_zq f_zba f_zax f_zap f_zy f_zan f_zi f_zr f_zs f_zh f_zaw f_zay f_zat f_zw f_zo f_zab f_zk f_zm f_zar f_zae f_zah f_zx f_zal f_zak f_ze f_zbg f_zau f_zbh f_zf f_zbi f_zac f_zp f_zbn f_zt f_zd f_zaf f_zu f_zg f_zbm f_zam f_zas f_zbo f_zb f_zc f_zv f_zbd f_zn f_zaq f_za f_zaa f_zbe f_zj f_zai f_zl f_zaj f_zbl f_zad f_zbj f_zag f_zbk f_zbf f_zaz f_zbc f_zbp a_FORMS q_FORMS_put q_FORMS_write q_FORMS_splice q_FORMS_cell q_FORMS_addrow q_FORMS_cutrow q_FORMS_cut q_FORMS_move q_FORMS_wrap c_zbv c_zbx c_zby c_zbu c_zbz c_zch c_zcd c_zck c_zce c_zcc c_zcf c_zca c_zcb c_zcj c_zcg c_zci c_PartEdit c_TextEdit c_TableEdit:Addr} (X:K.In h) (G:h.Ns aw mg) (hfa:mg "law" = some (.ref fa))
  {od_zbp an_zbp:Option Addr} {sl_zbp:Array (Option Value)}
  {oc_zbp kV_zbp dc_zbp pm_zbp cd_zbp ct_zbp:Value}
  {u_zbq u_zbr u_zbs u_zbw u_zbt u_zcl:Value}
  {qd_put:Option Addr} {qt_put:Tok} {qn_put:Nat} {qs_put:Array (Option Value)} {qd_write:Option Addr} {qt_write:Tok} {qn_write:Nat} {qs_write:Array (Option Value)} {qd_splice:Option Addr} {qt_splice:Tok} {qn_splice:Nat} {qs_splice:Array (Option Value)} {qd_cell:Option Addr} {qt_cell:Tok} {qn_cell:Nat} {qs_cell:Array (Option Value)} {qd_addrow:Option Addr} {qt_addrow:Tok} {qn_addrow:Nat} {qs_addrow:Array (Option Value)} {qd_cutrow:Option Addr} {qt_cutrow:Tok} {qn_cutrow:Nat} {qs_cutrow:Array (Option Value)} {qd_cut:Option Addr} {qt_cut:Tok} {qn_cut:Nat} {qs_cut:Array (Option Value)} {qd_move:Option Addr} {qt_move:Tok} {qn_move:Nat} {qs_move:Array (Option Value)} {qd_wrap:Option Addr} {qt_wrap:Tok} {qn_wrap:Nat} {qs_wrap:Array (Option Value)} {es_FORMS:Array fI} {ep_FORMS:Nat}
  (a_zbv:aF K aw "LeafError" = some (some (.ref c_zbv)))
  (a_zbx:aF K aw "BadCond" = some (some (.ref c_zbx)))
  (a_zby:aF K aw "BadEdit" = some (some (.ref c_zby)))
  (a_zbu:aF K aw "EditError" = some (some (.ref c_zbu)))
  (in_zbv:ac K (.ref c_zbv) "__init__" = some (some (.builtin "ValueError.__init__")))
  (kp_zbv:aj K (.ref c_zbv)=true)
  (in_zbx:ac K (.ref c_zbx) "__init__" = some (some (.builtin "ValueError.__init__")))
  (kp_zbx:aj K (.ref c_zbx)=true)
  (in_zby:ac K (.ref c_zby) "__init__" = some (some (.builtin "ValueError.__init__")))
  (kp_zby:aj K (.ref c_zby)=true)
  (kp_zbu:aj K (.ref c_zbu)=true)
  (a_zbz:aF K aw "Chapter" = some (some (.ref c_zbz)))
  (a_zch:aF K aw "Para" = some (some (.ref c_zch)))
  (a_zcd:aF K aw "Table" = some (some (.ref c_zcd)))
  (a_zck:aF K aw "Put" = some (some (.ref c_zck)))
  (a_zce:aF K aw "Write" = some (some (.ref c_zce)))
  (a_zcc:aF K aw "Splice" = some (some (.ref c_zcc)))
  (a_zcf:aF K aw "Cell" = some (some (.ref c_zcf)))
  (a_zca:aF K aw "AddRow" = some (some (.ref c_zca)))
  (a_zcb:aF K aw "CutRow" = some (some (.ref c_zcb)))
  (a_zcj:aF K aw "Cut" = some (some (.ref c_zcj)))
  (a_zcg:aF K aw "Move" = some (some (.ref c_zcg)))
  (a_zci:aF K aw "Wrap" = some (some (.ref c_zci)))
  (in_zbz:ac K (.ref c_zbz) "__init__" = some (some (.builtin "object.__init__")))
  (kp_zbz:aj K (.ref c_zbz)=true)
  (mk_zbz:aE K c_zbz=true)
  (pg_zbz:br K c_zbz c8=true)
  (hd_zbz:bp K c_zbz=true)
  (po_zbz:bx K c_zbz=true)
  (sa_zbz:ac K (.ref c_zbz) "__setattr__" = some (some (.builtin "object.__setattr__")))
  (in_zch:ac K (.ref c_zch) "__init__" = some (some (.builtin "object.__init__")))
  (kp_zch:aj K (.ref c_zch)=true)
  (mk_zch:aE K c_zch=true)
  (pg_zch:br K c_zch c8=true)
  (hd_zch:bp K c_zch=true)
  (po_zch:bx K c_zch=true)
  (sa_zch:ac K (.ref c_zch) "__setattr__" = some (some (.builtin "object.__setattr__")))
  (in_zcd:ac K (.ref c_zcd) "__init__" = some (some (.builtin "object.__init__")))
  (kp_zcd:aj K (.ref c_zcd)=true)
  (mk_zcd:aE K c_zcd=true)
  (pg_zcd:br K c_zcd c8=true)
  (hd_zcd:bp K c_zcd=true)
  (po_zcd:bx K c_zcd=true)
  (sa_zcd:ac K (.ref c_zcd) "__setattr__" = some (some (.builtin "object.__setattr__")))
  (in_zck:ac K (.ref c_zck) "__init__" = some (some (.ref f_zas)))
  (kp_zck:aj K (.ref c_zck)=true)
  (mk_zck:aE K c_zck=true)
  (pg_zck:br K c_zck c8=true)
  (hd_zck:bp K c_zck=true)
  (po_zck:bx K c_zck=true)
  (sa_zck:ac K (.ref c_zck) "__setattr__" = some (some (.builtin "object.__setattr__")))
  (in_zce:ac K (.ref c_zce) "__init__" = some (some (.ref f_zv)))
  (kp_zce:aj K (.ref c_zce)=true)
  (mk_zce:aE K c_zce=true)
  (pg_zce:br K c_zce c8=true)
  (hd_zce:bp K c_zce=true)
  (po_zce:bx K c_zce=true)
  (sa_zce:ac K (.ref c_zce) "__setattr__" = some (some (.builtin "object.__setattr__")))
  (in_zcc:ac K (.ref c_zcc) "__init__" = some (some (.ref f_zn)))
  (kp_zcc:aj K (.ref c_zcc)=true)
  (mk_zcc:aE K c_zcc=true)
  (pg_zcc:br K c_zcc c8=true)
  (hd_zcc:bp K c_zcc=true)
  (po_zcc:bx K c_zcc=true)
  (sa_zcc:ac K (.ref c_zcc) "__setattr__" = some (some (.builtin "object.__setattr__")))
  (in_zcf:ac K (.ref c_zcf) "__init__" = some (some (.ref f_zaa)))
  (kp_zcf:aj K (.ref c_zcf)=true)
  (mk_zcf:aE K c_zcf=true)
  (pg_zcf:br K c_zcf c8=true)
  (hd_zcf:bp K c_zcf=true)
  (po_zcf:bx K c_zcf=true)
  (sa_zcf:ac K (.ref c_zcf) "__setattr__" = some (some (.builtin "object.__setattr__")))
  (in_zca:ac K (.ref c_zca) "__init__" = some (some (.ref f_zj)))
  (kp_zca:aj K (.ref c_zca)=true)
  (mk_zca:aE K c_zca=true)
  (pg_zca:br K c_zca c8=true)
  (hd_zca:bp K c_zca=true)
  (po_zca:bx K c_zca=true)
  (sa_zca:ac K (.ref c_zca) "__setattr__" = some (some (.builtin "object.__setattr__")))
  (in_zcb:ac K (.ref c_zcb) "__init__" = some (some (.ref f_zl)))
  (kp_zcb:aj K (.ref c_zcb)=true)
  (mk_zcb:aE K c_zcb=true)
  (pg_zcb:br K c_zcb c8=true)
  (hd_zcb:bp K c_zcb=true)
  (po_zcb:bx K c_zcb=true)
  (sa_zcb:ac K (.ref c_zcb) "__setattr__" = some (some (.builtin "object.__setattr__")))
  (in_zcj:ac K (.ref c_zcj) "__init__" = some (some (.ref f_zb)))
  (kp_zcj:aj K (.ref c_zcj)=true)
  (mk_zcj:aE K c_zcj=true)
  (pg_zcj:br K c_zcj c8=true)
  (hd_zcj:bp K c_zcj=true)
  (po_zcj:bx K c_zcj=true)
  (sa_zcj:ac K (.ref c_zcj) "__setattr__" = some (some (.builtin "object.__setattr__")))
  (in_zcg:ac K (.ref c_zcg) "__init__" = some (some (.ref f_zad)))
  (kp_zcg:aj K (.ref c_zcg)=true)
  (mk_zcg:aE K c_zcg=true)
  (pg_zcg:br K c_zcg c8=true)
  (hd_zcg:bp K c_zcg=true)
  (po_zcg:bx K c_zcg=true)
  (sa_zcg:ac K (.ref c_zcg) "__setattr__" = some (some (.builtin "object.__setattr__")))
  (in_zci:ac K (.ref c_zci) "__init__" = some (some (.ref f_zag)))
  (kp_zci:aj K (.ref c_zci)=true)
  (mk_zci:aE K c_zci=true)
  (pg_zci:br K c_zci c8=true)
  (hd_zci:bp K c_zci=true)
  (po_zci:bx K c_zci=true)
  (sa_zci:ac K (.ref c_zci) "__setattr__" = some (some (.builtin "object.__setattr__")))
  (a_PartEdit:aF K aw "PartEdit" = some (some (.ref c_PartEdit)))
  (a_TextEdit:aF K aw "TextEdit" = some (some (.ref c_TextEdit)))
  (a_TableEdit:aF K aw "TableEdit" = some (some (.ref c_TableEdit)))
  (sg_PartEdit:dy K (.ref c_PartEdit) "__getattribute__" = some (some (.builtin "type.__getattribute__")))
  (sr_PartEdit:ff K c_PartEdit (.type "type")=true)
  (sf_PartEdit:e_ K (.ref c_PartEdit) (.type "type") "__init__" = some (.val (.ref f_zb)))
  (sg_TextEdit:dy K (.ref c_TextEdit) "__getattribute__" = some (some (.builtin "type.__getattribute__")))
  (sr_TextEdit:ff K c_TextEdit (.type "type")=true)
  (sf_TextEdit:e_ K (.ref c_TextEdit) (.type "type") "__init__" = some (.val (.ref f_zc)))
  (sg_TableEdit:dy K (.ref c_TableEdit) "__getattribute__" = some (some (.builtin "type.__getattribute__")))
  (sr_TableEdit:ff K c_TableEdit (.type "type")=true)
  (sf_TableEdit:e_ K (.ref c_TableEdit) (.type "type") "__init__" = some (.val (.ref f_za)))
  (mt_Chapter_fits:ac K (.ref c_zbz) "fits" = some (some (.ref f_zac)))
  (mt_Para_fits:ac K (.ref c_zch) "fits" = some (some (.ref f_zac)))
  (mt_zt:ac K (.ref c_zcd) "fits" = some (some (.ref f_zt)))
  (mt_zat:ac K (.ref c_zck) "told" = some (some (.ref f_zat)))
  (mt_zw:ac K (.ref c_zce) "told" = some (some (.ref f_zw)))
  (mt_zo:ac K (.ref c_zcc) "told" = some (some (.ref f_zo)))
  (mt_zab:ac K (.ref c_zcf) "told" = some (some (.ref f_zab)))
  (mt_zk:ac K (.ref c_zca) "told" = some (some (.ref f_zk)))
  (mt_zm:ac K (.ref c_zcb) "told" = some (some (.ref f_zm)))
  (mt_zar:ac K (.ref c_zcj) "told" = some (some (.ref f_zar)))
  (mt_zae:ac K (.ref c_zcg) "told" = some (some (.ref f_zae)))
  (mt_zah:ac K (.ref c_zci) "told" = some (some (.ref f_zah)))
  (mt_zd:ac K (.ref c_zbz) "word" = some (some (.ref f_zd)))
  (mt_zaf:ac K (.ref c_zch) "word" = some (some (.ref f_zaf)))
  (mt_zu:ac K (.ref c_zcd) "word" = some (some (.ref f_zu)))
  (q_zav:TopD K "_law_cell" Jw f_zav)
  (q_zz:TopD K "_law_stream" Sq f_zz)
  (q_zbb:TopD K "_law_text" J2 f_zbb)
  (q_zao:TopD K "_law_table" Jp f_zao)
  (q_zq:TopD K "_law_content" Sd f_zq)
  (q_zba:TopD K "_law_name" J1 f_zba)
  (q_zax:TopD K "_law_form" Jy f_zax)
  (q_zap:TopD K "_law_thing" Jq f_zap)
  (q_zy:TopD K "_law_spoilt" So f_zy)
  (q_zan:TopD K "_law_count" Jo f_zan)
  (q_zi:TopD K "_law_is_whole" R5 f_zi)
  (q_zr:TopD K "_law_is_name" Se f_zr)
  (q_zs:TopD K "_law_is_text" Sf f_zs)
  (q_zh:TopD K "_law_is_cells" R0 f_zh)
  (q_zaw:TopD K "_law_fits" Jx f_zaw)
  (q_zay:TopD K "_law_good" Jz f_zay)
  (q_zat:MetD K "told" "Put.told" Ju f_zat)
  (q_zw:MetD K "told" "Write.told" Sk f_zw)
  (q_zo:MetD K "told" "Splice.told" Sb f_zo)
  (q_zab:MetD K "told" "Cell.told" Jc f_zab)
  (q_zk:MetD K "told" "AddRow.told" R7 f_zk)
  (q_zm:MetD K "told" "CutRow.told" R9 f_zm)
  (q_zar:MetD K "told" "Cut.told" Js f_zar)
  (q_zae:MetD K "told" "Move.told" Jf f_zae)
  (q_zah:MetD K "told" "Wrap.told" Ji f_zah)
  (q_zx:TopD K "has_length" Sl f_zx)
  (q_zal:TopD K "is_letter" Jm f_zal)
  (q_zak:TopD K "is_figure" Jl f_zak)
  (q_ze:TopD K "is_name_sign" Rx f_ze)
  (q_zbg:TopD K "is_name" J7 f_zbg)
  (q_zau:TopD K "is_whole" Jv f_zau)
  (q_zbh:TopD K "is_rank" J8 f_zbh)
  (q_zf:TopD K "is_text_sign" Ry f_zf)
  (q_zbi:TopD K "is_text" J9 f_zbi)
  (q_zac:MetD K "fits" "Kind.fits" Jd f_zac)
  (q_zp:TopD K "is_tuple_of" Sc f_zp)
  (q_zbn:TopD K "is_row" Ke f_zbn)
  (q_zt:MetD K "fits" "Table.fits" Sh f_zt)
  (q_zd:MetD K "word" "Chapter.word" Rw f_zd)
  (q_zaf:MetD K "word" "Para.word" Jg f_zaf)
  (q_zu:MetD K "word" "Table.word" Si f_zu)
  (q_zg:TopD K "kind_of_word" Rz f_zg)
  (q_zbm:TopD K "insist" Kd f_zbm)
  (q_zam:TopD K "is_parent" Jn f_zam)
  (q_zas:MetD K "__init__" "Put.__init__" Jt f_zas)
  (q_zbo:TopD K "put_of" Kf f_zbo)
  (q_zb:MetD K "__init__" "PartEdit.__init__" Ru f_zb)
  (q_zc:MetD K "__init__" "TextEdit.__init__" Rv f_zc)
  (q_zv:MetD K "__init__" "Write.__init__" Sj f_zv)
  (q_zbd:TopD K "write_of" J4 f_zbd)
  (q_zn:MetD K "__init__" "Splice.__init__" Sa f_zn)
  (q_zaq:TopD K "splice_of" Jr f_zaq)
  (q_za:MetD K "__init__" "TableEdit.__init__" Rt f_za)
  (q_zaa:MetD K "__init__" "Cell.__init__" Jb f_zaa)
  (q_zbe:TopD K "cell_of" J5 f_zbe)
  (q_zj:MetD K "__init__" "AddRow.__init__" R6 f_zj)
  (q_zai:TopD K "addrow_of" Jj f_zai)
  (q_zl:MetD K "__init__" "CutRow.__init__" R8 f_zl)
  (q_zaj:TopD K "cutrow_of" Jk f_zaj)
  (q_zbl:TopD K "cut_of" Kc f_zbl)
  (q_zad:MetD K "__init__" "Move.__init__" Je f_zad)
  (q_zbj:TopD K "move_of" Ka f_zbj)
  (q_zag:MetD K "__init__" "Wrap.__init__" Jh f_zag)
  (q_zbk:TopD K "wrap_of" Kb f_zbk)
  (q_zbf:TopD K "edit_of" J6 f_zbf)
  (q_zaz:TopD K "_law_made" J0 f_zaz)
  (q_zbc:TopD K "_law_told" J3 f_zbc)
  (a_zbp:aF K aw "law" = some (some (.ref f_zbp)))
  (l_zbp:K.lookup f_zbp=some ⟨oc_zbp,od_zbp,.func (bY "law" "law" (B9 Du) (Ai Du) (Ab Du) .none kV_zbp dc_zbp pm_zbp an_zbp cd_zbp ct_zbp),sl_zbp⟩)
  (c_zbp:c_ K cd_zbp "law" = true)
  (k_zbp:aj K (.ref f_zbp)=true)
  (x_zbv:XC K c_zbv (valTail))
  (x_zbx:XC K c_zbx (.ref c_zbv::valTail))
  (x_zby:XC K c_zby (.ref c_zbv::valTail))
  (x_zbu:XC K c_zbu (.ref c_zbv::valTail))
  (v_zbq:aF K aw "GREATEST_RANK" = some (some u_zbq))
  (r_zbq:RelV (.int 1000000000) u_zbq)
  (v_zbr:aF K aw "LONGEST_TEXT" = some (some u_zbr))
  (r_zbr:RelV (.int 60) u_zbr)
  (v_zbs:aF K aw "PERCENT_SIGN" = some (some u_zbs))
  (r_zbs:RelV (.int 37) u_zbs)
  (v_zbw:aF K aw "MOST_ROWS" = some (some u_zbw))
  (r_zbw:RelV (.int 6) u_zbw)
  (v_zbt:aF K aw "MOST_CELLS" = some (some u_zbt))
  (r_zbt:RelV (.int 6) u_zbt)
  (v_zcl:aF K aw "TOP" = some (some u_zcl))
  (r_zcl:RelV (.str "") u_zcl)
  (v_FORMS:aF K aw "FORMS" = some (some (.ref a_FORMS)))
  (ne_FORMS:(a_FORMS==cf)=false)
  (ld_FORMS:K.lookup a_FORMS=some ⟨.type "dict", none,.dict es_FORMS ep_FORMS,#[]⟩)
  (de_FORMS:DEn w es_FORMS.toList [(.inr "put", .ref q_FORMS_put),(.inr "write", .ref q_FORMS_write),(.inr "splice", .ref q_FORMS_splice),(.inr "cell", .ref q_FORMS_cell),(.inr "addrow", .ref q_FORMS_addrow),(.inr "cutrow", .ref q_FORMS_cutrow),(.inr "cut", .ref q_FORMS_cut),(.inr "move", .ref q_FORMS_move),(.inr "wrap", .ref q_FORMS_wrap)])
  (z_ValueError:aF K aw "ValueError" = some none)
  (z_all:aF K aw "all" = some none)
  (z_bool:aF K aw "bool" = some none)
  (z_int:aF K aw "int" = some none)
  (z_isinstance:aF K aw "isinstance" = some none)
  (z_len:aF K aw "len" = some none)
  (z_list:aF K aw "list" = some none)
  (z_max:aF K aw "max" = some none)
  (z_min:aF K aw "min" = some none)
  (z_ord:aF K aw "ord" = some none)
  (z_range:aF K aw "range" = some none)
  (z_str:aF K aw "str" = some none)
  (z_tuple:aF K aw "tuple" = some none)
  (na_Put_part:ac K (.ref c_zck) "part" = some none)
  (na_Put_text:ac K (.ref c_zck) "text" = some none)
  (na_Put_at:ac K (.ref c_zck) "at" = some none)
  (na_Put_size:ac K (.ref c_zck) "size" = some none)
  (na_Put_row:ac K (.ref c_zck) "row" = some none)
  (na_Put_column:ac K (.ref c_zck) "column" = some none)
  (na_Put_cells:ac K (.ref c_zck) "cells" = some none)
  (na_Put_name:ac K (.ref c_zck) "name" = some none)
  (na_Put_kind:ac K (.ref c_zck) "kind" = some none)
  (na_Put_parent:ac K (.ref c_zck) "parent" = some none)
  (na_Put_rank:ac K (.ref c_zck) "rank" = some none)
  (na_Put_content:ac K (.ref c_zck) "content" = some none)
  (na_Write_part:ac K (.ref c_zce) "part" = some none)
  (na_Write_text:ac K (.ref c_zce) "text" = some none)
  (na_Write_at:ac K (.ref c_zce) "at" = some none)
  (na_Write_size:ac K (.ref c_zce) "size" = some none)
  (na_Write_row:ac K (.ref c_zce) "row" = some none)
  (na_Write_column:ac K (.ref c_zce) "column" = some none)
  (na_Write_cells:ac K (.ref c_zce) "cells" = some none)
  (na_Write_name:ac K (.ref c_zce) "name" = some none)
  (na_Write_kind:ac K (.ref c_zce) "kind" = some none)
  (na_Write_parent:ac K (.ref c_zce) "parent" = some none)
  (na_Write_rank:ac K (.ref c_zce) "rank" = some none)
  (na_Write_content:ac K (.ref c_zce) "content" = some none)
  (na_Splice_part:ac K (.ref c_zcc) "part" = some none)
  (na_Splice_text:ac K (.ref c_zcc) "text" = some none)
  (na_Splice_at:ac K (.ref c_zcc) "at" = some none)
  (na_Splice_size:ac K (.ref c_zcc) "size" = some none)
  (na_Splice_row:ac K (.ref c_zcc) "row" = some none)
  (na_Splice_column:ac K (.ref c_zcc) "column" = some none)
  (na_Splice_cells:ac K (.ref c_zcc) "cells" = some none)
  (na_Splice_name:ac K (.ref c_zcc) "name" = some none)
  (na_Splice_kind:ac K (.ref c_zcc) "kind" = some none)
  (na_Splice_parent:ac K (.ref c_zcc) "parent" = some none)
  (na_Splice_rank:ac K (.ref c_zcc) "rank" = some none)
  (na_Splice_content:ac K (.ref c_zcc) "content" = some none)
  (na_Cell_part:ac K (.ref c_zcf) "part" = some none)
  (na_Cell_text:ac K (.ref c_zcf) "text" = some none)
  (na_Cell_at:ac K (.ref c_zcf) "at" = some none)
  (na_Cell_size:ac K (.ref c_zcf) "size" = some none)
  (na_Cell_row:ac K (.ref c_zcf) "row" = some none)
  (na_Cell_column:ac K (.ref c_zcf) "column" = some none)
  (na_Cell_cells:ac K (.ref c_zcf) "cells" = some none)
  (na_Cell_name:ac K (.ref c_zcf) "name" = some none)
  (na_Cell_kind:ac K (.ref c_zcf) "kind" = some none)
  (na_Cell_parent:ac K (.ref c_zcf) "parent" = some none)
  (na_Cell_rank:ac K (.ref c_zcf) "rank" = some none)
  (na_Cell_content:ac K (.ref c_zcf) "content" = some none)
  (na_AddRow_part:ac K (.ref c_zca) "part" = some none)
  (na_AddRow_text:ac K (.ref c_zca) "text" = some none)
  (na_AddRow_at:ac K (.ref c_zca) "at" = some none)
  (na_AddRow_size:ac K (.ref c_zca) "size" = some none)
  (na_AddRow_row:ac K (.ref c_zca) "row" = some none)
  (na_AddRow_column:ac K (.ref c_zca) "column" = some none)
  (na_AddRow_cells:ac K (.ref c_zca) "cells" = some none)
  (na_AddRow_name:ac K (.ref c_zca) "name" = some none)
  (na_AddRow_kind:ac K (.ref c_zca) "kind" = some none)
  (na_AddRow_parent:ac K (.ref c_zca) "parent" = some none)
  (na_AddRow_rank:ac K (.ref c_zca) "rank" = some none)
  (na_AddRow_content:ac K (.ref c_zca) "content" = some none)
  (na_CutRow_part:ac K (.ref c_zcb) "part" = some none)
  (na_CutRow_text:ac K (.ref c_zcb) "text" = some none)
  (na_CutRow_at:ac K (.ref c_zcb) "at" = some none)
  (na_CutRow_size:ac K (.ref c_zcb) "size" = some none)
  (na_CutRow_row:ac K (.ref c_zcb) "row" = some none)
  (na_CutRow_column:ac K (.ref c_zcb) "column" = some none)
  (na_CutRow_cells:ac K (.ref c_zcb) "cells" = some none)
  (na_CutRow_name:ac K (.ref c_zcb) "name" = some none)
  (na_CutRow_kind:ac K (.ref c_zcb) "kind" = some none)
  (na_CutRow_parent:ac K (.ref c_zcb) "parent" = some none)
  (na_CutRow_rank:ac K (.ref c_zcb) "rank" = some none)
  (na_CutRow_content:ac K (.ref c_zcb) "content" = some none)
  (na_Cut_part:ac K (.ref c_zcj) "part" = some none)
  (na_Cut_text:ac K (.ref c_zcj) "text" = some none)
  (na_Cut_at:ac K (.ref c_zcj) "at" = some none)
  (na_Cut_size:ac K (.ref c_zcj) "size" = some none)
  (na_Cut_row:ac K (.ref c_zcj) "row" = some none)
  (na_Cut_column:ac K (.ref c_zcj) "column" = some none)
  (na_Cut_cells:ac K (.ref c_zcj) "cells" = some none)
  (na_Cut_name:ac K (.ref c_zcj) "name" = some none)
  (na_Cut_kind:ac K (.ref c_zcj) "kind" = some none)
  (na_Cut_parent:ac K (.ref c_zcj) "parent" = some none)
  (na_Cut_rank:ac K (.ref c_zcj) "rank" = some none)
  (na_Cut_content:ac K (.ref c_zcj) "content" = some none)
  (na_Move_part:ac K (.ref c_zcg) "part" = some none)
  (na_Move_text:ac K (.ref c_zcg) "text" = some none)
  (na_Move_at:ac K (.ref c_zcg) "at" = some none)
  (na_Move_size:ac K (.ref c_zcg) "size" = some none)
  (na_Move_row:ac K (.ref c_zcg) "row" = some none)
  (na_Move_column:ac K (.ref c_zcg) "column" = some none)
  (na_Move_cells:ac K (.ref c_zcg) "cells" = some none)
  (na_Move_name:ac K (.ref c_zcg) "name" = some none)
  (na_Move_kind:ac K (.ref c_zcg) "kind" = some none)
  (na_Move_parent:ac K (.ref c_zcg) "parent" = some none)
  (na_Move_rank:ac K (.ref c_zcg) "rank" = some none)
  (na_Move_content:ac K (.ref c_zcg) "content" = some none)
  (na_Wrap_part:ac K (.ref c_zci) "part" = some none)
  (na_Wrap_text:ac K (.ref c_zci) "text" = some none)
  (na_Wrap_at:ac K (.ref c_zci) "at" = some none)
  (na_Wrap_size:ac K (.ref c_zci) "size" = some none)
  (na_Wrap_row:ac K (.ref c_zci) "row" = some none)
  (na_Wrap_column:ac K (.ref c_zci) "column" = some none)
  (na_Wrap_cells:ac K (.ref c_zci) "cells" = some none)
  (na_Wrap_name:ac K (.ref c_zci) "name" = some none)
  (na_Wrap_kind:ac K (.ref c_zci) "kind" = some none)
  (na_Wrap_parent:ac K (.ref c_zci) "parent" = some none)
  (na_Wrap_rank:ac K (.ref c_zci) "rank" = some none)
  (na_Wrap_content:ac K (.ref c_zci) "content" = some none)
  (mb:cZ K c_zby (.ref c_zby)=some true)
  (nd:[c_zbv,c_zbx,c_zby,c_zbu].Nodup)
  (lq_put:K.lookup q_FORMS_put=some ⟨.type "tuple", qd_put,.seq #[.int 5 qt_put,.ref f_zbo] qn_put,qs_put⟩)
  (lq_write:K.lookup q_FORMS_write=some ⟨.type "tuple", qd_write,.seq #[.int 2 qt_write,.ref f_zbd] qn_write,qs_write⟩)
  (lq_splice:K.lookup q_FORMS_splice=some ⟨.type "tuple", qd_splice,.seq #[.int 4 qt_splice,.ref f_zaq] qn_splice,qs_splice⟩)
  (lq_cell:K.lookup q_FORMS_cell=some ⟨.type "tuple", qd_cell,.seq #[.int 4 qt_cell,.ref f_zbe] qn_cell,qs_cell⟩)
  (lq_addrow:K.lookup q_FORMS_addrow=some ⟨.type "tuple", qd_addrow,.seq #[.int 3 qt_addrow,.ref f_zai] qn_addrow,qs_addrow⟩)
  (lq_cutrow:K.lookup q_FORMS_cutrow=some ⟨.type "tuple", qd_cutrow,.seq #[.int 2 qt_cutrow,.ref f_zaj] qn_cutrow,qs_cutrow⟩)
  (lq_cut:K.lookup q_FORMS_cut=some ⟨.type "tuple", qd_cut,.seq #[.int 1 qt_cut,.ref f_zbl] qn_cut,qs_cut⟩)
  (lq_move:K.lookup q_FORMS_move=some ⟨.type "tuple", qd_move,.seq #[.int 3 qt_move,.ref f_zbj] qn_move,qs_move⟩)
  (lq_wrap:K.lookup q_FORMS_wrap=some ⟨.type "tuple", qd_wrap,.seq #[.int 3 qt_wrap,.ref f_zbk] qn_wrap,qs_wrap⟩)
  : ∃ (t:Adr) (fd:ai),(∀ (s:ah) (v:Value),iR s fd ⟨[v],[]⟩ [("_law_script", v)]) /\ ∀ base:Heap,K.In base->base.Ns aw mg->FnOk l.prog w K mg base CX0 13 fa fd ["_law_script"] (No K t):=by
 obtain⟨d_zav,g_zav⟩:=q_zav.ok X G (ps:=Oj) fun _ _ _ _ _ _ us hl=>Hf (fun _ _=>rfl) us hl
 obtain⟨d_zz,g_zz⟩:=q_zz.ok X G (ps:=Y3) fun _ _ _ _ _ _ us hl=>Hf (fun _ _=>rfl) us hl
 obtain⟨d_zbb,g_zbb⟩:=q_zbb.ok X G (ps:=Oq) fun _ _ _ _ _ _ us hl=>Be (fun _=>rfl) us hl
 obtain⟨d_zao,g_zao⟩:=q_zao.ok X G (ps:=Oc) fun _ _ _ _ _ _ us hl=>Be (fun _=>rfl) us hl
 obtain⟨d_zq,g_zq⟩:=q_zq.ok X G (ps:=Yu) fun _ _ _ _ _ _ us hl=>Hf (fun _ _=>rfl) us hl
 obtain⟨d_zba,g_zba⟩:=q_zba.ok X G (ps:=Op) fun _ _ _ _ _ _ us hl=>Hf (fun _ _=>rfl) us hl
 obtain⟨d_zax,g_zax⟩:=q_zax.ok X G (ps:=Om) fun _ _ _ _ _ _ us hl=>Be (fun _=>rfl) us hl
 obtain⟨d_zap,g_zap⟩:=q_zap.ok X G (ps:=Od) fun _ _ _ _ _ _ us hl=>Be (fun _=>rfl) us hl
 obtain⟨d_zy,g_zy⟩:=q_zy.ok X G (ps:=Y2) fun _ _ _ _ _ _ us hl=>am2 (fun _ _ _=>rfl) us hl
 obtain⟨d_zan,g_zan⟩:=q_zan.ok X G (ps:=Ob) fun _ _ _ _ _ _ us hl=>Be (fun _=>rfl) us hl
 obtain⟨d_zi,g_zi⟩:=q_zi.ok X G (ps:=Ym) fun _ _ _ _ _ _ us hl=>Be (fun _=>rfl) us hl
 obtain⟨d_zr,g_zr⟩:=q_zr.ok X G (ps:=Yv) fun _ _ _ _ _ _ us hl=>Be (fun _=>rfl) us hl
 obtain⟨d_zs,g_zs⟩:=q_zs.ok X G (ps:=Yw) fun _ _ _ _ _ _ us hl=>Be (fun _=>rfl) us hl
 obtain⟨d_zh,g_zh⟩:=q_zh.ok X G (ps:=Yl) fun _ _ _ _ _ _ us hl=>Be (fun _=>rfl) us hl
 obtain⟨d_zaw,g_zaw⟩:=q_zaw.ok X G (ps:=Ol) fun _ _ _ _ _ _ us hl=>Hf (fun _ _=>rfl) us hl
 obtain⟨d_zay,g_zay⟩:=q_zay.ok X G (ps:=On) fun _ _ _ _ _ _ us hl=>Be (fun _=>rfl) us hl
 obtain⟨d_zat,g_zat⟩:=q_zat.ok (ps:=Oh) fun _ _ _ _ _ _ us hl=>Be (fun _=>rfl) us hl
 obtain⟨d_zw,g_zw⟩:=q_zw.ok (ps:=Y0) fun _ _ _ _ _ _ us hl=>Be (fun _=>rfl) us hl
 obtain⟨d_zo,g_zo⟩:=q_zo.ok (ps:=Ys) fun _ _ _ _ _ _ us hl=>Be (fun _=>rfl) us hl
 obtain⟨d_zab,g_zab⟩:=q_zab.ok (ps:=Nz) fun _ _ _ _ _ _ us hl=>Be (fun _=>rfl) us hl
 obtain⟨d_zk,g_zk⟩:=q_zk.ok (ps:=Yo) fun _ _ _ _ _ _ us hl=>Be (fun _=>rfl) us hl
 obtain⟨d_zm,g_zm⟩:=q_zm.ok (ps:=Yq) fun _ _ _ _ _ _ us hl=>Be (fun _=>rfl) us hl
 obtain⟨d_zar,g_zar⟩:=q_zar.ok (ps:=Of) fun _ _ _ _ _ _ us hl=>Be (fun _=>rfl) us hl
 obtain⟨d_zae,g_zae⟩:=q_zae.ok (ps:=N2) fun _ _ _ _ _ _ us hl=>Be (fun _=>rfl) us hl
 obtain⟨d_zah,g_zah⟩:=q_zah.ok (ps:=N5) fun _ _ _ _ _ _ us hl=>Be (fun _=>rfl) us hl
 obtain⟨d_zx,g_zx⟩:=q_zx.ok X G (ps:=Y1) fun _ _ _ _ _ _ us hl=>am2 (fun _ _ _=>rfl) us hl
 obtain⟨d_zal,g_zal⟩:=q_zal.ok X G (ps:=N9) fun _ _ _ _ _ _ us hl=>Be (fun _=>rfl) us hl
 obtain⟨d_zak,g_zak⟩:=q_zak.ok X G (ps:=N8) fun _ _ _ _ _ _ us hl=>Be (fun _=>rfl) us hl
 obtain⟨d_ze,g_ze⟩:=q_ze.ok X G (ps:=Yi) fun _ _ _ _ _ _ us hl=>Be (fun _=>rfl) us hl
 obtain⟨d_zbg,g_zbg⟩:=q_zbg.ok X G (ps:=Ow) fun _ _ _ _ _ _ us hl=>Be (fun _=>rfl) us hl
 obtain⟨d_zau,g_zau⟩:=q_zau.ok X G (ps:=Oi) fun _ _ _ _ _ _ us hl=>Be (fun _=>rfl) us hl
 obtain⟨d_zbh,g_zbh⟩:=q_zbh.ok X G (ps:=Ox) fun _ _ _ _ _ _ us hl=>Be (fun _=>rfl) us hl
 obtain⟨d_zf,g_zf⟩:=q_zf.ok X G (ps:=Yj) fun _ _ _ _ _ _ us hl=>Be (fun _=>rfl) us hl
 obtain⟨d_zbi,g_zbi⟩:=q_zbi.ok X G (ps:=Oy) fun _ _ _ _ _ _ us hl=>Be (fun _=>rfl) us hl
 obtain⟨d_zac,g_zac⟩:=q_zac.ok (ps:=N0) fun _ _ _ _ _ _ us hl=>Hf (fun _ _=>rfl) us hl
 obtain⟨d_zp,g_zp⟩:=q_zp.ok X G (ps:=Yt) fun _ _ _ _ _ _ us hl=>Hf (fun _ _=>rfl) us hl
 obtain⟨d_zbn,g_zbn⟩:=q_zbn.ok X G (ps:=O3) fun _ _ _ _ _ _ us hl=>Be (fun _=>rfl) us hl
 obtain⟨d_zt,g_zt⟩:=q_zt.ok (ps:=Yx) fun _ _ _ _ _ _ us hl=>Hf (fun _ _=>rfl) us hl
 obtain⟨d_zd,g_zd⟩:=q_zd.ok (ps:=Yh) fun _ _ _ _ _ _ us hl=>Be (fun _=>rfl) us hl
 obtain⟨d_zaf,g_zaf⟩:=q_zaf.ok (ps:=N3) fun _ _ _ _ _ _ us hl=>Be (fun _=>rfl) us hl
 obtain⟨d_zu,g_zu⟩:=q_zu.ok (ps:=Yy) fun _ _ _ _ _ _ us hl=>Be (fun _=>rfl) us hl
 obtain⟨d_zg,g_zg⟩:=q_zg.ok X G (ps:=Yk) fun _ _ _ _ _ _ us hl=>Be (fun _=>rfl) us hl
 obtain⟨d_zbm,g_zbm⟩:=q_zbm.ok X G (ps:=O2) fun _ _ _ _ _ _ us hl=>Be (fun _=>rfl) us hl
 obtain⟨d_zam,g_zam⟩:=q_zam.ok X G (ps:=Oa) fun _ _ _ _ _ _ us hl=>Be (fun _=>rfl) us hl
 obtain⟨d_zas,g_zas⟩:=q_zas.ok (ps:=Og) fun _ _ _ _ _ _ us hl=>cj4 (fun _ _ _ _ _ _=>rfl) us hl
 obtain⟨d_zbo,g_zbo⟩:=q_zbo.ok X G (ps:=O4) fun _ _ _ _ _ _ us hl=>Be (fun _=>rfl) us hl
 obtain⟨d_zb,g_zb⟩:=q_zb.ok (ps:=Yf) fun _ _ _ _ _ _ us hl=>Hf (fun _ _=>rfl) us hl
 obtain⟨d_zc,g_zc⟩:=q_zc.ok (ps:=Yg) fun _ _ _ _ _ _ us hl=>Hf (fun _ _=>rfl) us hl
 obtain⟨d_zv,g_zv⟩:=q_zv.ok (ps:=Yz) fun _ _ _ _ _ _ us hl=>am2 (fun _ _ _=>rfl) us hl
 obtain⟨d_zbd,g_zbd⟩:=q_zbd.ok X G (ps:=Ot) fun _ _ _ _ _ _ us hl=>Be (fun _=>rfl) us hl
 obtain⟨d_zn,g_zn⟩:=q_zn.ok (ps:=Yr) fun _ _ _ _ _ _ us hl=>by9 (fun _ _ _ _ _=>rfl) us hl
 obtain⟨d_zaq,g_zaq⟩:=q_zaq.ok X G (ps:=Oe) fun _ _ _ _ _ _ us hl=>Be (fun _=>rfl) us hl
 obtain⟨d_za,g_za⟩:=q_za.ok (ps:=Ye) fun _ _ _ _ _ _ us hl=>Hf (fun _ _=>rfl) us hl
 obtain⟨d_zaa,g_zaa⟩:=q_zaa.ok (ps:=Ny) fun _ _ _ _ _ _ us hl=>by9 (fun _ _ _ _ _=>rfl) us hl
 obtain⟨d_zbe,g_zbe⟩:=q_zbe.ok X G (ps:=Ou) fun _ _ _ _ _ _ us hl=>Be (fun _=>rfl) us hl
 obtain⟨d_zj,g_zj⟩:=q_zj.ok (ps:=Yn) fun _ _ _ _ _ _ us hl=>a58 (fun _ _ _ _=>rfl) us hl
 obtain⟨d_zai,g_zai⟩:=q_zai.ok X G (ps:=N6) fun _ _ _ _ _ _ us hl=>Be (fun _=>rfl) us hl
 obtain⟨d_zl,g_zl⟩:=q_zl.ok (ps:=Yp) fun _ _ _ _ _ _ us hl=>am2 (fun _ _ _=>rfl) us hl
 obtain⟨d_zaj,g_zaj⟩:=q_zaj.ok X G (ps:=N7) fun _ _ _ _ _ _ us hl=>Be (fun _=>rfl) us hl
 obtain⟨d_zbl,g_zbl⟩:=q_zbl.ok X G (ps:=O1) fun _ _ _ _ _ _ us hl=>Be (fun _=>rfl) us hl
 obtain⟨d_zad,g_zad⟩:=q_zad.ok (ps:=N1) fun _ _ _ _ _ _ us hl=>a58 (fun _ _ _ _=>rfl) us hl
 obtain⟨d_zbj,g_zbj⟩:=q_zbj.ok X G (ps:=Oz) fun _ _ _ _ _ _ us hl=>Be (fun _=>rfl) us hl
 obtain⟨d_zag,g_zag⟩:=q_zag.ok (ps:=N4) fun _ _ _ _ _ _ us hl=>a58 (fun _ _ _ _=>rfl) us hl
 obtain⟨d_zbk,g_zbk⟩:=q_zbk.ok X G (ps:=O0) fun _ _ _ _ _ _ us hl=>Be (fun _=>rfl) us hl
 obtain⟨d_zbf,g_zbf⟩:=q_zbf.ok X G (ps:=Ov) fun _ _ _ _ _ _ us hl=>Be (fun _=>rfl) us hl
 obtain⟨d_zaz,g_zaz⟩:=q_zaz.ok X G (ps:=Oo) fun _ _ _ _ _ _ us hl=>Be (fun _=>rfl) us hl
 obtain⟨d_zbc,g_zbc⟩:=q_zbc.ok X G (ps:=Os) fun _ _ _ _ _ _ us hl=>Hf (fun _ _=>rfl) us hl
 have F_zbp:=Q5 (st:=Du) l_zbp c_zbp k_zbp
 have b_zbp:=F_zbp.binds (ps:=O5) fun _ _ _ _ _ _ us hl=>Be (fun _=>rfl) us hl
 have m:=aV X G a_zbp
 have e:fa=f_zbp:=by
  rw [hfa] at m
  injection m with m
  injection m
 subst e
 have tl_1:∀ {a:Addr},A4 (.ref a::valTail)=true:=fun {a}=>by show A4 valTail=true;decide +kernel
 have AO:ar8 K mg ⟨f_zav,d_zav,f_zz,d_zz,f_zbb,d_zbb,f_zao,d_zao,f_zq,d_zq,f_zba,d_zba,f_zax,d_zax,f_zap,d_zap,f_zy,d_zy,f_zan,d_zan,f_zi,d_zi,f_zr,d_zr,f_zs,d_zs,f_zh,d_zh,f_zaw,d_zaw,f_zay,d_zay,f_zat,d_zat,f_zw,d_zw,f_zo,d_zo,f_zab,d_zab,f_zk,d_zk,f_zm,d_zm,f_zar,d_zar,f_zae,d_zae,f_zah,d_zah,f_zx,d_zx,f_zal,d_zal,f_zak,d_zak,f_ze,d_ze,f_zbg,d_zbg,f_zau,d_zau,f_zbh,d_zbh,f_zf,d_zf,f_zbi,d_zbi,f_zac,d_zac,f_zp,d_zp,f_zbn,d_zbn,f_zt,d_zt,f_zd,d_zd,f_zaf,d_zaf,f_zu,d_zu,f_zg,d_zg,f_zbm,d_zbm,f_zam,d_zam,f_zas,d_zas,f_zbo,d_zbo,f_zb,d_zb,f_zc,d_zc,f_zv,d_zv,f_zbd,d_zbd,f_zn,d_zn,f_zaq,d_zaq,f_za,d_za,f_zaa,d_zaa,f_zbe,d_zbe,f_zj,d_zj,f_zai,d_zai,f_zl,d_zl,f_zaj,d_zaj,f_zbl,d_zbl,f_zad,d_zad,f_zbj,d_zbj,f_zag,d_zag,f_zbk,d_zbk,f_zbf,d_zbf,f_zaz,d_zaz,f_zbc,d_zbc,fa,_,c_zbv,c_zbx,c_zby,c_zbu,c_zbz,c_zch,c_zcd,c_zck,c_zce,c_zcc,c_zcf,c_zca,c_zcb,c_zcj,c_zcg,c_zci,c_PartEdit,c_TextEdit,c_TableEdit,u_zbq,u_zbr,u_zbs,u_zbw,u_zbt,u_zcl,a_FORMS,q_FORMS_put,q_FORMS_write,q_FORMS_splice,q_FORMS_cell,q_FORMS_addrow,q_FORMS_cutrow,q_FORMS_cut,q_FORMS_move,q_FORMS_wrap⟩:=⟨g_zav,g_zz,g_zbb,g_zao,g_zq,g_zba,g_zax,g_zap,g_zy,g_zan,g_zi,g_zr,g_zs,g_zh,g_zaw,g_zay,g_zat,g_zw,g_zo,g_zab,g_zk,g_zm,g_zar,g_zae,g_zah,g_zx,g_zal,g_zak,g_ze,g_zbg,g_zau,g_zbh,g_zf,g_zbi,g_zac,g_zp,g_zbn,g_zt,g_zd,g_zaf,g_zu,g_zg,g_zbm,g_zam,g_zas,g_zbo,g_zb,g_zc,g_zv,g_zbd,g_zn,g_zaq,g_za,g_zaa,g_zbe,g_zj,g_zai,g_zl,g_zaj,g_zbl,g_zad,g_zbj,g_zag,g_zbk,g_zbf,g_zaz,g_zbc,F_zbp.toD,(fun j _=>by rw [List.drop_nil];exact b_zbp),.nil,aV X G a_zbp,aV X G a_zbv,kp_zbv,x_zbv.ecls (by decide +kernel),in_zbv,aV X G a_zbx,kp_zbx,x_zbx.ecls tl_1,in_zbx,aV X G a_zby,kp_zby,x_zby.ecls tl_1,in_zby,aV X G a_zbu,kp_zbu,x_zbu.ecls tl_1,aV X G a_zbz,kp_zbz,mk_zbz,in_zbz,⟨pg_zbz,hd_zbz,po_zbz,sa_zbz⟩,aV X G a_zch,kp_zch,mk_zch,in_zch,⟨pg_zch,hd_zch,po_zch,sa_zch⟩,aV X G a_zcd,kp_zcd,mk_zcd,in_zcd,⟨pg_zcd,hd_zcd,po_zcd,sa_zcd⟩,aV X G a_zck,kp_zck,mk_zck,in_zck,⟨pg_zck,hd_zck,po_zck,sa_zck⟩,aV X G a_zce,kp_zce,mk_zce,in_zce,⟨pg_zce,hd_zce,po_zce,sa_zce⟩,aV X G a_zcc,kp_zcc,mk_zcc,in_zcc,⟨pg_zcc,hd_zcc,po_zcc,sa_zcc⟩,aV X G a_zcf,kp_zcf,mk_zcf,in_zcf,⟨pg_zcf,hd_zcf,po_zcf,sa_zcf⟩,aV X G a_zca,kp_zca,mk_zca,in_zca,⟨pg_zca,hd_zca,po_zca,sa_zca⟩,aV X G a_zcb,kp_zcb,mk_zcb,in_zcb,⟨pg_zcb,hd_zcb,po_zcb,sa_zcb⟩,aV X G a_zcj,kp_zcj,mk_zcj,in_zcj,⟨pg_zcj,hd_zcj,po_zcj,sa_zcj⟩,aV X G a_zcg,kp_zcg,mk_zcg,in_zcg,⟨pg_zcg,hd_zcg,po_zcg,sa_zcg⟩,aV X G a_zci,kp_zci,mk_zci,in_zci,⟨pg_zci,hd_zci,po_zci,sa_zci⟩,aV X G a_PartEdit,⟨sg_PartEdit,sr_PartEdit,sf_PartEdit,rfl⟩,aV X G a_TextEdit,⟨sg_TextEdit,sr_TextEdit,sf_TextEdit,rfl⟩,aV X G a_TableEdit,⟨sg_TableEdit,sr_TableEdit,sf_TableEdit,rfl⟩,⟨mt_Chapter_fits,g_zac.i,g_zac.F.kp⟩,⟨mt_Para_fits,g_zac.i,g_zac.F.kp⟩,⟨mt_zt,g_zt.i,g_zt.F.kp⟩,⟨mt_zat,g_zat.i,g_zat.F.kp⟩,⟨mt_zw,g_zw.i,g_zw.F.kp⟩,⟨mt_zo,g_zo.i,g_zo.F.kp⟩,⟨mt_zab,g_zab.i,g_zab.F.kp⟩,⟨mt_zk,g_zk.i,g_zk.F.kp⟩,⟨mt_zm,g_zm.i,g_zm.F.kp⟩,⟨mt_zar,g_zar.i,g_zar.F.kp⟩,⟨mt_zae,g_zae.i,g_zae.F.kp⟩,⟨mt_zah,g_zah.i,g_zah.F.kp⟩,⟨mt_zd,g_zd.i,g_zd.F.kp⟩,⟨mt_zaf,g_zaf.i,g_zaf.F.kp⟩,⟨mt_zu,g_zu.i,g_zu.F.kp⟩,aV X G v_zbq,r_zbq,aV X G v_zbr,r_zbr,aV X G v_zbs,r_zbs,aV X G v_zbw,r_zbw,aV X G v_zbt,r_zbt,aV X G v_zcl,r_zcl,aV X G v_FORMS,(fun x hx=>by
   simp only [bl,ay,aU,or_false] at hx
   rcases hx with rfl|rfl|rfl|rfl|rfl|rfl|rfl|rfl|rfl|rfl|rfl|rfl|rfl
   all_goals exact PySem.W.mg_none_of X G (by assumption)),⟨(fun C h=>by
  simp only [Vz,ay,aU,or_false] at h
  rcases h with rfl|rfl|rfl|rfl|rfl|rfl|rfl|rfl|rfl
  ·exact⟨⟨pg_zck,hd_zck,po_zck,sa_zck⟩,(fun f hf=>by
   simp only [Kx,ay,aU,or_false] at hf
   rcases hf with rfl|rfl|rfl|rfl|rfl|rfl|rfl|rfl|rfl|rfl|rfl|rfl
   ·exact na_Put_part
   ·exact na_Put_text
   ·exact na_Put_at
   ·exact na_Put_size
   ·exact na_Put_row
   ·exact na_Put_column
   ·exact na_Put_cells
   ·exact na_Put_name
   ·exact na_Put_kind
   ·exact na_Put_parent
   ·exact na_Put_rank
   ·exact na_Put_content)⟩
  ·exact⟨⟨pg_zce,hd_zce,po_zce,sa_zce⟩,(fun f hf=>by
   simp only [Kx,ay,aU,or_false] at hf
   rcases hf with rfl|rfl|rfl|rfl|rfl|rfl|rfl|rfl|rfl|rfl|rfl|rfl
   ·exact na_Write_part
   ·exact na_Write_text
   ·exact na_Write_at
   ·exact na_Write_size
   ·exact na_Write_row
   ·exact na_Write_column
   ·exact na_Write_cells
   ·exact na_Write_name
   ·exact na_Write_kind
   ·exact na_Write_parent
   ·exact na_Write_rank
   ·exact na_Write_content)⟩
  ·exact⟨⟨pg_zcc,hd_zcc,po_zcc,sa_zcc⟩,(fun f hf=>by
   simp only [Kx,ay,aU,or_false] at hf
   rcases hf with rfl|rfl|rfl|rfl|rfl|rfl|rfl|rfl|rfl|rfl|rfl|rfl
   ·exact na_Splice_part
   ·exact na_Splice_text
   ·exact na_Splice_at
   ·exact na_Splice_size
   ·exact na_Splice_row
   ·exact na_Splice_column
   ·exact na_Splice_cells
   ·exact na_Splice_name
   ·exact na_Splice_kind
   ·exact na_Splice_parent
   ·exact na_Splice_rank
   ·exact na_Splice_content)⟩
  ·exact⟨⟨pg_zcf,hd_zcf,po_zcf,sa_zcf⟩,(fun f hf=>by
   simp only [Kx,ay,aU,or_false] at hf
   rcases hf with rfl|rfl|rfl|rfl|rfl|rfl|rfl|rfl|rfl|rfl|rfl|rfl
   ·exact na_Cell_part
   ·exact na_Cell_text
   ·exact na_Cell_at
   ·exact na_Cell_size
   ·exact na_Cell_row
   ·exact na_Cell_column
   ·exact na_Cell_cells
   ·exact na_Cell_name
   ·exact na_Cell_kind
   ·exact na_Cell_parent
   ·exact na_Cell_rank
   ·exact na_Cell_content)⟩
  ·exact⟨⟨pg_zca,hd_zca,po_zca,sa_zca⟩,(fun f hf=>by
   simp only [Kx,ay,aU,or_false] at hf
   rcases hf with rfl|rfl|rfl|rfl|rfl|rfl|rfl|rfl|rfl|rfl|rfl|rfl
   ·exact na_AddRow_part
   ·exact na_AddRow_text
   ·exact na_AddRow_at
   ·exact na_AddRow_size
   ·exact na_AddRow_row
   ·exact na_AddRow_column
   ·exact na_AddRow_cells
   ·exact na_AddRow_name
   ·exact na_AddRow_kind
   ·exact na_AddRow_parent
   ·exact na_AddRow_rank
   ·exact na_AddRow_content)⟩
  ·exact⟨⟨pg_zcb,hd_zcb,po_zcb,sa_zcb⟩,(fun f hf=>by
   simp only [Kx,ay,aU,or_false] at hf
   rcases hf with rfl|rfl|rfl|rfl|rfl|rfl|rfl|rfl|rfl|rfl|rfl|rfl
   ·exact na_CutRow_part
   ·exact na_CutRow_text
   ·exact na_CutRow_at
   ·exact na_CutRow_size
   ·exact na_CutRow_row
   ·exact na_CutRow_column
   ·exact na_CutRow_cells
   ·exact na_CutRow_name
   ·exact na_CutRow_kind
   ·exact na_CutRow_parent
   ·exact na_CutRow_rank
   ·exact na_CutRow_content)⟩
  ·exact⟨⟨pg_zcj,hd_zcj,po_zcj,sa_zcj⟩,(fun f hf=>by
   simp only [Kx,ay,aU,or_false] at hf
   rcases hf with rfl|rfl|rfl|rfl|rfl|rfl|rfl|rfl|rfl|rfl|rfl|rfl
   ·exact na_Cut_part
   ·exact na_Cut_text
   ·exact na_Cut_at
   ·exact na_Cut_size
   ·exact na_Cut_row
   ·exact na_Cut_column
   ·exact na_Cut_cells
   ·exact na_Cut_name
   ·exact na_Cut_kind
   ·exact na_Cut_parent
   ·exact na_Cut_rank
   ·exact na_Cut_content)⟩
  ·exact⟨⟨pg_zcg,hd_zcg,po_zcg,sa_zcg⟩,(fun f hf=>by
   simp only [Kx,ay,aU,or_false] at hf
   rcases hf with rfl|rfl|rfl|rfl|rfl|rfl|rfl|rfl|rfl|rfl|rfl|rfl
   ·exact na_Move_part
   ·exact na_Move_text
   ·exact na_Move_at
   ·exact na_Move_size
   ·exact na_Move_row
   ·exact na_Move_column
   ·exact na_Move_cells
   ·exact na_Move_name
   ·exact na_Move_kind
   ·exact na_Move_parent
   ·exact na_Move_rank
   ·exact na_Move_content)⟩
  ·exact⟨⟨pg_zci,hd_zci,po_zci,sa_zci⟩,(fun f hf=>by
   simp only [Kx,ay,aU,or_false] at hf
   rcases hf with rfl|rfl|rfl|rfl|rfl|rfl|rfl|rfl|rfl|rfl|rfl|rfl
   ·exact na_Wrap_part
   ·exact na_Wrap_text
   ·exact na_Wrap_at
   ·exact na_Wrap_size
   ·exact na_Wrap_row
   ·exact na_Wrap_column
   ·exact na_Wrap_cells
   ·exact na_Wrap_name
   ·exact na_Wrap_kind
   ·exact na_Wrap_parent
   ·exact na_Wrap_rank
   ·exact na_Wrap_content)⟩),(fun C h=>by
  simp only [ay,aU,or_false] at h
  rcases h with rfl|rfl|rfl
  ·exact⟨pg_zbz,hd_zbz,po_zbz,sa_zbz⟩
  ·exact⟨pg_zch,hd_zch,po_zch,sa_zch⟩
  ·exact⟨pg_zcd,hd_zcd,po_zcd,sa_zcd⟩),a21 nd x_zbv x_zbx x_zby x_zbu tl_1 mb,(fun i hi H=>by
  match i,hi with
  | 0,_=>exact D4 lq_put
  | 1,_=>exact D4 lq_write
  | 2,_=>exact D4 lq_splice
  | 3,_=>exact D4 lq_cell
  | 4,_=>exact D4 lq_addrow
  | 5,_=>exact D4 lq_cutrow
  | 6,_=>exact D4 lq_cut
  | 7,_=>exact D4 lq_move
  | 8,_=>exact D4 lq_wrap)⟩⟩
 exact⟨_,bY "law" "law" (B9 Du) (Ai Du) (Ab Du) .none kV_zbp dc_zbp pm_zbp an_zbp cd_zbp ct_zbp,fun s v=>.of_eq rfl,fun base _ _=>a57 AO (al9 ne_FORMS ld_FORMS de_FORMS (by show ([.inr "put", .inr "write", .inr "splice", .inr "cell", .inr "addrow", .inr "cutrow", .inr "cut", .inr "move", .inr "wrap"]:List Key).Nodup;decide +kernel))⟩
noncomputable def sp0 (K:aa):Sp:=fun vs H Q _=>∃ (a:Addr) (ns:List Int),vs=[.ref a]/\SqL K H a (ns.map V.int)/\ns.length<=63 /\ ∀ H',Q (.bl true) H'
theorem walk {l:gI} {q:aI} {loose:List Str} {XP:(Str->Option Value)->Heap->Prop} {YP:bq->Heap->Prop} {d:DefRec} {K:Params->aa} (hn:l.most=some 63) (hdf:d.params.defaults=[])
  (hY:∀ (w:bq) (h:Heap),YP w h->(K w.params).In h)
  (F:∀ (w:bq) (mg:Str->Option Value) (fa:Addr) (h:Heap),(K w.params).In h->h.Ns aw mg->mg d.name=some (.ref fa) ->
   ∃ (t:Adr) (fd:ai),(∀ (s:ah) (u:Value),iR s fd ⟨[u],[]⟩ [("_law_script", u)]) /\ ∀ base:Heap,(K w.params).In base->base.Ns aw mg->FnOk l.prog w (K w.params) mg base CX0 13 fa fd ["_law_script"] (No (K w.params) t)) :
  PySem.W.WalkO q loose XP YP l.row.toRowW d [] (fun f vs=>PySem.call f vs):=
 L2.walk_of (n:=63) (k:=13) (x := "_law_script") (CX:=fun _=>CX0) (sp:=fun w=>sp0 (K w.params)) (fun _ _=>bn) hn (by decide) hdf ⟨rfl,by decide,by decide⟩ hY (fun w mg fa h a b c=>let ⟨t,fd,h1,h2⟩:=F w mg fa h a b c;⟨fd,h1,fun base x y=>(h2 base x y).imp fun vs H Q E z=>z⟩) (fun _ _ a ns hl _ hS=>⟨a,ns,rfl,hS,hl,fun _=>rfl⟩) fun _ _ _ _ _ z=>z
end K28
open PySem PySem.W PyProof.Rows
end
set_option maxRecDepth 100000 in
set_option maxHeartbeats 0 in
theorem PySem.Challenge.cw_manyleaf_k28_no_edit_holds : PySem.Challenge.rw_manyleaf_k28_no_edit.Holds := by
 refine head_k28 ?_
 k_fill
 refine K28.walk (l:=PySem.Challenge.rw_manyleaf_k28_no_edit) rfl rfl (fun w h Y=>PySem.W.kIn_of Y) ?F
 case F=>
  intro w mg fa h KX G hmg
  refine' K28.all_mk KX G hmg ?a_zbv ?a_zbx ?a_zby ?a_zbu ?in_zbv ?kp_zbv ?in_zbx ?kp_zbx ?in_zby ?kp_zby ?kp_zbu ?a_zbz ?a_zch ?a_zcd ?a_zck ?a_zce ?a_zcc ?a_zcf ?a_zca ?a_zcb ?a_zcj ?a_zcg ?a_zci ?in_zbz ?kp_zbz ?mk_zbz ?pg_zbz ?hd_zbz ?po_zbz ?sa_zbz ?in_zch ?kp_zch ?mk_zch ?pg_zch ?hd_zch ?po_zch ?sa_zch ?in_zcd ?kp_zcd ?mk_zcd ?pg_zcd ?hd_zcd ?po_zcd ?sa_zcd ?in_zck ?kp_zck ?mk_zck ?pg_zck ?hd_zck ?po_zck ?sa_zck ?in_zce ?kp_zce ?mk_zce ?pg_zce ?hd_zce ?po_zce ?sa_zce ?in_zcc ?kp_zcc ?mk_zcc ?pg_zcc ?hd_zcc ?po_zcc ?sa_zcc ?in_zcf ?kp_zcf ?mk_zcf ?pg_zcf ?hd_zcf ?po_zcf ?sa_zcf ?in_zca ?kp_zca ?mk_zca ?pg_zca ?hd_zca ?po_zca ?sa_zca ?in_zcb ?kp_zcb ?mk_zcb ?pg_zcb ?hd_zcb ?po_zcb ?sa_zcb ?in_zcj ?kp_zcj ?mk_zcj ?pg_zcj ?hd_zcj ?po_zcj ?sa_zcj ?in_zcg ?kp_zcg ?mk_zcg ?pg_zcg ?hd_zcg ?po_zcg ?sa_zcg ?in_zci ?kp_zci ?mk_zci ?pg_zci ?hd_zci ?po_zci ?sa_zci ?a_PartEdit ?a_TextEdit ?a_TableEdit ?sg_PartEdit ?sr_PartEdit ?sf_PartEdit ?sg_TextEdit ?sr_TextEdit ?sf_TextEdit ?sg_TableEdit ?sr_TableEdit ?sf_TableEdit ?mt_Chapter_fits ?mt_Para_fits ?mt_zt ?mt_zat ?mt_zw ?mt_zo ?mt_zab ?mt_zk ?mt_zm ?mt_zar ?mt_zae ?mt_zah ?mt_zd ?mt_zaf ?mt_zu ?q_zav ?q_zz ?q_zbb ?q_zao ?q_zq ?q_zba ?q_zax ?q_zap ?q_zy ?q_zan ?q_zi ?q_zr ?q_zs ?q_zh ?q_zaw ?q_zay ?q_zat ?q_zw ?q_zo ?q_zab ?q_zk ?q_zm ?q_zar ?q_zae ?q_zah ?q_zx ?q_zal ?q_zak ?q_ze ?q_zbg ?q_zau ?q_zbh ?q_zf ?q_zbi ?q_zac ?q_zp ?q_zbn ?q_zt ?q_zd ?q_zaf ?q_zu ?q_zg ?q_zbm ?q_zam ?q_zas ?q_zbo ?q_zb ?q_zc ?q_zv ?q_zbd ?q_zn ?q_zaq ?q_za ?q_zaa ?q_zbe ?q_zj ?q_zai ?q_zl ?q_zaj ?q_zbl ?q_zad ?q_zbj ?q_zag ?q_zbk ?q_zbf ?q_zaz ?q_zbc ?a_zbp ?l_zbp ?c_zbp ?k_zbp ?x_zbv ?x_zbx ?x_zby ?x_zbu ?v_zbq ?r_zbq ?v_zbr ?r_zbr ?v_zbs ?r_zbs ?v_zbw ?r_zbw ?v_zbt ?r_zbt ?v_zcl ?r_zcl ?v_FORMS ?ne_FORMS ?ld_FORMS ?de_FORMS ?z_ValueError ?z_all ?z_bool ?z_int ?z_isinstance ?z_len ?z_list ?z_max ?z_min ?z_ord ?z_range ?z_str ?z_tuple ?na_Put_part ?na_Put_text ?na_Put_at ?na_Put_size ?na_Put_row ?na_Put_column ?na_Put_cells ?na_Put_name ?na_Put_kind ?na_Put_parent ?na_Put_rank ?na_Put_content ?na_Write_part ?na_Write_text ?na_Write_at ?na_Write_size ?na_Write_row ?na_Write_column ?na_Write_cells ?na_Write_name ?na_Write_kind ?na_Write_parent ?na_Write_rank ?na_Write_content ?na_Splice_part ?na_Splice_text ?na_Splice_at ?na_Splice_size ?na_Splice_row ?na_Splice_column ?na_Splice_cells ?na_Splice_name ?na_Splice_kind ?na_Splice_parent ?na_Splice_rank ?na_Splice_content ?na_Cell_part ?na_Cell_text ?na_Cell_at ?na_Cell_size ?na_Cell_row ?na_Cell_column ?na_Cell_cells ?na_Cell_name ?na_Cell_kind ?na_Cell_parent ?na_Cell_rank ?na_Cell_content ?na_AddRow_part ?na_AddRow_text ?na_AddRow_at ?na_AddRow_size ?na_AddRow_row ?na_AddRow_column ?na_AddRow_cells ?na_AddRow_name ?na_AddRow_kind ?na_AddRow_parent ?na_AddRow_rank ?na_AddRow_content ?na_CutRow_part ?na_CutRow_text ?na_CutRow_at ?na_CutRow_size ?na_CutRow_row ?na_CutRow_column ?na_CutRow_cells ?na_CutRow_name ?na_CutRow_kind ?na_CutRow_parent ?na_CutRow_rank ?na_CutRow_content ?na_Cut_part ?na_Cut_text ?na_Cut_at ?na_Cut_size ?na_Cut_row ?na_Cut_column ?na_Cut_cells ?na_Cut_name ?na_Cut_kind ?na_Cut_parent ?na_Cut_rank ?na_Cut_content ?na_Move_part ?na_Move_text ?na_Move_at ?na_Move_size ?na_Move_row ?na_Move_column ?na_Move_cells ?na_Move_name ?na_Move_kind ?na_Move_parent ?na_Move_rank ?na_Move_content ?na_Wrap_part ?na_Wrap_text ?na_Wrap_at ?na_Wrap_size ?na_Wrap_row ?na_Wrap_column ?na_Wrap_cells ?na_Wrap_name ?na_Wrap_kind ?na_Wrap_parent ?na_Wrap_rank ?na_Wrap_content ?mb ?nd ?lq_put ?lq_write ?lq_splice ?lq_cell ?lq_addrow ?lq_cutrow ?lq_cut ?lq_move ?lq_wrap
  (case a_zbv=>k_is)
  (case a_zbx=>k_is)
  (case a_zby=>k_is)
  (case a_zbu=>k_is)
  (case in_zbv=>k_is)
  (case kp_zbv=>k_is)
  (case in_zbx=>k_is)
  (case kp_zbx=>k_is)
  (case in_zby=>k_is)
  (case kp_zby=>k_is)
  (case kp_zbu=>k_is)
  (case a_zbz=>k_is)
  (case a_zch=>k_is)
  (case a_zcd=>k_is)
  (case a_zck=>k_is)
  (case a_zce=>k_is)
  (case a_zcc=>k_is)
  (case a_zcf=>k_is)
  (case a_zca=>k_is)
  (case a_zcb=>k_is)
  (case a_zcj=>k_is)
  (case a_zcg=>k_is)
  (case a_zci=>k_is)
  (case in_zbz=>k_is)
  (case kp_zbz=>k_is)
  (case mk_zbz=>k_is)
  (case pg_zbz=>k_is)
  (case hd_zbz=>k_is)
  (case po_zbz=>k_is)
  (case sa_zbz=>k_is)
  (case in_zch=>k_is)
  (case kp_zch=>k_is)
  (case mk_zch=>k_is)
  (case pg_zch=>k_is)
  (case hd_zch=>k_is)
  (case po_zch=>k_is)
  (case sa_zch=>k_is)
  (case in_zcd=>k_is)
  (case kp_zcd=>k_is)
  (case mk_zcd=>k_is)
  (case pg_zcd=>k_is)
  (case hd_zcd=>k_is)
  (case po_zcd=>k_is)
  (case sa_zcd=>k_is)
  (case in_zck=>k_is)
  (case kp_zck=>k_is)
  (case mk_zck=>k_is)
  (case pg_zck=>k_is)
  (case hd_zck=>k_is)
  (case po_zck=>k_is)
  (case sa_zck=>k_is)
  (case in_zce=>k_is)
  (case kp_zce=>k_is)
  (case mk_zce=>k_is)
  (case pg_zce=>k_is)
  (case hd_zce=>k_is)
  (case po_zce=>k_is)
  (case sa_zce=>k_is)
  (case in_zcc=>k_is)
  (case kp_zcc=>k_is)
  (case mk_zcc=>k_is)
  (case pg_zcc=>k_is)
  (case hd_zcc=>k_is)
  (case po_zcc=>k_is)
  (case sa_zcc=>k_is)
  (case in_zcf=>k_is)
  (case kp_zcf=>k_is)
  (case mk_zcf=>k_is)
  (case pg_zcf=>k_is)
  (case hd_zcf=>k_is)
  (case po_zcf=>k_is)
  (case sa_zcf=>k_is)
  (case in_zca=>k_is)
  (case kp_zca=>k_is)
  (case mk_zca=>k_is)
  (case pg_zca=>k_is)
  (case hd_zca=>k_is)
  (case po_zca=>k_is)
  (case sa_zca=>k_is)
  (case in_zcb=>k_is)
  (case kp_zcb=>k_is)
  (case mk_zcb=>k_is)
  (case pg_zcb=>k_is)
  (case hd_zcb=>k_is)
  (case po_zcb=>k_is)
  (case sa_zcb=>k_is)
  (case in_zcj=>k_is)
  (case kp_zcj=>k_is)
  (case mk_zcj=>k_is)
  (case pg_zcj=>k_is)
  (case hd_zcj=>k_is)
  (case po_zcj=>k_is)
  (case sa_zcj=>k_is)
  (case in_zcg=>k_is)
  (case kp_zcg=>k_is)
  (case mk_zcg=>k_is)
  (case pg_zcg=>k_is)
  (case hd_zcg=>k_is)
  (case po_zcg=>k_is)
  (case sa_zcg=>k_is)
  (case in_zci=>k_is)
  (case kp_zci=>k_is)
  (case mk_zci=>k_is)
  (case pg_zci=>k_is)
  (case hd_zci=>k_is)
  (case po_zci=>k_is)
  (case sa_zci=>k_is)
  (case a_PartEdit=>k_is)
  (case a_TextEdit=>k_is)
  (case a_TableEdit=>k_is)
  (case sg_PartEdit=>k_is)
  (case sr_PartEdit=>k_is)
  (case sf_PartEdit=>k_is)
  (case sg_TextEdit=>k_is)
  (case sr_TextEdit=>k_is)
  (case sf_TextEdit=>k_is)
  (case sg_TableEdit=>k_is)
  (case sr_TableEdit=>k_is)
  (case sf_TableEdit=>k_is)
  (case mt_Chapter_fits=>k_is)
  (case mt_Para_fits=>k_is)
  (case mt_zt=>k_is)
  (case mt_zat=>k_is)
  (case mt_zw=>k_is)
  (case mt_zo=>k_is)
  (case mt_zab=>k_is)
  (case mt_zk=>k_is)
  (case mt_zm=>k_is)
  (case mt_zar=>k_is)
  (case mt_zae=>k_is)
  (case mt_zah=>k_is)
  (case mt_zd=>k_is)
  (case mt_zaf=>k_is)
  (case mt_zu=>k_is)
  (case q_zav=>refine' L2.top_mk ?a ?l ?c ?k;(case a=>k_is);(case l=>k_is);(case c=>k_is);(case k=>k_is))
  (case q_zz=>refine' L2.top_mk ?a ?l ?c ?k;(case a=>k_is);(case l=>k_is);(case c=>k_is);(case k=>k_is))
  (case q_zbb=>refine' L2.top_mk ?a ?l ?c ?k;(case a=>k_is);(case l=>k_is);(case c=>k_is);(case k=>k_is))
  (case q_zao=>refine' L2.top_mk ?a ?l ?c ?k;(case a=>k_is);(case l=>k_is);(case c=>k_is);(case k=>k_is))
  (case q_zq=>refine' L2.top_mk ?a ?l ?c ?k;(case a=>k_is);(case l=>k_is);(case c=>k_is);(case k=>k_is))
  (case q_zba=>refine' L2.top_mk ?a ?l ?c ?k;(case a=>k_is);(case l=>k_is);(case c=>k_is);(case k=>k_is))
  (case q_zax=>refine' L2.top_mk ?a ?l ?c ?k;(case a=>k_is);(case l=>k_is);(case c=>k_is);(case k=>k_is))
  (case q_zap=>refine' L2.top_mk ?a ?l ?c ?k;(case a=>k_is);(case l=>k_is);(case c=>k_is);(case k=>k_is))
  (case q_zy=>refine' L2.top_mk ?a ?l ?c ?k;(case a=>k_is);(case l=>k_is);(case c=>k_is);(case k=>k_is))
  (case q_zan=>refine' L2.top_mk ?a ?l ?c ?k;(case a=>k_is);(case l=>k_is);(case c=>k_is);(case k=>k_is))
  (case q_zi=>refine' L2.top_mk ?a ?l ?c ?k;(case a=>k_is);(case l=>k_is);(case c=>k_is);(case k=>k_is))
  (case q_zr=>refine' L2.top_mk ?a ?l ?c ?k;(case a=>k_is);(case l=>k_is);(case c=>k_is);(case k=>k_is))
  (case q_zs=>refine' L2.top_mk ?a ?l ?c ?k;(case a=>k_is);(case l=>k_is);(case c=>k_is);(case k=>k_is))
  (case q_zh=>refine' L2.top_mk ?a ?l ?c ?k;(case a=>k_is);(case l=>k_is);(case c=>k_is);(case k=>k_is))
  (case q_zaw=>refine' L2.top_mk ?a ?l ?c ?k;(case a=>k_is);(case l=>k_is);(case c=>k_is);(case k=>k_is))
  (case q_zay=>refine' L2.top_mk ?a ?l ?c ?k;(case a=>k_is);(case l=>k_is);(case c=>k_is);(case k=>k_is))
  (case q_zat=>refine' L2.met_mk ?l ?c ?k ?i;(case l=>k_is);(case c=>k_is);(case k=>k_is);(case i=>k_is))
  (case q_zw=>refine' L2.met_mk ?l ?c ?k ?i;(case l=>k_is);(case c=>k_is);(case k=>k_is);(case i=>k_is))
  (case q_zo=>refine' L2.met_mk ?l ?c ?k ?i;(case l=>k_is);(case c=>k_is);(case k=>k_is);(case i=>k_is))
  (case q_zab=>refine' L2.met_mk ?l ?c ?k ?i;(case l=>k_is);(case c=>k_is);(case k=>k_is);(case i=>k_is))
  (case q_zk=>refine' L2.met_mk ?l ?c ?k ?i;(case l=>k_is);(case c=>k_is);(case k=>k_is);(case i=>k_is))
  (case q_zm=>refine' L2.met_mk ?l ?c ?k ?i;(case l=>k_is);(case c=>k_is);(case k=>k_is);(case i=>k_is))
  (case q_zar=>refine' L2.met_mk ?l ?c ?k ?i;(case l=>k_is);(case c=>k_is);(case k=>k_is);(case i=>k_is))
  (case q_zae=>refine' L2.met_mk ?l ?c ?k ?i;(case l=>k_is);(case c=>k_is);(case k=>k_is);(case i=>k_is))
  (case q_zah=>refine' L2.met_mk ?l ?c ?k ?i;(case l=>k_is);(case c=>k_is);(case k=>k_is);(case i=>k_is))
  (case q_zx=>refine' L2.top_mk ?a ?l ?c ?k;(case a=>k_is);(case l=>k_is);(case c=>k_is);(case k=>k_is))
  (case q_zal=>refine' L2.top_mk ?a ?l ?c ?k;(case a=>k_is);(case l=>k_is);(case c=>k_is);(case k=>k_is))
  (case q_zak=>refine' L2.top_mk ?a ?l ?c ?k;(case a=>k_is);(case l=>k_is);(case c=>k_is);(case k=>k_is))
  (case q_ze=>refine' L2.top_mk ?a ?l ?c ?k;(case a=>k_is);(case l=>k_is);(case c=>k_is);(case k=>k_is))
  (case q_zbg=>refine' L2.top_mk ?a ?l ?c ?k;(case a=>k_is);(case l=>k_is);(case c=>k_is);(case k=>k_is))
  (case q_zau=>refine' L2.top_mk ?a ?l ?c ?k;(case a=>k_is);(case l=>k_is);(case c=>k_is);(case k=>k_is))
  (case q_zbh=>refine' L2.top_mk ?a ?l ?c ?k;(case a=>k_is);(case l=>k_is);(case c=>k_is);(case k=>k_is))
  (case q_zf=>refine' L2.top_mk ?a ?l ?c ?k;(case a=>k_is);(case l=>k_is);(case c=>k_is);(case k=>k_is))
  (case q_zbi=>refine' L2.top_mk ?a ?l ?c ?k;(case a=>k_is);(case l=>k_is);(case c=>k_is);(case k=>k_is))
  (case q_zac=>refine' L2.met_mk ?l ?c ?k ?i;(case l=>k_is);(case c=>k_is);(case k=>k_is);(case i=>k_is))
  (case q_zp=>refine' L2.top_mk ?a ?l ?c ?k;(case a=>k_is);(case l=>k_is);(case c=>k_is);(case k=>k_is))
  (case q_zbn=>refine' L2.top_mk ?a ?l ?c ?k;(case a=>k_is);(case l=>k_is);(case c=>k_is);(case k=>k_is))
  (case q_zt=>refine' L2.met_mk ?l ?c ?k ?i;(case l=>k_is);(case c=>k_is);(case k=>k_is);(case i=>k_is))
  (case q_zd=>refine' L2.met_mk ?l ?c ?k ?i;(case l=>k_is);(case c=>k_is);(case k=>k_is);(case i=>k_is))
  (case q_zaf=>refine' L2.met_mk ?l ?c ?k ?i;(case l=>k_is);(case c=>k_is);(case k=>k_is);(case i=>k_is))
  (case q_zu=>refine' L2.met_mk ?l ?c ?k ?i;(case l=>k_is);(case c=>k_is);(case k=>k_is);(case i=>k_is))
  (case q_zg=>refine' L2.top_mk ?a ?l ?c ?k;(case a=>k_is);(case l=>k_is);(case c=>k_is);(case k=>k_is))
  (case q_zbm=>refine' L2.top_mk ?a ?l ?c ?k;(case a=>k_is);(case l=>k_is);(case c=>k_is);(case k=>k_is))
  (case q_zam=>refine' L2.top_mk ?a ?l ?c ?k;(case a=>k_is);(case l=>k_is);(case c=>k_is);(case k=>k_is))
  (case q_zas=>refine' L2.met_mk ?l ?c ?k ?i;(case l=>k_is);(case c=>k_is);(case k=>k_is);(case i=>k_is))
  (case q_zbo=>refine' L2.top_mk ?a ?l ?c ?k;(case a=>k_is);(case l=>k_is);(case c=>k_is);(case k=>k_is))
  (case q_zb=>refine' L2.met_mk ?l ?c ?k ?i;(case l=>k_is);(case c=>k_is);(case k=>k_is);(case i=>k_is))
  (case q_zc=>refine' L2.met_mk ?l ?c ?k ?i;(case l=>k_is);(case c=>k_is);(case k=>k_is);(case i=>k_is))
  (case q_zv=>refine' L2.met_mk ?l ?c ?k ?i;(case l=>k_is);(case c=>k_is);(case k=>k_is);(case i=>k_is))
  (case q_zbd=>refine' L2.top_mk ?a ?l ?c ?k;(case a=>k_is);(case l=>k_is);(case c=>k_is);(case k=>k_is))
  (case q_zn=>refine' L2.met_mk ?l ?c ?k ?i;(case l=>k_is);(case c=>k_is);(case k=>k_is);(case i=>k_is))
  (case q_zaq=>refine' L2.top_mk ?a ?l ?c ?k;(case a=>k_is);(case l=>k_is);(case c=>k_is);(case k=>k_is))
  (case q_za=>refine' L2.met_mk ?l ?c ?k ?i;(case l=>k_is);(case c=>k_is);(case k=>k_is);(case i=>k_is))
  (case q_zaa=>refine' L2.met_mk ?l ?c ?k ?i;(case l=>k_is);(case c=>k_is);(case k=>k_is);(case i=>k_is))
  (case q_zbe=>refine' L2.top_mk ?a ?l ?c ?k;(case a=>k_is);(case l=>k_is);(case c=>k_is);(case k=>k_is))
  (case q_zj=>refine' L2.met_mk ?l ?c ?k ?i;(case l=>k_is);(case c=>k_is);(case k=>k_is);(case i=>k_is))
  (case q_zai=>refine' L2.top_mk ?a ?l ?c ?k;(case a=>k_is);(case l=>k_is);(case c=>k_is);(case k=>k_is))
  (case q_zl=>refine' L2.met_mk ?l ?c ?k ?i;(case l=>k_is);(case c=>k_is);(case k=>k_is);(case i=>k_is))
  (case q_zaj=>refine' L2.top_mk ?a ?l ?c ?k;(case a=>k_is);(case l=>k_is);(case c=>k_is);(case k=>k_is))
  (case q_zbl=>refine' L2.top_mk ?a ?l ?c ?k;(case a=>k_is);(case l=>k_is);(case c=>k_is);(case k=>k_is))
  (case q_zad=>refine' L2.met_mk ?l ?c ?k ?i;(case l=>k_is);(case c=>k_is);(case k=>k_is);(case i=>k_is))
  (case q_zbj=>refine' L2.top_mk ?a ?l ?c ?k;(case a=>k_is);(case l=>k_is);(case c=>k_is);(case k=>k_is))
  (case q_zag=>refine' L2.met_mk ?l ?c ?k ?i;(case l=>k_is);(case c=>k_is);(case k=>k_is);(case i=>k_is))
  (case q_zbk=>refine' L2.top_mk ?a ?l ?c ?k;(case a=>k_is);(case l=>k_is);(case c=>k_is);(case k=>k_is))
  (case q_zbf=>refine' L2.top_mk ?a ?l ?c ?k;(case a=>k_is);(case l=>k_is);(case c=>k_is);(case k=>k_is))
  (case q_zaz=>refine' L2.top_mk ?a ?l ?c ?k;(case a=>k_is);(case l=>k_is);(case c=>k_is);(case k=>k_is))
  (case q_zbc=>refine' L2.top_mk ?a ?l ?c ?k;(case a=>k_is);(case l=>k_is);(case c=>k_is);(case k=>k_is))
  (case a_zbp=>k_is)
  (case l_zbp=>k_is)
  (case c_zbp=>k_is)
  (case k_zbp=>k_is)
  (case x_zbv=>(refine' L2.xc_mk ?l ?y ?s ?g ?t ?c ?n ?k;(case l=>k_is);(case y=>k_is);(case s=>k_is);(case g=>k_is);(case t=>k_is);(case c=>k_is);(case n=>k_is);(case k=>k_is)))
  (case x_zbx=>(refine' L2.xc_mk ?l ?y ?s ?g ?t ?c ?n ?k;(case l=>k_is);(case y=>k_is);(case s=>k_is);(case g=>k_is);(case t=>k_is);(case c=>k_is);(case n=>k_is);(case k=>k_is)))
  (case x_zby=>(refine' L2.xc_mk ?l ?y ?s ?g ?t ?c ?n ?k;(case l=>k_is);(case y=>k_is);(case s=>k_is);(case g=>k_is);(case t=>k_is);(case c=>k_is);(case n=>k_is);(case k=>k_is)))
  (case x_zbu=>(refine' L2.xc_mk ?l ?y ?s ?g ?t ?c ?n ?k;(case l=>k_is);(case y=>k_is);(case s=>k_is);(case g=>k_is);(case t=>k_is);(case c=>k_is);(case n=>k_is);(case k=>k_is)))
  (case v_zbq=>k_is)
  (case r_zbq=>exact⟨_,rfl⟩)
  (case v_zbr=>k_is)
  (case r_zbr=>exact⟨_,rfl⟩)
  (case v_zbs=>k_is)
  (case r_zbs=>exact⟨_,rfl⟩)
  (case v_zbw=>k_is)
  (case r_zbw=>exact⟨_,rfl⟩)
  (case v_zbt=>k_is)
  (case r_zbt=>exact⟨_,rfl⟩)
  (case v_zcl=>k_is)
  (case r_zcl=>exact⟨_,rfl⟩)
  (case v_FORMS=>k_is)
  (case ne_FORMS=>rfl)
  (case ld_FORMS=>k_is)
  (case de_FORMS=>exact .cons rfl rfl (.cons rfl rfl (.cons rfl rfl (.cons rfl rfl (.cons rfl rfl (.cons rfl rfl (.cons rfl rfl (.cons rfl rfl (.cons rfl rfl (.nil))))))))))
  (case z_ValueError=>k_is)
  (case z_all=>k_is)
  (case z_bool=>k_is)
  (case z_int=>k_is)
  (case z_isinstance=>k_is)
  (case z_len=>k_is)
  (case z_list=>k_is)
  (case z_max=>k_is)
  (case z_min=>k_is)
  (case z_ord=>k_is)
  (case z_range=>k_is)
  (case z_str=>k_is)
  (case z_tuple=>k_is)
  (case na_Put_part=>k_is)
  (case na_Put_text=>k_is)
  (case na_Put_at=>k_is)
  (case na_Put_size=>k_is)
  (case na_Put_row=>k_is)
  (case na_Put_column=>k_is)
  (case na_Put_cells=>k_is)
  (case na_Put_name=>k_is)
  (case na_Put_kind=>k_is)
  (case na_Put_parent=>k_is)
  (case na_Put_rank=>k_is)
  (case na_Put_content=>k_is)
  (case na_Write_part=>k_is)
  (case na_Write_text=>k_is)
  (case na_Write_at=>k_is)
  (case na_Write_size=>k_is)
  (case na_Write_row=>k_is)
  (case na_Write_column=>k_is)
  (case na_Write_cells=>k_is)
  (case na_Write_name=>k_is)
  (case na_Write_kind=>k_is)
  (case na_Write_parent=>k_is)
  (case na_Write_rank=>k_is)
  (case na_Write_content=>k_is)
  (case na_Splice_part=>k_is)
  (case na_Splice_text=>k_is)
  (case na_Splice_at=>k_is)
  (case na_Splice_size=>k_is)
  (case na_Splice_row=>k_is)
  (case na_Splice_column=>k_is)
  (case na_Splice_cells=>k_is)
  (case na_Splice_name=>k_is)
  (case na_Splice_kind=>k_is)
  (case na_Splice_parent=>k_is)
  (case na_Splice_rank=>k_is)
  (case na_Splice_content=>k_is)
  (case na_Cell_part=>k_is)
  (case na_Cell_text=>k_is)
  (case na_Cell_at=>k_is)
  (case na_Cell_size=>k_is)
  (case na_Cell_row=>k_is)
  (case na_Cell_column=>k_is)
  (case na_Cell_cells=>k_is)
  (case na_Cell_name=>k_is)
  (case na_Cell_kind=>k_is)
  (case na_Cell_parent=>k_is)
  (case na_Cell_rank=>k_is)
  (case na_Cell_content=>k_is)
  (case na_AddRow_part=>k_is)
  (case na_AddRow_text=>k_is)
  (case na_AddRow_at=>k_is)
  (case na_AddRow_size=>k_is)
  (case na_AddRow_row=>k_is)
  (case na_AddRow_column=>k_is)
  (case na_AddRow_cells=>k_is)
  (case na_AddRow_name=>k_is)
  (case na_AddRow_kind=>k_is)
  (case na_AddRow_parent=>k_is)
  (case na_AddRow_rank=>k_is)
  (case na_AddRow_content=>k_is)
  (case na_CutRow_part=>k_is)
  (case na_CutRow_text=>k_is)
  (case na_CutRow_at=>k_is)
  (case na_CutRow_size=>k_is)
  (case na_CutRow_row=>k_is)
  (case na_CutRow_column=>k_is)
  (case na_CutRow_cells=>k_is)
  (case na_CutRow_name=>k_is)
  (case na_CutRow_kind=>k_is)
  (case na_CutRow_parent=>k_is)
  (case na_CutRow_rank=>k_is)
  (case na_CutRow_content=>k_is)
  (case na_Cut_part=>k_is)
  (case na_Cut_text=>k_is)
  (case na_Cut_at=>k_is)
  (case na_Cut_size=>k_is)
  (case na_Cut_row=>k_is)
  (case na_Cut_column=>k_is)
  (case na_Cut_cells=>k_is)
  (case na_Cut_name=>k_is)
  (case na_Cut_kind=>k_is)
  (case na_Cut_parent=>k_is)
  (case na_Cut_rank=>k_is)
  (case na_Cut_content=>k_is)
  (case na_Move_part=>k_is)
  (case na_Move_text=>k_is)
  (case na_Move_at=>k_is)
  (case na_Move_size=>k_is)
  (case na_Move_row=>k_is)
  (case na_Move_column=>k_is)
  (case na_Move_cells=>k_is)
  (case na_Move_name=>k_is)
  (case na_Move_kind=>k_is)
  (case na_Move_parent=>k_is)
  (case na_Move_rank=>k_is)
  (case na_Move_content=>k_is)
  (case na_Wrap_part=>k_is)
  (case na_Wrap_text=>k_is)
  (case na_Wrap_at=>k_is)
  (case na_Wrap_size=>k_is)
  (case na_Wrap_row=>k_is)
  (case na_Wrap_column=>k_is)
  (case na_Wrap_cells=>k_is)
  (case na_Wrap_name=>k_is)
  (case na_Wrap_kind=>k_is)
  (case na_Wrap_parent=>k_is)
  (case na_Wrap_rank=>k_is)
  (case na_Wrap_content=>k_is)
  (case mb=>k_is)
  (case nd=>decide)
  (case lq_put=>k_is)
  (case lq_write=>k_is)
  (case lq_splice=>k_is)
  (case lq_cell=>k_is)
  (case lq_addrow=>k_is)
  (case lq_cutrow=>k_is)
  (case lq_cut=>k_is)
  (case lq_move=>k_is)
  (case lq_wrap=>k_is)
#print axioms PySem.Challenge.cw_manyleaf_k28_no_edit_holds
