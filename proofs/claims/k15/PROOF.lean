import PyProof.Rows.All
import Wide.All
import OpenK.AllK
import Wide.FinOn
import PyProof.ToksMono
import Lean
import PyProof.EqAt
import PyProof.EqKinds
import PyProof.TupleCall
import PyProof.NeKinds
import PyProof.ZipIter
import PyProof.StrWalks
import PyProof.ConsumeWalk
import PyProof.ExcArgs
import PyProof.ExcBaseAll.ValueError
import KE.KIsAll
import PyProof.EnumFor
import PyProof.EnumMake
import PyProof.EnumStmt
import PyProof.Rows.EnumRows
import PyProof.DictWalks
import PyProof.Rows.SetFrom
import PyProof.DictItems
import KE.KDictList
import PyProof.TupleIter
import PyProof.RulesRaise
import PyProof.RulesTry
import PyProof.MeetsIn
import KE.KEqDict
import PyProof.StrOps2
import PyProof.StrCalls6
import PyProof.ListMulRoad
import PyProof.FactsAll.tuple
import KE.KDictOf
import KE.KSortTup
import KE.KSortKey
import PyProof.Rows.Range3
import PyProof.Rows.ChunkLeaf
import KE.KRevIter
import PyProof.StationsW
import PyProof.PassesOwn
import PySem.Challenge.RW_manyleaf_k15_whole_boxes
set_option Elab.async false
set_option linter.all false
set_option maxRecDepth 100000
section
open PySem PySem.W PyProof.Rows
set_option maxRecDepth 100000
set_option maxHeartbeats 0
noncomputable def PySem.W.Fast.tw17203019727566567444:Unit:=()
noncomputable def PySem.W.Fast.tw5539912565014139069:Unit:=()
noncomputable def PySem.W.Fast.tw8745888931303706047:Unit:=()
noncomputable def PySem.W.Fast.tw9822167485074012148:Unit:=()
noncomputable def PySem.W.Fast.tw10182237377214691265:Unit:=()
noncomputable def PySem.W.Fast.tw3689449735308260234:Unit:=()
noncomputable def PySem.W.Fast.tw9549234764254144827:Unit:=()
noncomputable def PySem.W.Fast.tw6493187017361776396:Unit:=()
noncomputable def PySem.W.Fast.tw9305333140885291756:Unit:=()
noncomputable def PySem.W.Fast.tw6441240023809312794:Unit:=()
noncomputable def PySem.W.Fast.tw13664370223834897800:Unit:=()
noncomputable def PySem.W.Fast.tw1553435777234219937:Unit:=()
noncomputable def PySem.W.Fast.tw11128900554006603260:Unit:=()
noncomputable def PySem.W.Fast.tw9369436632507884997:Unit:=()
noncomputable def PySem.W.Fast.tw14125379882843618381:Unit:=()
noncomputable def PySem.W.Fast.tw3873873654438143867:Unit:=()
noncomputable def PySem.W.Fast.tw9414761545212320802:Unit:=()
noncomputable def PySem.W.Fast.tw1600036295013296930:Unit:=()
noncomputable def PySem.W.Fast.tw15729339970672974290:Unit:=()
noncomputable def PySem.W.Fast.tw1529234559138361170:Unit:=()
noncomputable def PySem.W.Fast.tw3864473860719337580:Unit:=()
noncomputable def PySem.W.Fast.tw5455087996783330931:Unit:=()
noncomputable def PySem.W.Fast.tw16790237760168926406:Unit:=()
noncomputable def PySem.W.Fast.tw3041260191009688079:Unit:=()
noncomputable def PySem.W.Fast.tw12271022885475746077:Unit:=()
noncomputable def PySem.W.Fast.tw16934153578757765883:Unit:=()
noncomputable def PySem.W.Fast.tw15147147942861836650:Unit:=()
noncomputable def PySem.W.Fast.tw15658542920547592305:Unit:=()
noncomputable def PySem.W.Fast.tw4269911623451637283:Unit:=()
noncomputable def PySem.W.Fast.tw3290921485000916095:Unit:=()
noncomputable def PySem.W.Fast.tw17222636672661603245:Unit:=()
noncomputable def PySem.W.Fast.tw11965546460344734047:Unit:=()
noncomputable def PySem.W.Fast.tw11483000363613404412:Unit:=()
noncomputable def PySem.W.Fast.tw885679170209921860:Unit:=()
noncomputable def PySem.W.Fast.tw12749575937932184198:Unit:=()
noncomputable def PySem.W.Fast.tw6282236635245593131:Unit:=()
noncomputable def PySem.W.Fast.tw18171265056330346031:Unit:=()
noncomputable def PySem.W.Fast.tw158933334802812986:Unit:=()
noncomputable def PySem.W.Fast.tw12551485387393730994:Unit:=()
noncomputable def PySem.W.Fast.tw15403932785694868518:Unit:=()
noncomputable def PySem.W.Fast.tw4959287338004317672:Unit:=()
noncomputable def PySem.W.Fast.tw16215330260058312424:Unit:=()
noncomputable def PySem.W.Fast.tw2173347468543515194:Unit:=()
noncomputable def PySem.W.Fast.tw3627407067111279575:Unit:=()
noncomputable def PySem.W.Fast.tw12992243792281596593:Unit:=()
noncomputable def PySem.W.Fast.tw3410561000104292268:Unit:=()
noncomputable def PySem.W.Fast.tw3353693793665808901:Unit:=()
noncomputable def PySem.W.Fast.tw9317896270396661362:Unit:=()
noncomputable def PySem.W.Fast.tw7096919767710107273:Unit:=()
noncomputable def PySem.W.Fast.tw14416609228025656158:Unit:=()
noncomputable def PySem.W.Fast.tw11214133248164032483:Unit:=()
noncomputable def PySem.W.Fast.tw12485979047959953990:Unit:=()
noncomputable def PySem.W.Fast.tw14310038088829195249:Unit:=()
noncomputable def PySem.W.Fast.tw5085818558050479192:Unit:=()
noncomputable def PySem.W.Fast.tw6492092755688166515:Unit:=()
noncomputable def PySem.W.Fast.tw10682956309664119217:Unit:=()
noncomputable def PySem.W.Fast.tw10424832431861883431:Unit:=()
noncomputable def PySem.W.Fast.tw9537464856535721241:Unit:=()
noncomputable def PySem.W.Fast.tw16236731727510750766:Unit:=()
noncomputable def PySem.W.Fast.tw15221235759651659138:Unit:=()
noncomputable def PySem.W.Fast.tw16054105403935068737:Unit:=()
noncomputable def PySem.W.Fast.tw16725499592024482340:Unit:=()
noncomputable def PySem.W.Fast.tw1128696180619578202:Unit:=()
noncomputable def PySem.W.Fast.tw10895943021013907655:Unit:=()
noncomputable def PySem.W.Fast.tw13740247774817537813:Unit:=()
noncomputable def PySem.W.Fast.tw2048179142448694568:Unit:=()
noncomputable def PySem.W.Fast.tw2756004436741285276:Unit:=()
noncomputable def PySem.W.Fast.tw13285288995837511003:Unit:=()
noncomputable def PySem.W.Fast.tw495347637239699780:Unit:=()
noncomputable def PySem.W.Fast.tw4648516213087544657:Unit:=()
noncomputable def PySem.W.Fast.tw892376953874859674:Unit:=()
noncomputable def PySem.W.Fast.tw10108156761710280924:Unit:=()
noncomputable def PySem.W.Fast.tw15998503750500709659:Unit:=()
noncomputable def PySem.W.Fast.tw3766737152384186587:Unit:=()
noncomputable def PySem.W.Fast.tw413497173138103771:Unit:=()
noncomputable def PySem.W.Fast.tw12055294832995255084:Unit:=()
noncomputable def PySem.W.Fast.tw18196442325587855319:Unit:=()
noncomputable def PySem.W.Fast.tw16187023173336523444:Unit:=()
noncomputable def PySem.W.Fast.tw4398761781711578630:Unit:=()
noncomputable def PySem.W.Fast.tw13951145727057426490:Unit:=()
noncomputable def PySem.W.Fast.tw18007813715264910571:Unit:=()
noncomputable def PySem.W.Fast.tw11529611243477015863:Unit:=()
noncomputable def PySem.W.Fast.tw2843723222239111362:Unit:=()
noncomputable def PySem.W.Fast.tw14837021923265846834:Unit:=()
noncomputable def PySem.W.Fast.tw7284900065706319470:Unit:=()
noncomputable def PySem.W.Fast.tw17160075591477267588:Unit:=()
noncomputable def PySem.W.Fast.tw12923038901427140513:Unit:=()
noncomputable def PySem.W.Fast.tw2542611316120198922:Unit:=()
noncomputable def PySem.W.Fast.tw5303194691661994387:Unit:=()
noncomputable def PySem.W.Fast.tw978814601081407100:Unit:=()
noncomputable def PySem.W.Fast.tw6745491771003082774:Unit:=()
noncomputable def PySem.W.Fast.tw5642100977759351157:Unit:=()
noncomputable def PySem.W.Fast.tw12194179955628663154:Unit:=()
noncomputable def PySem.W.Fast.tw6747117819691764511:Unit:=()
noncomputable def PySem.W.Fast.tw2690978217603757702:Unit:=()
noncomputable def PySem.W.Fast.tw3064225582849066650:Unit:=()
noncomputable def PySem.W.Fast.tw10001681505046144911:Unit:=()
noncomputable def PySem.W.Fast.tw10033095847228346980:Unit:=()
noncomputable def PySem.W.Fast.tw10833887870839074938:Unit:=()
noncomputable def PySem.W.Fast.tw10989119414737187525:Unit:=()
noncomputable def PySem.W.Fast.tw11209644214607238591:Unit:=()
noncomputable def PySem.W.Fast.tw11569106273613802955:Unit:=()
noncomputable def PySem.W.Fast.tw11608154129120262218:Unit:=()
noncomputable def PySem.W.Fast.tw11659983569679844852:Unit:=()
noncomputable def PySem.W.Fast.tw11932470104924131017:Unit:=()
noncomputable def PySem.W.Fast.tw11995172076991483682:Unit:=()
noncomputable def PySem.W.Fast.tw12006035655370892104:Unit:=()
noncomputable def PySem.W.Fast.tw12006299257640110017:Unit:=()
noncomputable def PySem.W.Fast.tw12028270938233789805:Unit:=()
noncomputable def PySem.W.Fast.tw12035241872107921456:Unit:=()
noncomputable def PySem.W.Fast.tw12131274281729351732:Unit:=()
noncomputable def PySem.W.Fast.tw12418305371623269035:Unit:=()
noncomputable def PySem.W.Fast.tw12835577121664955850:Unit:=()
noncomputable def PySem.W.Fast.tw12986443046463839458:Unit:=()
noncomputable def PySem.W.Fast.tw13213620745775442482:Unit:=()
noncomputable def PySem.W.Fast.tw13381185710160755111:Unit:=()
noncomputable def PySem.W.Fast.tw1343464200355652023:Unit:=()
noncomputable def PySem.W.Fast.tw13481193865210111271:Unit:=()
noncomputable def PySem.W.Fast.tw13912477096820676048:Unit:=()
noncomputable def PySem.W.Fast.tw14144489031959180831:Unit:=()
noncomputable def PySem.W.Fast.tw14639055007267231205:Unit:=()
noncomputable def PySem.W.Fast.tw14670814372558673266:Unit:=()
noncomputable def PySem.W.Fast.tw14925581970759553645:Unit:=()
noncomputable def PySem.W.Fast.tw15063789130283027586:Unit:=()
noncomputable def PySem.W.Fast.tw15261865913513346566:Unit:=()
noncomputable def PySem.W.Fast.tw1535832458937600263:Unit:=()
noncomputable def PySem.W.Fast.tw153606931553717154:Unit:=()
noncomputable def PySem.W.Fast.tw15527115317837544503:Unit:=()
noncomputable def PySem.W.Fast.tw15626150066681570564:Unit:=()
noncomputable def PySem.W.Fast.tw15851437625987522617:Unit:=()
noncomputable def PySem.W.Fast.tw16037598065160431854:Unit:=()
noncomputable def PySem.W.Fast.tw16135360131864800331:Unit:=()
noncomputable def PySem.W.Fast.tw16361929315710886265:Unit:=()
noncomputable def PySem.W.Fast.tw16564466029129653337:Unit:=()
noncomputable def PySem.W.Fast.tw16662621209662450745:Unit:=()
noncomputable def PySem.W.Fast.tw16809867887759915415:Unit:=()
noncomputable def PySem.W.Fast.tw17102187296431780213:Unit:=()
noncomputable def PySem.W.Fast.tw17989671168587213084:Unit:=()
noncomputable def PySem.W.Fast.tw18092960524784457656:Unit:=()
noncomputable def PySem.W.Fast.tw1831690138427169749:Unit:=()
noncomputable def PySem.W.Fast.tw18349564279960289083:Unit:=()
noncomputable def PySem.W.Fast.tw2409330924949750472:Unit:=()
noncomputable def PySem.W.Fast.tw2410714468645417898:Unit:=()
noncomputable def PySem.W.Fast.tw2590234337457358374:Unit:=()
noncomputable def PySem.W.Fast.tw2625154440367195067:Unit:=()
noncomputable def PySem.W.Fast.tw2874656619683981763:Unit:=()
noncomputable def PySem.W.Fast.tw3142103220244128597:Unit:=()
noncomputable def PySem.W.Fast.tw3217624880209442058:Unit:=()
noncomputable def PySem.W.Fast.tw340100585350921616:Unit:=()
noncomputable def PySem.W.Fast.tw3433337750505246959:Unit:=()
noncomputable def PySem.W.Fast.tw3445175049070843645:Unit:=()
noncomputable def PySem.W.Fast.tw3566871315606351466:Unit:=()
noncomputable def PySem.W.Fast.tw3686123188382935105:Unit:=()
noncomputable def PySem.W.Fast.tw3771285938598821719:Unit:=()
noncomputable def PySem.W.Fast.tw3803071605726993414:Unit:=()
noncomputable def PySem.W.Fast.tw3890701420271258374:Unit:=()
noncomputable def PySem.W.Fast.tw4093357151186666047:Unit:=()
noncomputable def PySem.W.Fast.tw4620302533375890689:Unit:=()
noncomputable def PySem.W.Fast.tw4711291583088413872:Unit:=()
noncomputable def PySem.W.Fast.tw4799690824907318506:Unit:=()
noncomputable def PySem.W.Fast.tw5031822363071000347:Unit:=()
noncomputable def PySem.W.Fast.tw50702787802063501:Unit:=()
noncomputable def PySem.W.Fast.tw5290708293211616327:Unit:=()
noncomputable def PySem.W.Fast.tw5344391599101699921:Unit:=()
noncomputable def PySem.W.Fast.tw5504561638755470110:Unit:=()
noncomputable def PySem.W.Fast.tw5753915832172238771:Unit:=()
noncomputable def PySem.W.Fast.tw5764894591071019395:Unit:=()
noncomputable def PySem.W.Fast.tw584290974695005338:Unit:=()
noncomputable def PySem.W.Fast.tw596674489737149809:Unit:=()
noncomputable def PySem.W.Fast.tw6973450451523524205:Unit:=()
noncomputable def PySem.W.Fast.tw7029578469344240830:Unit:=()
noncomputable def PySem.W.Fast.tw7046197548547504340:Unit:=()
noncomputable def PySem.W.Fast.tw743586075964055595:Unit:=()
noncomputable def PySem.W.Fast.tw7696433190929837811:Unit:=()
noncomputable def PySem.W.Fast.tw7804106855267946772:Unit:=()
noncomputable def PySem.W.Fast.tw8037146765871489656:Unit:=()
noncomputable def PySem.W.Fast.tw8119728863184370214:Unit:=()
noncomputable def PySem.W.Fast.tw8211194779880651718:Unit:=()
noncomputable def PySem.W.Fast.tw8296676307956792537:Unit:=()
noncomputable def PySem.W.Fast.tw8302209383941218871:Unit:=()
noncomputable def PySem.W.Fast.tw8418188507261720293:Unit:=()
noncomputable def PySem.W.Fast.tw8631365027455428601:Unit:=()
noncomputable def PySem.W.Fast.tw8662906567371146211:Unit:=()
noncomputable def PySem.W.Fast.tw8837563618596493679:Unit:=()
noncomputable def PySem.W.Fast.tw9244068118855100035:Unit:=()
noncomputable def PySem.W.Fast.tw9292847716400168309:Unit:=()
noncomputable def PySem.W.Fast.tw9436216488467273339:Unit:=()
noncomputable def PySem.W.Fast.tw9509485539632885014:Unit:=()
noncomputable def PySem.W.Fast.tw9788621389346332971:Unit:=()
open_top head_k15 for PySem.Challenge.rw_manyleaf_k15_whole_boxes
end
section
open Array renaming length_toList→dJ,getElem?_setIfInBounds_self_of_lt→dU,getElem?_eq_some_iff→eJ,getElem?_eq_getElem→hU,getElem?_eq_none→iW,getElem?_toList→jg
open Bool renaming false_ne_true→am,and_eq_true→aA,eq_iff_iff→bH,true_and→cC,beq_eq_decide_eq→cQ,false_eq_true→cU,and_false→c_,or_eq_true→dW,not_eq_true'→ez,and_true→gA,false_and→hV,or_false→iA,false_or→ka
open Decidable renaming byContradiction→cN
open False renaming elim→cL
open ForInStep renaming yield→d7
open Int renaming toNat_natCast→aG,emod_lt_of_pos→bK,emod_nonneg→bP,one_mul→fU,fdiv_eq_ediv_of_nonneg→gZ
open LawfulBEq renaming eq_of_beq→cJ
open List renaming length_map→ac,mem_of_getElem?→af,getElem?_eq_getElem→ah,getElem?_map→ai,map_append→aq,mem_cons_of_mem→ar,getD_eq_getElem?_getD→au,size_toArray→av,range→aw,mem_cons_self→az,length_take→aF,mem_map→aH,length_cons→aI,length_append→aJ,take_length→aL,mem_append→aO,map_cons→aQ,mem_cons→aX,all_eq_true→aY,mem_range→aZ,mem_append_right→ba,map_map→bd,foldl_cons→bg,length_range→bh,mem_singleton→br,all_cons→bt,length→bv,any_eq_true→bA,getElem?_append_right→bB,find?_cons→bD,take_add_one→bG,mem_iff_getElem?→bL,getElem?_eq_some_iff→bN,append_nil→bQ,getElem?_cons_succ→bZ,map_congr_left→b_,getElem_mem→cf,length_drop→cg,mem_flatMap→cj,any_eq_false→cn,mem_filter→cE,nodup_cons→cF,range_succ→cG,getElem_inj→cK,getElem?_append_left→cO,length_filter_le→cR,mem_append_left→c8,getElem?_cons_zero→c9,flatMap_cons→dm,flatMap_append→dq,getElem?_range→dt,getElem_map→du,getElem?_eq_none→dv,length_singleton→dw,mem_iff_getElem→dE,mem_of_mem_take→dF,any_cons→dL,take_of_length_le→dO,foldl_append→eC,nodup_append→eE,getLast?_eq_some_iff→eO,cons_append→eR,not_mem_nil→eU,all_map→e8,all_append→fm,filter_append→fv,getElem_range→fw,map→fz,lookup→fV,map_nil→gc,toArray→gd,flatMap_nil→gn,getLast?_eq_some_getLast→gp,mem_of_mem_drop→gv,filterMap_cons→gL,filter_eq_self→gM,length_pos_iff→gN,findSome?_eq_none_iff→g6,find?_eq_none→g8,mem_of_find?_eq_some→hW,nodup_nil→hX,append_assoc→ie,filter_congr→ig,filter_cons→iM,map_flatMap→iN,drop_of_length_le→iZ,getElem?_set_self→i0,length_eq_one_iff→i3,range_succ_eq_map→i6,flatten→ji,length_nil→jk,length_set→jm,of_mem_zip→jo,getElem?_set_ne→jJ,getElem_toArray→jK,foldl_map→jN,replicate→jO,findSome?_cons→jV,length_flatMap→jW,Pairwise→kg,cons→kh,filter_filter→kj,map_drop→km,mem_filterMap→kq,map_set→kO
open List.cons renaming inj→iD
open Nat renaming le_refl→ak,le_trans→ax,le_of_ble_eq_true→aC,lt_of_le_of_lt→aD,lt_of_lt_of_le→aM,ne_of_lt→aT,le_add_right→aU,testBit_and→bo,zero_le→bR,zero_testBit→b5,pow_le_pow_right→cv,not_lt_zero→cy,zero_add→cB,lt_succ_of_lt→cM,lt_succ_self→cZ,lt_or_ge→dy,le_of_lt→d8,le_succ→d9,ne_of_gt→d_,sub_self→eo,succ_le_succ→eV,lt_irrefl→fA,two_pow_pos→fB,eq_of_testBit_eq→gw,mul_le_mul_right→gx,testBit_xor→gO,le_succ_of_le→ii,add_comm→jp,and_le_left→jq,le_of_eq→jr,min_eq_left→jt,add_le_add_right→jL,testBit_or→jP,and_one_is_mod→kr,add_mul→k9,one_mul→k_,max→lE
open Ne renaming symm→cA
open Option renaming some→aR,toList_some→bW,isSome_iff_exists→e9,map_some→gP,isNone_iff_eq_none→hZ,isSome_map→ij,bind_some→iO,map_eq_none_iff→i7,map_eq_some_iff→i8
open Option.some renaming inj→aE,injEq→il
open Or renaming inl→iP
open PyProof renaming noPylong_small→i_
open PyProof.Rows renaming slot_tuple_getitem→bS,callWith_type1→cH,seqObj→fg,boot_list→fO,callWith_builtin1→gf,tail_of_ItemOn→ib,boot_tuple→iE,bitAnd_pn→i9,subscriptTail_builtinR→jb,AllBare→jf,boot_int→jv,subscriptTail→kG,envOfC→kU,IntsAre→lD,IsTup→lL
open PyProof.Rows.F renaming plain_set_update_loop→fj,entry_set_update_loop→iC
open PySem renaming wpAny_bind→ag,Shared→al,wpAny_pure→ao,Builtin→ay,FuncData→aB,wpAny→aV,Program→aW,mainGlobals→bc,Around→bj,World→bE,wpAny_with_toks→bI,wpAny_holding→bO,Spec→bT,wpAny_loadPart'→bV,wpAny_setField_rec→bX,mem_of_lookup→cb,wpAny_field→ce,wpAny_callSpecial?_slot→cq,wpAny_newObj_type→cr,compareOp→cu,NameKind→cw,wpAny_Call_Name_kw→cx,wpAny_typeNameOfWhole_itemiter→cT,assignEach→cV,starEach→cW,sysModules→cX,sizeLine_eq→c5,wpAny_call_entry→c6,bootBuiltins→dj,wpAny_mono→dn,binaryOp→dA,wpAny_typeNameOf_itemiter→dD,codeAny_builtin→dH,wpAny_truthy_bool→dI,wpAny_isOneOf_itemiter→dP,tupleKind_room_in1→dS,foldedSetIterable→eF,wpAny_pyIter_dict→eG,wpAny_fieldsOf→eQ,plainId_quiet→fH,wpAny_attempt→fJ,wpAny_passesOwn→fK,rawInt→fQ,atKey_none_of_get→fY,codeAny→fZ,sliceBounds→f6,wpAny_dictEntries→f7,wpAny_pyIter_enum→f8,wpAny_setField→f9,Paired→ge,Within→gj,codeAny_mono→gk,wpAny_typeNameOfWhole_keyiter→gu,codeAny_call_builtin→gy,pyNext→gz,wpAny_standAt→gI,letOwnedTupleGo→gT,wpAny_updateSeq→gU,wpAny_letOwnedTupleGo_enum→g7,wpAny_typeOf→g_,firstArgMember→h_,relabel→ia,swapsWith→iw,wpAny_call→ix,wpAny_pyIter_list→iy,wpAny_typeNameOf_keyiter→iz,attributeBase→iI,behindInMarks→iJ,wpAny_Call_method0_late→iL,backTo→iT,noFill_tuple_add→iU,wpAny_isInstance→iV,wpAny_pyIter_rangeiter→jc,wpAny_pyNext_dict_item→jd,wpAny_pyNext_range_end→je,IsEnum→jh,call_meetsIn→jA,tupleKind→jB,valueAt→jC,wpAny_dictEpoch→jD,wpAny_execs_nil→jE,wpAny_ite_split→jF,setField→jH,wpAny_rule→jI,dictSetDefault→jQ,wpAny_newTuple→jR,IsRangeIter→jU,evalArgs_none→jX,getItem→j8,keywordEach→j9,richCompare→j_,GenState→kc,IsPart→ke,PassesOwn→ku,bindArgs→kE,seq_tuple_add→kF,swapsWithSole→kH,wpAny_pyIter_range→kI,call_meets→kJ,callerA→kK,notedBy→kL,Result→kP,assign→kS,concat_meets→kT,seqIndex_neg→kW,atKey→kX,BindsTo→kY,Keyword→k8,bindSpecial→lg,holding→lh,seqIndex_of→ll,storedH_new→lq,updateSeq→lv,wpAny_letGo→lz,wpAny_throw→lA,pyIter→lB,CmpOp→lC,Operator→lF,Walks→lG,backToKw→lH,compEnvC→lI,frameOf→lJ,unaryOp→lK
open PySem.Around renaming under_plainId→c7,under→kM
open PySem.Builtin renaming bitAnd→aS,bitNot→be,bitOr→cD
open PySem.Builtin.Dict_items renaming ownsTuple→dQ,pairFromOwner→fM
open PySem.Builtin.List renaming listExtendWith→dX,listLengthHint→dY,listTooLong→eZ,listSameRef→ic,listItems→iX
open PySem.Builtin.Range renaming rangeSize→ck,small→jS
open PySem.Builtin.Slice renaming slicePlaces→dB,sliceAdjust→eM,sliceApplied→gW
open PySem.Builtin.SmallTypes renaming nextOf→bF,ownedTupleHandOut→eN,ownedTupleIsFree→eY
open PySem.Builtin.Tuple renaming tupleExact→dG,tupleItemsOf→gX
open PySem.Calls renaming spliced_cons→fh,callWith_builtin→fN,spliced_nil→fR,Name_function_global→gY
open PySem.Code renaming isFrame→kN
open PySem.EntryCells renaming newEntry→gJ
open PySem.F renaming slot_dict_itemiterator_next→cY,plainAttrs_list→dN,slot_dict_setdefault→dR,called_set→dZ,slot_enumerate_next→d6,args_tuple_add_2→e_,entry_tuple_add→fE,plainAttrs_dict→fF,slot_tuple_add→fP,args_dict_itemiterator_next_1→fS,entry_dict_itemiterator_next→f_,args_dict_setdefault_3→gh,entry_dict_setdefault→gr,slot_dict_keyiterator_next→gB,plain_extend_loop→gK,args_enumerate_next_1→iB,slot_dict_clear→iF,slot_dict_items→iG,slot_list_index→iH,entry_enumerate_next→iY,entry_extend_loop→jT
open PySem.Heap renaming get?_push_of_some→aj,get?_push_size→aK,lt_size→aN,SameBut→bq,get?_update_other→bJ,get?_update_self→b9,size_push→df,ExtBut→kZ
open PySem.Heap.SameBut renaming update→cz
open PySem.MeetsSeq3 renaming plain_eq_loop→iK
open PySem.NameKind renaming free→dM
open PySem.Obj renaming mapSeq→bY,mapFields→fC,isFreed_of_fields→ju,data_mapDictKeys→jM
open PySem.Paired renaming length→gC
open PySem.Sem renaming wp_bind'→kQ
open PySem.SeqAt renaming EqAt→bi,RcNeAt→fc,RcAt→ir
open PySem.SeqAt.EqAt renaming int_none→jY,none_int→jZ,none_str→j3,str_none→j5,int_int→kz,int_str→kA,str_int→kB
open PySem.Shared renaming TypeIs→kC
open PySem.Str renaming empty→a_,ofString→cS,empty_append→eX
open PySem.StrLaws renaming glued_eq_join→jz
open PySem.Txt renaming join→gF,slice→iu
open PySem.Value renaming ref→bp,none→bz,type→ff,builtin→gG,isStrOf→gH,str→gS,bool→jG,isStrOf_shape→j7,int→kD,isInt→lf
open PySem.W renaming Frag→ae,findIn→aP,keepIn→bu,emptyDict→bw,nsIn→bC,instObj→bM,kia_one→bU,fnOf→b7,makesIn→cI,mg_of→cP,codeIn→dg,isFn→dz,looks_findIn→eK,kitOne→eP,plainGet→eW,hasDictIn→fW,Looks→gE,callWith_K0→gQ,plainGet_of→gR,callWith_K→g9,lookIn→h9,kitx_list→im,methodObj→ip,plainOver→iq,handedIn→iQ,kas_sort→iR,makes_of→iS,cellsFrom_some→ja,KatTups→jw,OpenLaw→jx,takerIn→jy,kitx_tuple→ky
open Sum renaming inr→fX,inl→j6
open True renaming intro→bn
namespace L2
open PySem PySem.Spec PyProof.Rows
noncomputable abbrev Key:=Sum Int Str
noncomputable def Hi:Key->Value->Bool
 | .inl k,v=>lf k v
 | .inr x,v=>gH x v
noncomputable def b00 (w:bE):Key->Int
 | .inl k=>hashInt k
 | .inr x=>hashStr w x
theorem A9:∀ {k:Key} {v:Value},Hi k v=true->(∃ i t,k=j6 i/\v=kD i t)\/(∃ x t,k=fX x/\v=gS x t)
 | .inl i,v,h=>by
  obtain⟨t,e⟩:=Value.isInt_shape (k:=i) (v:=v) h
  exact .inl ⟨i,t,rfl,e⟩
 | .inr x,v,h=>by
  obtain⟨t,e⟩:=j7 (x:=x) (v:=v) h
  exact .inr ⟨x,t,rfl,e⟩
theorem Zg (i:Int) (t:Tok):Hi (.inl i) (.int i t)=true:=by simp [Hi,lf]
theorem Zh (x:Str) (t:Tok):Hi (.inr x) (.str x t)=true:=by simp [Hi,gH]
theorem bf8 (a b:Int):decide ((j6 a:Key)=j6 b)=(a==b):=by
 by_cases e:a=b
 ·subst e;simp
 ·have h:¬ (j6 a:Key)=j6 b:=fun q=>e (Sum.inl.inj q)
  rw [decide_eq_false h]
  exact (beq_eq_false_iff_ne.mpr e).symm
theorem bg1 (a b:Str):decide ((fX a:Key)=fX b)=decide (a=b):=by
 by_cases e:a=b
 ·subst e;simp
 ·have h:¬ (fX a:Key)=fX b:=fun q=>e (Sum.inr.inj q)
  rw [decide_eq_false h,decide_eq_false e]
theorem bf9 (a:Int) (b:Str):decide ((j6 a:Key)=fX b)=false:=decide_eq_false (fun q=>nomatch q)
theorem bg0 (a:Str) (b:Int):decide ((fX a:Key)=j6 b)=false:=decide_eq_false (fun q=>nomatch q)
noncomputable def Av (prog:aW) (w:bE):PySem.KeyKind prog w Key where
 is:=Hi
 hash:=b00 w
 inj:=fun v a b ha hb=>by
  rcases A9 ha with ⟨i,t,rfl,rfl⟩|⟨x,t,rfl,rfl⟩
  ·rcases A9 hb with ⟨j,u,rfl,e⟩|⟨y,u,rfl,e⟩
   ·injection e with e1 _;rw [e1]
   ·exact nomatch e
  ·rcases A9 hb with ⟨j,u,rfl,e⟩|⟨y,u,rfl,e⟩
   ·exact nomatch e
   ·injection e with e1 _;rw [e1]
 byValue:=fun k v h=>by
  rcases A9 h with ⟨i,t,rfl,rfl⟩|⟨x,t,rfl,rfl⟩ <;> rfl
 pyHash:=fun hv h=>by
  rcases A9 hv with ⟨i,t,rfl,rfl⟩|⟨x,t,rfl,rfl⟩
  ·exact wpAny_pyHash_int h
  ·exact wpAny_pyHash_str h
 eqBool:=fun hu hv h=>by
  rcases A9 hu with ⟨i,t,rfl,rfl⟩|⟨x,t,rfl,rfl⟩
  ·rcases A9 hv with ⟨j,u,rfl,rfl⟩|⟨y,u,rfl,rfl⟩
   ·rw [bf8] at h;exact wpAny_eqBool_int h
   ·rw [bf9] at h;exact kA i t y u _ _ _ _ h
  ·rcases A9 hv with ⟨j,u,rfl,rfl⟩|⟨y,u,rfl,rfl⟩
   ·rw [bg0] at h;exact kB x t j u _ _ _ _ h
   ·rw [bg1] at h;exact wpAny_eqBool_str h
 «strs»:=fun k x t v h=>by
  rcases A9 h with ⟨i,u,rfl,e⟩|⟨y,u,rfl,e⟩
  ·exact nomatch e
  ·injection e with e1 _
   subst e1
   cases v <;> rfl
theorem Se (prog:aW) (w:bE) (i:Int) (t:Tok):(Av prog w).is (.inl i) (.int i t)=true:=Zg i t
theorem Sf (prog:aW) (w:bE) (x:Str) (t:Tok):(Av prog w).is (.inr x) (.str x t)=true:=Zh x t
inductive V where
 | non|bl (b:Bool)|int (i:Int)|str (x:Str)|byt (b:Array UInt8)|stk (x:Str) (n:Nat) (ex:Bool)|ref (a:Addr)|ty (n:String)
 deriving DecidableEq
noncomputable def RelV:V->Value->Prop
 | .non,u=>u=bz
 | .bl b,u=>u=jG b
 | .int i,u=>∃ t,u=kD i t
 | .str x,u=>∃ t,u=gS x t
 | .byt b,u=>∃ t,u=Value.bytes b t
 | .stk x n ex,u=>∃ t,u=gS x t/\(if ex=true then t=n else n<=t)
 | .ref a,u=>u=bp a
 | .ty n,u=>u=ff n
noncomputable def V.pl:V->Bool
 | .stk _ _ _=>false
 | _=>true
noncomputable abbrev Vals:List V->List Value->Prop:=ge RelV
theorem Vals.length {xs:List V} {us:List Value} (r:Vals xs us):xs.length=us.length:=gC r
theorem Vals.get:∀ {xs:List V} {us:List Value} {i:Nat} {x:V},Vals xs us->xs[i]? = some x -> ∃ u,us[i]? = some u/\RelV x u
 | _,_,_,_,.nil,e=>by simp at e
 | _,_,0,_,.cons r _,e=>by simp at e;subst e;exact⟨_,rfl,r⟩
 | _,_,i+1,x,.cons _ t,e=>by
  obtain⟨u,h1,h2⟩:=Vals.get (i:=i) (x:=x) t (by simpa using e)
  exact⟨u,by simpa using h1,h2⟩
theorem Vals.set {x:V} {u:Value} (r:RelV x u):∀ {xs:List V} {us:List Value} (i:Nat),Vals xs us->Vals (xs.set i x) (us.set i u)
 | _,_,_,.nil=>.nil
 | _,_,0,.cons _ t=>.cons r t
 | _,_,i+1,.cons q t=>.cons q (Vals.set r i t)
theorem Vals.append:∀ {xs ys:List V} {us ws:List Value},Vals xs us->Vals ys ws->Vals (xs++ys) (us++ws)
 | _,_,_,_,.nil,s=>s
 | _,_,_,_,.cons r t,s=>.cons r (Vals.append t s)
theorem Vals.take:∀ {xs:List V} {us:List Value} (n:Nat),Vals xs us->Vals (xs.take n) (us.take n)
 | _,_,0,_=>.nil
 | _,_,_+1,.nil=>.nil
 | _,_,n+1,.cons r t=>.cons r (Vals.take n t)
theorem Vals.drop:∀ {xs:List V} {us:List Value} (n:Nat),Vals xs us->Vals (xs.drop n) (us.drop n)
 | _,_,0,r=>r
 | _,_,_+1,.nil=>.nil
 | _,_,n+1,.cons _ t=>Vals.drop n t
noncomputable def RelO:Option V->Option Value->Prop
 | some v,some u=>RelV v u
 | none,none=>True
 | _,_=>False
noncomputable def KV {κ:Type}:List (κ×V)->List (κ×Value)->Prop:=ge fun (p:κ×V) (q:κ×Value)=>p.1=q.1/\RelV p.2 q.2
noncomputable def kV:Key->V
 | .inl i=>.int i
 | .inr x=>.str x
inductive HO where
 | lst (xs:List V)
 | tup (xs:List V)
 | dK (kvs:List (Key×V))|dT (kvs:List (List Key×V))
 | set (S:Int->Bool) (n:Nat)
 | ins (C dx:Addr) (fs:List (Str×V))
 | own (x:Addr)
 | xd (fs:List (Str×V))
 | met (f x:Addr)
 | rng (lo hi:Int)
 | frz (o:Obj) (u:HO)
 | tbl (ps:Array Value)
 | ext (φ:Heap->Prop)
noncomputable abbrev Hp:=Addr->Option HO
noncomputable def upd (H:Hp) (a:Addr) (o:HO):Hp:=fun b=>if b=a then some o else H b
theorem Ad {H:Hp} {a:Addr} {o:HO}:upd H a o a=some o:=by unfold upd;rw [if_pos rfl]
theorem Ak {H:Hp} {a b:Addr} {o:HO} (h:b≠a):upd H a o b=H b:=by unfold upd;rw [if_neg h]
theorem a83 {H:Hp} {a b:Addr} {o u:HO} (h:H a=some o) (h':H b=some u) (d:o≠u):a≠b:=by
 intro e;subst e;rw [h] at h';exact d (aE h')
theorem Aj {H:Hp} {a b:Addr} {o:HO} (h:H a=some o) (h':H b=none):a≠b:=by
 intro e;subst e;rw [h] at h';cases h'
section
variable (P:aW) (w:bE)
noncomputable def ObjOk (H:Hp) (h:Heap) (a:Addr):HO->Prop
 | .lst xs=>xs.length<=sizeLine /\ ∃ (its:List Value) (n:Nat),Vals xs its/\h.get? a=some { cls:=.type "list", data:=.seq its.toArray n }
 | .tup xs=>xs.length<=sizeLine /\ ∃ its:List Value,Vals xs its/\lL h a its.toArray
 | .dK kvs=>kvs.length<=sizeLine/\(a==cX)=false /\ ∃ vs,KV kvs vs/\h.DictOf (Av P w) a vs
 | .dT kvs=>kvs.length<=sizeLine/\(a==cX)=false /\ ∃ xs:List (List Key×Addr×Value),
   ge (fun (p:List Key×V) (q:List Key×Addr×Value)=>p.1=q.1/\H q.2.1=some (.tup (p.1.map kV))/\RelV p.2 q.2.2) kvs xs /\
   ∃ o es ep,h.get? a=some o/\o.ExactDict/\o.data=.dict es ep/\es.toList=xs.map (entryOfKey (jB (Av P w)))/\(xs.map (·.1)).Nodup
 | .set S n=>h.SetOf (intKind P w) a S n
 | .ins C dx fs=>H dx=some (.own a)/\fs.length<=1000/\dx≠a/\h.get? a=some (bM C dx) /\
   ∃ mA,h.Ns1 dx mA/\(∀ f,RelO (fs.lookup f) (mA f))/\gj mA (fs.map (·.1))
 | .own _=>∃ o,h.get? a=some o
 | .xd fs=>∃ mA,h.Ns1 a mA /\ ∀ f,RelO (fs.lookup f) (mA f)
 | .rng lo hi=>∃ t u v,h.get? a=some { cls:=.type "range", data:=.fields #[.int lo t,.int hi u,.int 1 v] }
 | .frz o u=>h.get? a=some o/\ObjOk H h a u
 | .tbl ps=>h.get? a=some { cls:=.none,data:=.fields ps }
 | .met f x=>h.get? a=some (ip (.ref f) (.ref x))
 | .ext φ=>φ h/\(∃ o,h.get? a=some o) /\ ∀ h1 h2:Heap,φ h1->(∀ o,h1.get? a=some o->h2.get? a=some o)->φ h2
noncomputable def HOk (H:Hp) (h:Heap):Prop:=∀ a o,H a=some o->ObjOk P w H h a o
end
section
variable {P:aW} {w:bE} {H H':Hp} {h h':Heap} {a:Addr} {o:HO}
theorem ObjOk.lt (x:ObjOk P w H h a o):a<h.objs.size:=by
 cases o with
 | lst xs=>obtain⟨_,_,_,_,e⟩:=x;exact aN e
 | tup xs=>obtain⟨_,_,_,p⟩:=x;exact p.lt
 | dK kvs=>obtain⟨_,_,_,_,o,_,_,e,_⟩:=x;exact aN e
 | dT kvs=>obtain⟨_,_,_,_,o,_,_,e,_⟩:=x;exact aN e
 | set S n=>obtain⟨o,_,_,_,e,_⟩:=x;exact aN e
 | ins C dx fs=>obtain⟨_,_,_,e,_⟩:=x;exact aN e
 | own y=>obtain⟨_,e⟩:=x;exact aN e
 | xd fs=>obtain⟨_,⟨_,_,_,e,_⟩,_⟩:=x;exact aN e
 | rng lo hi=>obtain⟨_,_,_,e⟩:=x;exact aN e
 | frz ob u=>obtain⟨e,_⟩:=x;exact aN e
 | tbl ps=>exact aN (show h.get? a=some _ from x)
 | met f y=>exact aN (show h.get? a=some _ from x)
 | ext φ=>obtain⟨_,⟨_,e⟩,_⟩:=x;exact aN e
theorem Paired.mapP {α β:Type} {F G:α->β->Prop}:∀ {l₁:List α} {l₂:List β},ge F l₁ l₂->(∀ a b,F a b->G a b)->ge G l₁ l₂
 | _,_,.nil,_=>.nil
 | _,_,.cons r t,f=>.cons (f _ _ r) (Paired.mapP t f)
theorem ObjOk.stay (x:ObjOk P w H h a o) (k:∀ b u,(b=a\/H b=some (.own a))->h.get? b=some u->h'.get? b=some u)
  (ho:∀ b,H b=some (.own a)->H' b=some (.own a)) (ht:∀ b xs,H b=some (.tup xs)->H' b=some (.tup xs)):ObjOk P w H' h' a o:=by
 induction o with
 | lst xs=>obtain⟨z,its,n,r,e⟩:=x;exact⟨z,its,n,r,k _ _ (.inl rfl) e⟩
 | tup xs=>obtain⟨z,its,r,ob,e,c⟩:=x;exact⟨z,its,r,ob,k _ _ (.inl rfl) e,c⟩
 | dK kvs=>obtain⟨z,y,vs,r,ob,es,ep,e,c⟩:=x;exact⟨z,y,vs,r,ob,es,ep,k _ _ (.inl rfl) e,c⟩
 | dT kvs=>
  obtain⟨z,y,xs,r,ob,es,ep,e,c⟩:=x
  exact⟨z,y,xs,Paired.mapP r fun p q z=>⟨z.1,ht _ _ z.2.1,z.2.2⟩,ob,es,ep,k _ _ (.inl rfl) e,c⟩
 | set S n=>obtain⟨ob,es,ep,t,e,c⟩:=x;exact⟨ob,es,ep,t,k _ _ (.inl rfl) e,c⟩
 | ins C dx fs=>
  obtain⟨d,z,ne,e,mA,⟨od,es,ep,e2,c⟩,r⟩:=x
  exact⟨ho _ d,z,ne,k _ _ (.inl rfl) e,mA,⟨od,es,ep,k _ _ (.inr d) e2,c⟩,r⟩
 | own y=>obtain⟨ob,e⟩:=x;exact⟨ob,k _ _ (.inl rfl) e⟩
 | xd fs=>obtain⟨mA,⟨od,es,ep,e,c⟩,r⟩:=x;exact⟨mA,⟨od,es,ep,k _ _ (.inl rfl) e,c⟩,r⟩
 | rng lo hi=>obtain⟨t,u,v,e⟩:=x;exact⟨t,u,v,k _ _ (.inl rfl) e⟩
 | frz ob u ih=>obtain⟨e,q⟩:=x;exact⟨k _ _ (.inl rfl) e,ih q⟩
 | tbl ps=>
  have e:h.get? a=some { cls:=.none,data:=.fields ps }:=x
  show h'.get? a=some { cls:=.none,data:=.fields ps }
  exact k a _ (.inl rfl) e
 | met f y=>
  have e:h.get? a=some (ip (.ref f) (.ref y)):=x
  show h'.get? a=some (ip (.ref f) (.ref y))
  exact k a _ (.inl rfl) e
 | ext φ=>obtain⟨p,⟨o,e⟩,st⟩:=x;exact⟨st _ _ p fun o q=>k _ _ (.inl rfl) q,⟨o,k _ _ (.inl rfl) e⟩,st⟩
theorem HOk.lt (x:HOk P w H h) (e:H a=some o):a<h.objs.size:=(x a o e).lt
theorem HOk.fresh (x:HOk P w H h) (e:h.objs.size<=a):H a=none:=by
 cases q:H a with
 | none=>rfl
 | some u=>exact absurd (aM (x.lt q) e) (fA _)
theorem HOk.kept (x:HOk P w H h) (k:∀ b u,h.get? b=some u->h'.get? b=some u):HOk P w H h':=fun a o e=>
 (x a o e).stay (fun b u _ q=>k b u q) (fun _ q=>q) fun _ _ q=>q
theorem HOk.laid (x:HOk P w H h) (k:∀ b u,h.get? b=some u->h'.get? b=some u) (hp:h.objs.size<=a) (new:ObjOk P w (upd H a o) h' a o):HOk P w (upd H a o) h':=fun b u e=>by
 have hn:=x.fresh hp
 by_cases hb:b=a
 ·subst hb;rw [Ad] at e;cases e;exact new
 ·rw [Ak hb] at e
  exact (x b u e).stay (fun c v _ q=>k c v q) (fun c q=>by rw [Ak (Aj q hn)];exact q) fun c xs q=>by rw [Ak (Aj q hn)];exact q
end
noncomputable def Rd (H:Hp) (a:Addr) (u:HO):Prop:=H a=some u \/ ∃ o,H a=some (.frz o u)
theorem Rd.ok {P:aW} {w:bE} {H:Hp} {h:Heap} {a:Addr} {u:HO} (r:Rd H a u) (x:HOk P w H h):ObjOk P w H h a u:=by
 rcases r with r|⟨o,r⟩
 ·exact x a u r
 ·obtain⟨_,q⟩:=x a _ r
  exact q
noncomputable def Mut:Option HO->Prop
 | some (.lst _)=>True
 | some (.dK _)=>True
 | some (.dT _)=>True
 | some (.set _ _)=>True
 | some (.ins _ _ _)=>True
 | some (.ext _)=>True
 | _=>False
section
variable {P:aW} {w:bE} {H:Hp} {h h':Heap} {x e:Addr} {o':HO}
theorem HOk.write (ok:HOk P w H h) (mu:Mut (H x)) (he:e=x\/H e=some (.own x)) (k:∀ b u,b≠e->h.get? b=some u->h'.get? b=some u) (heo:∃ u,h'.get? e=some u)
  (new:ObjOk P w (upd H x o') h' x o'):HOk P w (upd H x o') h':=fun b u q=>by
 have nown:∀ c y,H c=some (.own y)->c≠x:=fun c y r z=>by subst z;rw [r] at mu;exact mu
 have ntup:∀ c xs,H c=some (.tup xs)->c≠x:=fun c xs r z=>by subst z;rw [r] at mu;exact mu
 by_cases hb:b=x
 ·subst hb;rw [Ad] at q;cases q;exact new
 ·rw [Ak hb] at q
  by_cases hbe:b=e
  ·have q':H b=some (.own x):=by
    rcases he with z|z
    ·exact absurd (hbe.trans z) hb
    ·rw [hbe];exact z
   rw [q] at q';cases q'
   obtain⟨v,hv⟩:=heo
   exact⟨v,by rw [hbe];exact hv⟩
  ·refine (ok b u q).stay (fun c v hc r=>k c v ?_ r) (fun c r=>by rw [Ak (nown c b r)];exact r) fun c xs r=>by rw [Ak (ntup c xs r)];exact r
   rcases hc with rfl|hc
   ·exact hbe
   ·rintro rfl
    rcases he with z|z
    ·exact nown c b hc z
    ·rw [hc] at z;cases z;exact hb rfl
end
structure Un (fs ex:List Addr) (H H':Hp) (h h':Heap):Prop where
 keep:∀ b o,h.get? b=some o->H b=none->b∉fs->b∉ex->h'.get? b=some o
 slot:∀ b o,h.get? b=some o->H b=none->b∈fs->b∉ex -> ∃ sl,h'.get? b=some { o with slots:=sl }
 free:∀ b o,h.get? b=some o->H b=none->b∉ex->H' b=none
 there:∀ b o,h.get? b=some o->b∉ex -> ∃ o',h'.get? b=some o'
 tups:∀ b xs,H b=some (.tup xs)->H' b=some (.tup xs)
 frzs:∀ b o u,H b=some (.frz o u)->H' b=some (.frz o u)
 tbls:∀ b ps,H b=some (.tbl ps) -> ∃ more,H' b=some (.tbl (ps++more))
section
variable {fs fs' ex ex':List Addr} {H H1 H2:Hp} {h h1 h2 h':Heap} {a x e:Addr} {o:HO}
theorem Un.any (u:Un fs ex H H1 h h1) {b:Addr} {ob:Obj} (q:h.get? b=some ob) (n:H b=none) (hx:b∉ex):∃ sl,h1.get? b=some { ob with slots:=sl }:=by
 by_cases hb:b∈fs
 ·exact u.slot b ob q n hb hx
 ·exact⟨ob.slots,u.keep b ob q n hb hx⟩
theorem Un.kept (k:∀ b u,h.get? b=some u->h'.get? b=some u):Un fs ex H H h h':=
 ⟨fun b ob q _ _ _=>k b ob q,fun b ob q _ _ _=>⟨ob.slots,k b ob q⟩,fun _ _ _ n _=>n,fun b ob q _=>⟨ob,k b ob q⟩,fun _ _ q=>q,fun _ _ _ q=>q,fun _ ps q=>⟨#[],by rw [q];simp⟩⟩
theorem Un.refl:Un fs ex H H h h:=Un.kept fun _ _ q=>q
theorem Un.laid (k:∀ b u,h.get? b=some u->h'.get? b=some u) (hp:h.objs.size<=a) (hn:H a=none):Un fs ex H (upd H a o) h h' where
 keep:=fun b u q _ _ _=>k b u q
 slot:=fun b u q _ _ _=>⟨u.slots,k b u q⟩
 free:=fun b u q n _=>by rw [Ak (aT (aM (aN q) hp))];exact n
 there:=fun b u q _=>⟨u,k b u q⟩
 tups:=fun b xs q=>by rw [Ak (Aj q hn)];exact q
 frzs:=fun b u xs q=>by rw [Ak (Aj q hn)];exact q
 tbls:=fun b ps q=>⟨#[],by rw [Ak (Aj q hn),q];simp⟩
theorem Un.write (mu:Mut (H x)) (he:e=x\/H e=some (.own x)) (k:∀ b u,b≠e->h.get? b=some u->h'.get? b=some u) (heo:∃ u,h'.get? e=some u):Un fs ex H (upd H x o) h h':=by
 have hx:∀ b,H b=none->b≠x:=fun b n z=>by subst z;rw [n] at mu;exact mu
 have hb:∀ b,H b=none->b≠e:=fun b n z=>by
  subst z
  rcases he with r|r
  ·exact hx b n r
  ·rw [n] at r;cases r
 have hm:∀ b u,H b=some u -> ¬ Mut (some u)->b≠x:=fun b u q nm z=>by subst z;rw [q] at mu;exact nm mu
 refine⟨fun b u q n _ _=>k b u (hb b n) q,fun b u q n _ _=>⟨u.slots,k b u (hb b n) q⟩,fun b u q n _=>by rw [Ak (hx b n)];exact n,fun b u q _=>?_,
  fun b xs q=>by rw [Ak (hm b _ q fun z=>z)];exact q,fun b u xs q=>by rw [Ak (hm b _ q fun z=>z)];exact q,fun b ps q=>⟨#[],by rw [Ak (hm b _ q fun z=>z),q];simp⟩⟩
 by_cases hbe:b=e
 ·subst hbe;exact heo
 ·exact⟨u,k b u hbe q⟩
end
noncomputable def trk (h:Heap) (H:Hp):List Addr:=(aw h.objs.size).filter fun a=>(H a).isSome
noncomputable def Pj (h:Heap) (H:Hp):Heap:=PySem.W.hideAll h (trk h H)
theorem Zc (h:Heap) (H:Hp):(Pj h H).objs.size=h.objs.size:=PySem.W.hideAll_size _ _
theorem aj4 {h:Heap} {H:Hp} {b:Addr} {o:Obj} (e:h.get? b=some o) (n:H b=none):(Pj h H).get? b=some o:=
 PySem.W.hideAll_get _ e fun hm=>by
  have q:(H b).isSome=true:=(List.mem_filter.mp hm).2
  rw [n] at q;simp at q
theorem az0 {h:Heap} {H:Hp} {b:Addr} {o:Obj} (e:(Pj h H).get? b=some o):h.get? b=some o/\H b=none:=by
 have e':h.get? b=some o:=PySem.W.of_hideAll (trk h H) e
 refine⟨e',?_⟩
 cases q:H b with
 | none=>rfl
 | some x=>
  have hm:b∈trk h H:=List.mem_filter.mpr ⟨List.mem_range.mpr (aN e'),by simp [q]⟩
  have z:(Pj h H).get? b=none:=PySem.W.hideAll_none (trk h H) hm
  rw [z] at e;cases e
structure Mod (K:ae) (mg:Str->Option Value) (base:Heap):Prop where
 kin:K.In base
 glob:base.Ns bc mg
 blt:∃ mb,base.Ns builtinsNs mb /\ ∀ x:Str,x ≠ "__name__" -> mb x=dj x
 nolimit:base.NoLimit
structure Cx where
 prog:aW
 w:bE
 K:ae
 mg:Str->Option Value
 base:Heap
 A:bj
 N:List Str
 s₀:al
 H₀:Hp
 env:Env
 outer:List Env
 stack:List Env
 ex:List Addr
 fn:Str->Bool
 calm:Bool
 pn:List (Addr×Obj)
 xe:Value->al->Prop
noncomputable def frs (l:List Env):List Addr:=l.filterMap (·.frame)
noncomputable abbrev Cx.fs (X:Cx):List Addr:=frs X.outer
noncomputable def Vis (sc:Scope) (x:Str):Prop:=sc.names.lookup x=some .local\/sc.names.lookup x=some .cell\/sc.names.lookup x=some .free
noncomputable def Loc (sc:Scope) (x:Str):Prop:=sc.names.lookup x=some .local\/sc.names.lookup x=some .cell
noncomputable def ch4 (env:Env) (h:Heap) (m:Str->Option Value) (x:Str) (u:Value):Prop:=
 (env.kindOf x=some .local/\m x=some u)\/((env.kindOf x=some .cell\/env.kindOf x=some .free) /\ ∃ c,env.cells.lookup x=some c/\h.IsCell c (some u))
noncomputable def W6 (_:ae) (_:Nat):Prop:=True
structure Cx.Ok (X:Cx):Prop where
 mod:Mod X.K X.mg X.base
 kind:X.env.scope.kind=.function
 glob:X.env.globals=bc
 blt:X.env.builtins=builtinsNs
 above:X.s₀.heap.objs.size<=X.env.locals
 inj:∀ x y c,X.env.cells.lookup x=some c->X.env.cells.lookup y=some c->x=y
 has:∀ x,(X.env.kindOf x=some .cell\/X.env.kindOf x=some .free) -> ∃ c,X.env.cells.lookup x=some c
 cab:∀ x c,X.fn x=true->X.env.cells.lookup x=some c->X.s₀.heap.objs.size<=c
 hd:X.calm=true->X.A.handled=none
 frames:X.A.frames=some X.stack
 stk:X.stack=X.outer\/(X.stack=X.env::X.outer/\X.env.frame=some X.env.locals)
 exf:∀ b∈X.ex,b≠X.env.locals /\ ∀ x c,X.env.cells.lookup x=some c->c≠b
 bs:∀ b o,X.base.get? b=some o->X.s₀.heap.get? b=some o/\X.H₀ b=none
 bsz:X.base.objs.size<=X.s₀.heap.objs.size
 noex:∀ b o,X.base.get? b=some o->b∉X.ex
 exfs:∀ b∈X.ex,b∉X.fs
 funs:X.s₀.heap.FunFrames X.base X.outer
 frf:∀ b∈X.fs,X.H₀ b=none
 tk:W6 X.K X.s₀.toks
structure Inv (X:Cx) (pins:List (Addr×Obj)) (σ:List (Option V)) (H:Hp) (s:al):Prop where
 ok:X.Ok
 os:s.os=X.s₀.os/\X.s₀.toks<=s.toks
 bare:jf s.gens
 base:Un X.fs X.ex X.H₀ H X.s₀.heap s.heap
 loc:∃ m,s.heap.Ns X.env.locals m /\ ∀ (i:Nat) (x:Str) (v:V),X.N[i]? = some x->σ[i]? = some (some v)->Vis X.env.scope x -> ∃ u,RelV v u/\ch4 X.env s.heap m x u
 cell:∀ x c,X.env.cells.lookup x=some c -> ∃ v,s.heap.IsCell c v
 free:H X.env.locals=none
 freeC:∀ x c,X.env.cells.lookup x=some c->H c=none
 pin:∀ p∈X.pn++pins,s.heap.get? p.1=some p.2/\H p.1=none/\p.1≠X.env.locals/\p.1∉X.fs /\ ∀ v,p.2.data≠.cell v
 hok:HOk X.prog X.w H s.heap
 len:σ.length=X.N.length
section
variable {X:Cx} {pins:List (Addr×Obj)} {σ:List (Option V)} {H H':Hp} {s:al} {h':Heap}
theorem Cx.Ok.nofr (ok:X.Ok) {b:Addr} {o:Obj} (e:X.base.get? b=some o):b∉X.fs:=fun hb=>by
 have:=(ok.funs.mem hb).1
 rw [e] at this;cases this
theorem Inv.bs (I:Inv X pins σ H s):∀ b o,X.base.get? b=some o->s.heap.get? b=some o/\H b=none:=fun b o e=>
 ⟨I.base.keep b o (I.ok.bs b o e).1 (I.ok.bs b o e).2 (I.ok.nofr e) (I.ok.noex b o e),I.base.free b o (I.ok.bs b o e).1 (I.ok.bs b o e).2 (I.ok.noex b o e)⟩
theorem Inv.bk (I:Inv X pins σ H s):∀ b o,X.base.get? b=some o->s.heap.get? b=some o:=fun b o e=>(I.bs b o e).1
theorem Inv.mod (I:Inv X pins σ H s):Mod X.K X.mg X.base:=I.ok.mod
theorem Inv.kIn (I:Inv X pins σ H s):X.K.In s.heap:=I.ok.mod.kin.keeps I.bk
theorem Inv.lt (I:Inv X pins σ H s):X.env.locals<s.heap.objs.size:=let ⟨_,hn,_⟩:=I.loc;hn.lt
theorem Inv.sz (I:Inv X pins σ H s):X.s₀.heap.objs.size<=s.heap.objs.size:=ax I.ok.above (d8 I.lt)
theorem Inv.nofs (I:Inv X pins σ H s) {a:Addr} (h:s.heap.objs.size<=a):a∉X.fs:=fun hb=>by
 obtain⟨_,o,ho,_⟩:=I.ok.funs.mem hb
 exact absurd (aM (aN ho) (ax I.sz h)) (fA _)
theorem Inv.cne (I:Inv X pins σ H s):∀ x c,X.env.cells.lookup x=some c->c≠X.env.locals:=fun x c e z=>by
 obtain⟨v,o,ho,hd⟩:=I.cell x c e
 obtain⟨m,⟨o',es,ep,ho',hd',_⟩,_⟩:=I.loc
 rw [z,ho'] at ho;cases ho;rw [hd'] at hd;cases hd
theorem Inv.funs (I:Inv X pins σ H s):s.heap.FunFrames X.base X.outer:=by
 have all:∀ (l:List Env),(∀ b∈frs l,b∈X.fs)->X.s₀.heap.FunFrames X.base l->s.heap.FunFrames X.base l:=by
  intro l
  induction l with
  | nil=>intro _ _;trivial
  | cons env r ih=>
   intro hs hl
   obtain⟨hk,⟨L,o,hf,hn,ho,hd⟩,hr⟩:=hl
   have hL:L∈X.fs:=hs L (by unfold frs;rw [gL,hf];exact az)
   obtain⟨sl,e⟩:=I.base.slot L o ho (I.ok.frf L hL) hL fun z=>I.ok.exfs L z hL
   exact⟨hk,⟨L,_,hf,hn,e,hd⟩,ih (fun b hb=>hs b (by unfold frs;rw [gL,hf];exact ar _ hb)) hr⟩
 exact all X.outer (fun _ hb=>hb) I.ok.funs
theorem Inv.stack (I:Inv X pins σ H s):s.heap.FunFrames X.base X.stack:=by
 rcases I.ok.stk with e|⟨e,hf⟩
 ·rw [e];exact I.funs
 ·rw [e]
  obtain⟨m,hn,_⟩:=I.loc
  refine .cons (by rw [I.ok.kind];decide) hf hn ?_ I.funs
  exact Heap.get?_none_of_le (ax I.ok.bsz I.ok.above)
theorem Inv.stkSub (I:Inv X pins σ H s):∀ b∈frs X.stack,b∈X.env.locals::X.fs:=fun b hb=>by
 rcases I.ok.stk with e|⟨e,hf⟩
 ·rw [e] at hb;exact ar _ hb
 ·rw [e] at hb
  unfold frs at hb
  rw [gL,hf] at hb
  exact hb
theorem Inv.stkFree (I:Inv X pins σ H s):∀ b∈frs X.stack,H b=none:=fun b hb=>by
 rcases List.mem_cons.mp (I.stkSub b hb) with e|hb
 ·rw [e];exact I.free
 ·obtain⟨_,o,ho,_⟩:=I.ok.funs.mem hb
  exact I.base.free b o ho (I.ok.frf b hb) fun z=>I.ok.exfs b z hb
theorem Inv.step {g':Array kc} {t':Nat} {d':Drawn} {ch:List Addr} (I:Inv X pins σ H s)
  (hch:∀ b∈ch,(b∈X.ex\/X.s₀.heap.objs.size<=b)/\b≠X.env.locals/\(∀ x c,X.env.cells.lookup x=some c->c≠b) /\ ∀ p∈X.pn++pins,p.1≠b)
  (keep:∀ b o,b≠X.env.locals->b∉X.fs->b∉ch->s.heap.get? b=some o->H b=none->h'.get? b=some o)
  (slot:∀ b o,b≠X.env.locals->b∈X.fs->b∉ch->s.heap.get? b=some o->H b=none -> ∃ sl,h'.get? b=some { o with slots:=sl }) (free:∀ b o,b∉ch->s.heap.get? b=some o->H b=none->H' b=none)
  (there:∀ b o,b∉ch->s.heap.get? b=some o -> ∃ o',h'.get? b=some o')
  (tups:∀ b xs,H b=some (.tup xs)->H' b=some (.tup xs)) (frzs:∀ b o u,H b=some (.frz o u)->H' b=some (.frz o u)) (tbls:∀ b ps,H b=some (.tbl ps) -> ∃ more,H' b=some (.tbl (ps++more)))
  (ns:∀ m,s.heap.Ns X.env.locals m->h'.Ns X.env.locals m) (hok:HOk X.prog X.w H' h') (hg:jf g') (ht:s.toks<=t':=by first|exact ak _|exact aU _ _|assumption|omega|(dsimp only;omega)) :
  Inv X pins σ H' { s with heap:=h',gens:=g',drawn:=d',toks:=t' }:=by
 have neL:∀ b o,X.s₀.heap.get? b=some o->b≠X.env.locals:=fun b o e=>aT (aM (aN e) I.ok.above)
 have neC:∀ b o,X.s₀.heap.get? b=some o->b∉X.ex->b∉ch:=fun b o e hx hb=>by
  rcases (hch b hb).1 with z|z
  ·exact hx z
  ·exact absurd (aM (aN e) z) (fA _)
 have cellK:∀ x c,X.env.cells.lookup x=some c -> ∀ v,s.heap.IsCell c v->h'.IsCell c v:=fun x c e v ⟨o,ho,hd⟩=>by
  have nch:c∉ch:=fun z=>(hch c z).2.2.1 x c e rfl
  by_cases hc:c∈X.fs
  ·obtain⟨sl,q⟩:=slot c o (I.cne x c e) hc nch ho (I.freeC x c e)
   exact⟨_,q,hd⟩
  ·exact⟨o,keep c o (I.cne x c e) hc nch ho (I.freeC x c e),hd⟩
 refine⟨I.ok,⟨I.os.1,ax I.os.2 ht⟩,hg,⟨fun b o e n hb hx=>?_,fun b o e n hb hx=>?_,fun b o e n hx=>?_,fun b o e hx=>?_,fun b xs e=>tups b xs (I.base.tups b xs e),fun b o xs e=>frzs b o xs (I.base.frzs b o xs e),fun b ps e=>?_⟩,?_,fun x c e=>?_,?_,fun x c e=>?_,fun p hp=>?_,hok,I.len⟩
 ·exact keep b o (neL b o e) hb (neC b o e hx) (I.base.keep b o e n hb hx) (I.base.free b o e n hx)
 ·obtain⟨sl,e1⟩:=I.base.slot b o e n hb hx
  obtain⟨sl',e2⟩:=slot b _ (neL b o e) hb (neC b o e hx) e1 (I.base.free b o e n hx)
  exact⟨sl',e2⟩
 ·obtain⟨o',e1⟩:=I.base.there b o e hx
  exact free b o' (neC b o e hx) e1 (I.base.free b o e n hx)
 ·obtain⟨o',e1⟩:=I.base.there b o e hx
  exact there b o' (neC b o e hx) e1
 ·obtain⟨m1,e1⟩:=I.base.tbls b ps e
  obtain⟨m2,e2⟩:=tbls b _ e1
  exact⟨m1++m2,by rw [e2,Array.append_assoc]⟩
 ·obtain⟨m,hn,hl⟩:=I.loc
  refine⟨m,ns m hn,fun i x v e1 e2 e3=>?_⟩
  obtain⟨u,r,l⟩:=hl i x v e1 e2 e3
  refine⟨u,r,?_⟩
  rcases l with l|⟨k,c,e,z⟩
  ·exact .inl l
  ·exact .inr ⟨k,c,e,cellK x c e _ z⟩
 ·obtain⟨v,z⟩:=I.cell x c e
  exact⟨v,cellK x c e v z⟩
 ·obtain⟨m,⟨o,_,_,ho,_⟩,_⟩:=I.loc
  exact free _ o (fun z=>(hch _ z).2.1 rfl) ho I.free
 ·obtain⟨v,o,ho,hd⟩:=I.cell x c e
  exact free c o (fun z=>(hch c z).2.2.1 x c e rfl) ho (I.freeC x c e)
 ·obtain⟨e,n,ne,nf,d⟩:=I.pin p hp
  have nch:p.1∉ch:=fun z=>(hch p.1 z).2.2.2 p hp rfl
  exact⟨keep p.1 p.2 ne nf nch e n,free p.1 p.2 nch e n,ne,nf,d⟩
theorem Inv.un {t':Nat} (I:Inv X pins σ H s) (u:Un X.fs [] H H' s.heap h') (hok:HOk X.prog X.w H' h') (ht:s.toks<=t':=by first|exact ak _|exact aU _ _|assumption|omega|(dsimp only;omega)):Inv X pins σ H' { s with heap:=h',toks:=t' }:=by
 obtain⟨m,⟨o,es,ep,ho,r⟩,_⟩:=id I.loc
 obtain⟨sl,hL⟩:=u.any ho I.free (by simp)
 exact I.step (g':=s.gens) (d':=s.drawn) (ch:=[]) (fun _ z=>nomatch z) (fun b o _ hb _ e n=>u.keep b o e n hb (by simp)) (fun b o _ hb _ e n=>u.slot b o e n hb (by simp)) (fun b o _ e n=>u.free b o e n (by simp)) (fun b o _ e=>u.there b o e (by simp)) u.tups u.frzs u.tbls (fun m' hm=>by
  obtain⟨o',es',ep',ho',r'⟩:=hm
  rw [ho] at ho';cases ho'
  exact⟨_,es',ep',hL,r'⟩) hok I.bare
theorem Inv.call {g':Array kc} {t':Nat} {d':Drawn} {ch:List Addr} (I:Inv X pins σ H s) (u:Un (frs X.stack) ch H H' s.heap h') (hok:HOk X.prog X.w H' h') (hg:jf g')
  (hch:∀ b∈ch,(b∈X.ex\/X.s₀.heap.objs.size<=b)/\b≠X.env.locals/\(∀ x c,X.env.cells.lookup x=some c->c≠b) /\ ∀ p∈X.pn++pins,p.1≠b) (ht:s.toks<=t':=by first|exact ak _|exact aU _ _|assumption|omega|(dsimp only;omega)) :
  Inv X pins σ H' { s with heap:=h',gens:=g',drawn:=d',toks:=t' }:=by
 obtain⟨m,⟨o,es,ep,ho,r⟩,_⟩:=id I.loc
 obtain⟨sl,hL⟩:=u.any ho I.free fun z=>(hch _ z).2.1 rfl
 exact I.step (ch:=ch) hch (fun b o hL hb hc e n=>u.keep b o e n (fun z=>(List.mem_cons.mp (I.stkSub b z)).elim hL hb) hc) (fun b o _ _ hc e n=>u.any e n hc) (fun b o hc e n=>u.free b o e n hc) (fun b o hc e=>u.there b o e hc) u.tups u.frzs u.tbls (fun m' hm=>by
  obtain⟨o',es',ep',ho',r'⟩:=hm
  rw [ho] at ho';cases ho'
  exact⟨_,es',ep',hL,r'⟩) hok hg
theorem Inv.turned {t':Nat} {it:Addr} (I:Inv X pins σ H s) (k:∀ b o,b≠it->s.heap.get? b=some o->h'.get? b=some o) (hn:H it=none) (hL:it≠X.env.locals)
  (h1:it∈X.ex\/X.s₀.heap.objs.size<=it) (h2:∀ x c,X.env.cells.lookup x=some c->c≠it) (h3:∀ p∈X.pn++pins,p.1≠it) (ht:s.toks<=t':=by first|exact ak _|exact aU _ _|assumption|omega|(dsimp only;omega)):Inv X pins σ H { s with heap:=h',toks:=t' }:=by
 have nit:∀ b u,H b=some u->b≠it:=fun b u e z=>by rw [z,hn] at e;cases e
 refine I.step (g':=s.gens) (d':=s.drawn) (ch:=[it]) (fun b hb=>?_) (fun b o _ _ hc e _=>k b o (fun z=>hc (by simp [z])) e) (fun b o _ _ hc e _=>⟨o.slots,k b o (fun z=>hc (by simp [z])) e⟩) (fun _ _ _ _ n=>n)
  (fun b o hc e=>⟨o,k b o (fun z=>hc (by simp [z])) e⟩) (fun _ _ e=>e) (fun _ _ _ e=>e) (fun b ps e=>⟨#[],by rw [e];simp⟩) (fun m hm=>?_) (fun b u e=>?_) I.bare
 ·have e:b=it:=by simpa using hb
  subst e
  exact⟨h1,hL,h2,h3⟩
 ·obtain⟨o,es,ep,ho,r⟩:=hm
  exact⟨o,es,ep,k _ o (cA hL) ho,r⟩
 ·refine (I.hok b u e).stay (fun c v hc q=>k c v ?_ q) (fun _ q=>q) fun _ _ q=>q
  rcases hc with z|z
  ·rw [z];exact nit b u e
  ·exact nit c _ z
theorem Inv.tok (I:Inv X pins σ H s) (t:Nat) (ht:s.toks<=t:=by first|exact ak _|exact aU _ _|assumption|omega|(dsimp only;omega)):Inv X pins σ H { s with toks:=t }:=I.un (h':=s.heap) (t':=t) Un.refl I.hok ht
theorem Inv.kept {t':Nat} (I:Inv X pins σ H s) (k:∀ b u,s.heap.get? b=some u->h'.get? b=some u) (ht:s.toks<=t':=by first|exact ak _|exact aU _ _|assumption|omega|(dsimp only;omega)):Inv X pins σ H { s with heap:=h',toks:=t' }:=I.un (Un.kept k) (I.hok.kept k) ht
theorem Inv.laid {a:Addr} {o:HO} {t':Nat} (I:Inv X pins σ H s) (k:∀ b u,s.heap.get? b=some u->h'.get? b=some u) (hp:s.heap.objs.size<=a) (new:ObjOk X.prog X.w (upd H a o) h' a o) (ht:s.toks<=t':=by first|exact ak _|exact aU _ _|assumption|omega|(dsimp only;omega)) :
  Inv X pins σ (upd H a o) { s with heap:=h',toks:=t' }:=I.un (Un.laid k hp (I.hok.fresh hp)) (I.hok.laid k hp new) ht
theorem Inv.write {x e:Addr} {o:HO} {t':Nat} (I:Inv X pins σ H s) (mu:Mut (H x)) (he:e=x\/H e=some (.own x)) (k:∀ b u,b≠e->s.heap.get? b=some u->h'.get? b=some u) (heo:∃ u,h'.get? e=some u)
  (new:ObjOk X.prog X.w (upd H x o) h' x o) (ht:s.toks<=t':=by first|exact ak _|exact aU _ _|assumption|omega|(dsimp only;omega)):Inv X pins σ (upd H x o) { s with heap:=h',toks:=t' }:=I.un (Un.write mu he k heo) (I.hok.write mu he k heo new) ht
theorem Inv.pins_of {pins':List (Addr×Obj)} (I:Inv X pins σ H s) (h:∀ p∈pins',s.heap.get? p.1=some p.2/\H p.1=none/\p.1≠X.env.locals/\p.1∉X.fs /\ ∀ v,p.2.data≠.cell v):Inv X pins' σ H s:=
 ⟨I.ok,I.os,I.bare,I.base,I.loc,I.cell,I.free,I.freeC,fun p hp=>(List.mem_append.mp hp).elim (fun z=>I.pin p (c8 _ z)) (h p),I.hok,I.len⟩
theorem Sj {N:List Str} (hN:N.Nodup) {i j:Nat} {x:Str} (a:N[i]? = some x) (b:N[j]? = some x):i=j:=by
 obtain⟨h1,e1⟩:=List.getElem?_eq_some_iff.mp a
 obtain⟨h2,e2⟩:=List.getElem?_eq_some_iff.mp b
 exact (cK hN).mp (e1.trans e2.symm)
theorem Z9 {M:Model} {A:bj} {E:Value->al->Prop} {i:Nat} {x:Str} {v:V} {u:Value} {Q:Unit->al->Prop} (I:Inv X pins σ H s) (hN:X.N.Nodup) (hi:X.N[i]? = some x) (hx:Loc X.env.scope x) (r:RelV v u)
  (h:∀ s',Inv X pins (σ.set i (some v)) H s'->(∃ a,bq a s.heap s'.heap/\(a=X.env.locals\/X.env.cells.lookup x=some a))->Q () s') (hf:X.fn x=true\/X.env.scope.names.lookup x=some .local:=by first|exact .inl rfl|exact .inr rfl|assumption):aV M A (storeName X.env x u) Q E s:=by
 obtain⟨m,hn,hl⟩:=id I.loc
 have hcls:(X.env.scope.kind==.class||(X.env.scope.kind==.module&&X.env.locals != X.env.globals))=false:=by rw [I.ok.kind];rfl
 have hiσ:i<σ.length:=by rw [I.len];exact (List.getElem?_eq_some_iff.mp hi).1
 have cne:=I.cne
 have tracked:∀ {a:Addr} {h':Heap},(∃ o,s.heap.get? a=some o/\H a=none)->bq a s.heap h'->HOk X.prog X.w H h':=fun {a h'} ha hs b ob e=>by
  obtain⟨_,_,hfree⟩:=ha
  refine (I.hok b ob e).stay (fun c w' hc q=>(hs.2 c ?_).trans q) (fun _ q=>q) fun _ _ q=>q
  rintro rfl
  rcases hc with rfl|hc
  ·rw [hfree] at e;cases e
  ·rw [hfree] at hc;cases hc
 rcases hx with hk|hk
 ·refine wpAny_storeName_local hk hn (fun h' hn' hs=>?_) hcls
  obtain⟨oL,_,_,hoL,_⟩:=id hn
  refine h _ ⟨I.ok,⟨I.os.1,ax I.os.2 (by first|exact ak _|exact aU _ _)⟩,I.bare,⟨fun b o e n hb hx=>?_,fun b o e n hb hx=>?_,I.base.free,fun b o e hx=>?_,I.base.tups,I.base.frzs,I.base.tbls⟩,⟨_,hn',fun j y v' e1 e2 e3=>?_⟩,fun y c e=>?_,I.free,I.freeC,fun p hp=>?_,tracked ⟨oL,hoL,I.free⟩ hs,by simpa using I.len⟩ ⟨_,hs,.inl rfl⟩
  ·exact (hs.2 b (aT (aM (aN e) I.ok.above))).trans (I.base.keep b o e n hb hx)
  ·obtain⟨sl,e1⟩:=I.base.slot b o e n hb hx
   exact⟨sl,(hs.2 b (aT (aM (aN e) I.ok.above))).trans e1⟩
  ·obtain⟨o',e1⟩:=I.base.there b o e hx
   exact⟨o',(hs.2 b (aT (aM (aN e) I.ok.above))).trans e1⟩
  ·by_cases hj:j=i
   ·subst hj
    rw [hi] at e1;cases e1
    rw [i0 hiσ] at e2
    cases e2
    exact⟨u,r,.inl ⟨hk,by simp⟩⟩
   ·rw [jJ (cA hj)] at e2
    obtain⟨u',r',q⟩:=hl j y v' e1 e2 e3
    refine⟨u',r',?_⟩
    rcases q with ⟨k,e⟩|⟨k,c,e,z⟩
    ·refine .inl ⟨k,?_⟩
     have:y≠x:=fun e=>hj (Sj hN e1 (e▸hi))
     simp [this,e]
    ·exact .inr ⟨k,c,e,z.sameBut hs (cne y c e)⟩
  ·obtain⟨w',z⟩:=I.cell y c e
   exact⟨w',z.sameBut hs (cne y c e)⟩
  ·obtain⟨e,n,ne,nf,d⟩:=I.pin p hp
   exact⟨(hs.2 p.1 ne).trans e,n,ne,nf,d⟩
 ·have hfn:X.fn x=true:=by
   rcases hf with z|z
   ·exact z
   ·rw [z] at hk;cases hk
  obtain⟨c,hc⟩:=I.ok.has x (.inl hk)
  obtain⟨w',z⟩:=I.cell x c hc
  refine wpAny_storeName_cell I.ok.kind hk hc z (fun h' hc' hs=>?_)
  obtain⟨oc,hoc,hocd⟩:=id z
  refine h { s with heap:=h' } ⟨I.ok,I.os,I.bare,⟨fun b o e n hb hx=>?_,fun b o e n hb hx=>?_,I.base.free,fun b o e hx=>?_,I.base.tups,I.base.frzs,I.base.tbls⟩,⟨m,hn.sameBut hs (cA (cne x c hc)),fun j y v' e1 e2 e3=>?_⟩,fun y c' e=>?_,I.free,I.freeC,fun p hp=>?_,tracked ⟨oc,hoc,I.freeC x c hc⟩ hs,by simpa using I.len⟩ ⟨c,hs,.inr hc⟩
  ·exact (hs.2 b (aT (aM (aN e) (I.ok.cab x c hfn hc)))).trans (I.base.keep b o e n hb hx)
  ·obtain⟨sl,e1⟩:=I.base.slot b o e n hb hx
   exact⟨sl,(hs.2 b (aT (aM (aN e) (I.ok.cab x c hfn hc)))).trans e1⟩
  ·obtain⟨o',e1⟩:=I.base.there b o e hx
   exact⟨o',(hs.2 b (aT (aM (aN e) (I.ok.cab x c hfn hc)))).trans e1⟩
  ·by_cases hj:j=i
   ·subst hj
    rw [hi] at e1;cases e1
    rw [i0 hiσ] at e2
    cases e2
    exact⟨u,r,.inr ⟨.inl hk,c,hc,hc'⟩⟩
   ·rw [jJ (cA hj)] at e2
    obtain⟨u',r',q⟩:=hl j y v' e1 e2 e3
    refine⟨u',r',?_⟩
    rcases q with q|⟨k,c',e,z'⟩
    ·exact .inl q
    ·refine .inr ⟨k,c',e,z'.sameBut hs ?_⟩
     rintro rfl
     exact hj (Sj hN e1 (I.ok.inj _ _ _ e hc▸hi))
  ·by_cases hcc:c'=c
   ·subst hcc;exact⟨_,hc'⟩
   ·obtain⟨w2,z2⟩:=I.cell y c' e
    exact⟨w2,z2.sameBut hs hcc⟩
  ·obtain⟨e,n,ne,nf,d⟩:=I.pin p hp
   refine⟨(hs.2 p.1 ?_).trans e,n,ne,nf,d⟩
   intro q
   rw [q,hoc] at e
   have q':oc=p.2:=aE e
   exact d w' (by rw [<- q'];exact hocd)
theorem Mf {M:Model} {A:bj} {E:Value->al->Prop} {i:Nat} {x:Str} {v:V} {u:Value} {Q:Unit->al->Prop} (I:Inv X pins σ H s) (hN:X.N.Nodup) (hi:X.N[i]? = some x) (hx:Loc X.env.scope x) (r:RelV v u)
  (h:∀ s',Inv X pins (σ.set i (some v)) H s'->Q () s') (hf:X.fn x=true\/X.env.scope.names.lookup x=some .local:=by first|exact .inl rfl|exact .inr rfl|assumption):aV M A (storeName X.env x u) Q E s:=
 Z9 I hN hi hx r (fun s' I' _=>h s' I') hf
theorem Inv.call' {s':al} {ch:List Addr} (I:Inv X pins σ H s) (ho:s'.os=s.os/\s.toks<=s'.toks) (u:Un (frs X.stack) ch H H' s.heap s'.heap) (hok:HOk X.prog X.w H' s'.heap) (hg:jf s'.gens)
  (hch:∀ b∈ch,(b∈X.ex\/X.s₀.heap.objs.size<=b)/\b≠X.env.locals/\(∀ x c,X.env.cells.lookup x=some c->c≠b) /\ ∀ p∈X.pn++pins,p.1≠b):Inv X pins σ H' s':=by
 obtain⟨h',g',d',t',o'⟩:=s'
 have e:o'=s.os:=ho.1
 subst e
 exact I.call (g':=g') (t':=t') (d':=d') u hok hg hch ho.2
end
noncomputable abbrev XK:=Value->Option Addr->Hp->Prop
noncomputable abbrev St:=List (Option V)
noncomputable abbrev VK:=V->Hp->Prop
noncomputable abbrev TE:=St->Hp->VK->Prop
noncomputable abbrev TT:=St->Hp->(Bool->Hp->Prop)->Prop
noncomputable abbrev TA:=St->Hp->(List V->Hp->Prop)->Prop
structure Qo where
 nx:St->Hp->Prop
 rt:VK
 bk:St->Hp->Prop:=fun _ _=>False
 ct:St->Hp->Prop:=fun _ _=>False
noncomputable abbrev TS:=Qo->St->Hp->Prop
noncomputable def EP (X:Cx) (pins:List (Addr×Obj)) (σ:St) (Q:VK) (u:Value) (s':al):Prop:=∃ v H',Inv X pins σ H' s'/\RelV v u/\Q v H'
noncomputable def TP (X:Cx) (pins:List (Addr×Obj)) (σ:St) (Q:Bool->Hp->Prop) (b:Bool) (s':al):Prop:=∃ H',Inv X pins σ H' s'/\Q b H'
noncomputable def AP (X:Cx) (pins:List (Addr×Obj)) (σ:St) (Q:List V->Hp->Prop) (us:List Value) (s':al):Prop:=∃ vs H',Inv X pins σ H' s'/\Vals vs us/\Q vs H'
noncomputable def SP (X:Cx) (pins:List (Addr×Obj)) (D:Qo) (f:Flow) (s':al):Prop:=
 match f with
 | .next=>∃ σ' H',Inv X pins σ' H' s'/\D.nx σ' H'
 | .brk=>∃ σ' H',Inv X pins σ' H' s'/\D.bk σ' H'
 | .cont=>∃ σ' H',Inv X pins σ' H' s'/\D.ct σ' H'
 | .ret u=>∃ v σ' H',Inv X pins σ' H' s'/\RelV v u/\D.rt v H'
noncomputable def PE (X:Cx) (e:Expr) (t:TE):Prop:=
 ∀ (pins:List (Addr×Obj)) (s:al) (σ:St) (H:Hp) (Q:VK),Inv X pins σ H s->t σ H Q->aV (model X.prog X.w) X.A (eval e X.env) (EP X pins σ Q) X.xe s
noncomputable def PT (X:Cx) (e:Expr) (t:TT):Prop:=
 ∀ (pins:List (Addr×Obj)) (s:al) (σ:St) (H:Hp) (Q:Bool->Hp->Prop),Inv X pins σ H s->t σ H Q->aV (model X.prog X.w) X.A (isTrue e X.env (eval e X.env)) (TP X pins σ Q) X.xe s
noncomputable def PW (X:Cx) (e:Expr) (t:TT):Prop:=
 ∀ (whole:Sem Value) (pins:List (Addr×Obj)) (s:al) (σ:St) (H:Hp) (Q:Bool->Hp->Prop),Inv X pins σ H s->t σ H Q->aV (model X.prog X.w) X.A (isTrue e X.env whole) (TP X pins σ Q) X.xe s
theorem PW.pt {X:Cx} {e:Expr} {t:TT} (h:PW X e t):PT X e t:=h _
noncomputable def PA (X:Cx) (es:List Expr) (t:TA):Prop:=
 ∀ (pos:Pos) (pins:List (Addr×Obj)) (s:al) (σ:St) (H:Hp) (Q:List V->Hp->Prop),Inv X pins σ H s->t σ H Q->aV (model X.prog X.w) X.A (spliced (iT pos (cW es X.env))) (AP X pins σ Q) X.xe s
noncomputable def PS (X:Cx) (st:Stmt) (t:TS):Prop:=
 ∀ (pins:List (Addr×Obj)) (s:al) (σ:St) (H:Hp) (D:Qo),Inv X pins σ H s->t D σ H->aV (model X.prog X.w) X.A (exec st X.env) (SP X pins D) X.xe s
noncomputable def PSs (X:Cx) (st:List Stmt) (t:TS):Prop:=
 ∀ (pins:List (Addr×Obj)) (s:al) (σ:St) (H:Hp) (D:Qo),Inv X pins σ H s->t D σ H->aV (model X.prog X.w) X.A (execs st X.env) (SP X pins D) X.xe s
theorem thn {α:Type} {t:Sem α} {Q Q':α->al->Prop} {M:Model} {A:bj} {E:Value->al->Prop} {s:al} (h:aV M A t Q E s) (hQ:∀ a s,Q a s->Q' a s):aV M A t Q' E s:=dn h hQ fun _ _ x=>x
section
variable {X:Cx}
noncomputable def ck5 (i:Nat):TE:=fun σ H Q=>∃ v,σ[i]? = some (some v)/\Q v H
noncomputable def tC (v:V):TE:=fun _ H Q=>Q v H
theorem bk8 {i:Nat} {x:Str} {pos:Pos} (hN:X.N[i]? = some x) (hv:Vis X.env.scope x) (hd:(x==("__debug__" : Str))=false:=by decide) (hcd:(x==("__classdict__" : Str))=false:=by decide):PE X (.Name x pos) (ck5 i):=by
 intro pins s σ H Q I h
 obtain⟨v,e,h⟩:=h
 obtain⟨m,hn,hl⟩:=I.loc
 obtain⟨u,r,l⟩:=hl i x v hN e hv
 have fin:EP X pins σ Q u s:=⟨v,H,I,r,h⟩
 rcases l with ⟨hk,hm⟩|⟨hk,c,hc,hcell⟩
 ·exact wpAny_Name (wpAny_loadName_local I.ok.kind hk hn hm fin) hd
 ·rcases hk with hk|hk
  ·exact wpAny_Name (wpAny_loadName_cell I.ok.kind hk hc hcell fin) hd
  ·exact wpAny_Name (wpAny_loadName_free I.ok.kind hk hc hcell fin hcd) hd
theorem bk2 {i j pos}:PE X (.Constant (.int i) j pos) (tC (.int i)):=fun _ _ _ H _ I h=>wpAny_Constant_int ⟨.int i,H,I.tok _,⟨_,rfl⟩,h⟩
theorem b40 {b j pos}:PE X (.Constant (.bool b) j pos) (tC (.bl b)):=fun _ _ _ H _ I h=>Constant_bool ⟨.bl b,H,I,rfl,h⟩
theorem bk4 {j pos}:PE X (.Constant .none j pos) (tC .non):=fun _ _ _ H _ I h=>Constant_none ⟨.non,H,I,rfl,h⟩
theorem bk6 {x j pos}:PE X (.Constant (.str x) j pos) (tC (.str x)):=fun _ _ _ H _ I h=>Calls.Constant_str ⟨.str x,H,I.tok _,⟨_,rfl⟩,h⟩
noncomputable def Gl (X:Cx) (x:Str):Prop:=X.env.kindOf x=some .globalImplicit
theorem Hj {E:Value->al->Prop} {pins:List (Addr×Obj)} {s:al} {σ:St} {H:Hp} {x:Str} {u:Value} {pos:Pos} {Q:Value->al->Prop} (I:Inv X pins σ H s) (hg:Gl X x) (hm:X.mg x=some u) (h:Q u s)
  (hd:(x==("__debug__" : Str))=false:=by decide):aV (model X.prog X.w) X.A (eval (.Name x pos) X.env) Q E s:=
 gY I.ok.kind hg (Calls.loadGlobal_global (by rw [I.ok.glob];exact I.mod.glob.keeps I.bk) hm h) hd
theorem Fv {E:Value->al->Prop} {pins:List (Addr×Obj)} {s:al} {σ:St} {H:Hp} {x:Str} {u:Value} {pos:Pos} {Q:Value->al->Prop} (I:Inv X pins σ H s) (hg:Gl X x) (hm:X.mg x=none) (hv:dj x=some u) (h:Q u s)
  (hn:x ≠ "__name__" := by decide) (hd:(x==("__debug__" : Str))=false:=by decide):aV (model X.prog X.w) X.A (eval (.Name x pos) X.env) Q E s:=by
 obtain⟨mb,h1,h2⟩:=I.mod.blt
 exact gY I.ok.kind hg (Calls.loadGlobal_builtin (by rw [I.ok.glob];exact I.mod.glob.keeps I.bk) hm (by rw [I.ok.blt];exact h1.keeps I.bk) ((h2 x hn).trans hv) h) hd
theorem Xz {x:Str} {v:V} {u:Value} {pos:Pos} (hg:Gl X x) (hm:X.mg x=some u) (r:RelV v u) (hd:(x==("__debug__" : Str))=false:=by decide):PE X (.Name x pos) (tC v):=
 fun _ _ _ H _ I h=>Hj I hg hm ⟨v,H,I,r,h⟩ hd
theorem az8 {x:Str} {v:V} {u:Value} {pos:Pos} (hg:Gl X x) (hm:X.mg x=none) (hv:dj x=some u) (r:RelV v u) (hn:x ≠ "__name__" := by decide) (hd:(x==("__debug__" : Str))=false:=by decide):PE X (.Name x pos) (tC v):=
 fun _ _ _ H _ I h=>Fv I hg hm hv ⟨v,H,I,r,h⟩ hn hd
variable {a b:Expr} {ta tb:TE} {pos:Pos}
variable {tA tB':TT} {rest:List Expr}
noncomputable def cj6 (t u:TT):TT:=fun σ H Q=>t σ H fun c H1=>if c=true then u σ H1 Q else Q false H1
noncomputable def tOr (t u:TT):TT:=fun σ H Q=>t σ H fun c H1=>if c=true then Q true H1 else u σ H1 Q
noncomputable def ck1 (t:TT):TT:=fun σ H Q=>t σ H fun c H1=>Q (!c) H1
theorem a09 (ha:PT X a tA):PW X (.BoolOp .And [a] pos) tA:=by
 intro wh pins s σ H Q I h
 refine isTrue_and (thn (ha pins s σ H Q I h) fun c s1 e=>?_)
 cases c with
 | true=>exact isTrue_and_nil e
 | false=>exact e
theorem bl7 (ha:PT X a tA):PW X (.BoolOp .Or [a] pos) tA:=by
 intro wh pins s σ H Q I h
 refine isTrue_or (thn (ha pins s σ H Q I h) fun c s1 e=>?_)
 cases c with
 | false=>exact isTrue_or_nil e
 | true=>exact e
theorem bl6 (ha:PT X a tA) (hb:PW X (.BoolOp .And (b::rest) pos) tB'):PW X (.BoolOp .And (a::b::rest) pos) (cj6 tA tB'):=by
 intro wh pins s σ H Q I h
 refine isTrue_and (thn (ha pins s σ H _ I h) fun c s1 ⟨H1,I1,q1⟩=>?_)
 cases c with
 | true=>exact hb wh pins s1 σ H1 Q I1 q1
 | false=>exact⟨H1,I1,q1⟩
theorem b46 (ha:PT X a tA) (hb:PW X (.BoolOp .Or (b::rest) pos) tB'):PW X (.BoolOp .Or (a::b::rest) pos) (tOr tA tB'):=by
 intro wh pins s σ H Q I h
 refine isTrue_or (thn (ha pins s σ H _ I h) fun c s1 ⟨H1,I1,q1⟩=>?_)
 cases c with
 | true=>exact⟨H1,I1,q1⟩
 | false=>exact hb wh pins s1 σ H1 Q I1 q1
theorem bl5 (ha:PT X a tA):PT X (.UnaryOp .Not a pos) (ck1 tA):=by
 intro pins s σ H Q I h
 exact isTrue_not (ha pins s σ H (fun c H1=>Q (!c) H1) I h)
theorem bk5 {op} {t:TE} (h:PE X a t):PE X (.BoolOp op [a] pos) t:=fun pins s σ H Q I hw=>BoolOp_one (h pins s σ H Q I hw)
noncomputable def tIf (t:TT) (ta tb:TE):TE:=fun σ H Q=>t σ H fun c H1=>if c=true then ta σ H1 Q else tb σ H1 Q
theorem am8 {c:Expr} (hc:PT X c tA) (ha:PE X a ta) (hb:PE X b tb):PE X (.IfExp c a b pos) (tIf tA ta tb):=by
 intro pins s σ H Q I h
 refine wpAny_IfExp (thn (hc pins s σ H _ I h) fun d s1 ⟨H1,I1,q1⟩=>?_)
 cases d with
 | true=>exact ha pins s1 σ H1 Q I1 q1
 | false=>exact hb pins s1 σ H1 Q I1 q1
end
noncomputable def SqL (K:ae) (H:Hp) (a:Addr) (xs:List V):Prop:=
 Rd H a (.lst xs) \/
  ∃ (o:Obj) (its:Array Value) (n:Nat),K.lookup a=some o/\o.cls=.type "list" /\ o.dict=none/\o.data=.seq its n/\its.size<=sizeLine/\xs.all V.pl=true/\Vals xs its.toList
noncomputable def SqT (K:ae) (H:Hp) (a:Addr) (xs:List V):Prop:=
 Rd H a (.tup xs) \/
  ∃ (o:Obj) (its:Array Value) (n:Nat),K.lookup a=some o/\o.cls=.type "tuple" /\ o.data=.seq its n/\its.size<=sizeLine/\xs.all V.pl=true/\Vals xs its.toList
noncomputable def be0:Value->Option V
 | .none=>some .non
 | .bool b=>some (.bl b)
 | .int i _=>some (.int i)
 | .str x _=>some (.str x)
 | .bytes b _=>some (.byt b)
 | .ref a=>some (.ref a)
 | .type n=>some (.ty n)
 | _=>none
theorem RelV.abs {x:V} {u:Value} (r:RelV x u) (p:x.pl=true):be0 u=some x:=by
 cases x with
 | non=>cases r;rfl
 | bl _=>cases r;rfl
 | int _=>obtain⟨t,rfl⟩:=r;rfl
 | str _=>obtain⟨t,rfl⟩:=r;rfl
 | byt _=>obtain⟨t,rfl⟩:=r;rfl
 | stk _ _ _=>cases p
 | ref _=>cases r;rfl
 | ty _=>cases r;rfl
theorem RelV.inj {x y:V} {u:Value} (r:RelV x u) (q:RelV y u) (p:x.pl=true) (p':y.pl=true):x=y:=aE ((r.abs p).symm.trans (q.abs p'))
theorem Vals.inj:∀ {xs ys:List V} {us:List Value},Vals xs us->Vals ys us->xs.all V.pl=true->ys.all V.pl=true->xs=ys
 | _,_,_,.nil,.nil,_,_=>rfl
 | _,_,_,.cons r t,.cons r' t',p,q=>by
  simp only [bt,aA] at p q
  rw [r.inj r' p.1 q.1,Vals.inj t t' p.2 q.2]
section
variable {X:Cx} {pins:List (Addr×Obj)} {σ:St} {H:Hp} {s:al} {a:Addr} {xs ys:List V}
theorem SqL.of {K:ae} (h:H a=some (.lst xs)):SqL K H a xs:=.inl (.inl h)
theorem SqT.of {K:ae} (h:H a=some (.tup xs)):SqT K H a xs:=.inl (.inl h)
theorem Inv.list (I:Inv X pins σ H s) (h:SqL X.K H a xs):∃ its:List Value,Vals xs its/\PlainL s.heap a its.toArray/\xs.length<=sizeLine:=by
 rcases h with h|⟨o,its,n,hk,hc,hd,hs,hz,_,r⟩
 ·obtain⟨z,its,n,r,e⟩:=h.ok I.hok
  exact⟨its,r,⟨_,n,e,rfl,rfl,rfl⟩,z⟩
 ·refine⟨its.toList,r,⟨o,n,I.kIn a o hk,hc,hd,by simpa using hs⟩,?_⟩
  have e:=r.length
  simp only [dJ] at e
  omega
theorem Inv.tuple (I:Inv X pins σ H s) (h:SqT X.K H a xs):∃ its:List Value,Vals xs its/\lL s.heap a its.toArray/\xs.length<=sizeLine:=by
 rcases h with h|⟨o,its,n,hk,hc,hs,hz,_,r⟩
 ·obtain⟨z,its,r,p⟩:=h.ok I.hok
  exact⟨its,r,p,z⟩
 ·refine⟨its.toList,r,⟨o,I.kIn a o hk,hc,n,by simpa using hs⟩,?_⟩
  have e:=r.length
  simp only [dJ] at e
  omega
theorem Inv.notK (I:Inv X pins σ H s) {o:HO} {ob:Obj} (h:Rd H a o) (e:X.K.lookup a=some ob):False:=by
 have n:=(I.bs a ob (I.mod.kin a ob e)).2
 rcases h with h|⟨u,h⟩
 ·rw [n] at h;cases h
 ·rw [n] at h;cases h
theorem Inv.list_inj (I:Inv X pins σ H s) (h:SqL X.K H a xs) (h':SqL X.K H a ys):xs=ys:=by
 rcases h with h|⟨o,its,n,hk,hc,hd,hs,hz,p,r⟩
 ·rcases h' with h'|⟨o',its',n',hk',hc',hd',hs',hz',p',r'⟩
  ·rcases h with h|⟨u,h⟩ <;> rcases h' with h'|⟨u',h'⟩ <;> (rw [h] at h';first|(cases h';rfl)|cases h')
  ·exact (I.notK h hk').elim
 ·rcases h' with h'|⟨o',its',n',hk',hc',hd',hs',hz',p',r'⟩
  ·exact (I.notK h' hk).elim
  ·rw [hk] at hk';cases hk'
   rw [hs] at hs';cases hs'
   exact r.inj r' p p'
theorem Inv.tuple_inj (I:Inv X pins σ H s) (h:SqT X.K H a xs) (h':SqT X.K H a ys):xs=ys:=by
 rcases h with h|⟨o,its,n,hk,hc,hs,hz,p,r⟩
 ·rcases h' with h'|⟨o',its',n',hk',hc',hs',hz',p',r'⟩
  ·rcases h with h|⟨u,h⟩ <;> rcases h' with h'|⟨u',h'⟩ <;> (rw [h] at h';first|(cases h';rfl)|cases h')
  ·exact (I.notK h hk').elim
 ·rcases h' with h'|⟨o',its',n',hk',hc',hs',hz',p',r'⟩
  ·exact (I.notK h' hk).elim
  ·rw [hk] at hk';cases hk'
   rw [hs] at hs';cases hs'
   exact r.inj r' p p'
end
noncomputable abbrev Cx.wish (X:Cx) (E:Value->al->Prop):Cx:={ X with xe:=E }
noncomputable abbrev Cx.nox (X:Cx):Cx:=X.wish fun _ _=>False
theorem Cx.Ok.wish {X:Cx} (ok:X.Ok) (E:Value->al->Prop):(X.wish E).Ok:=
 ⟨ok.mod,ok.kind,ok.glob,ok.blt,ok.above,ok.inj,ok.has,ok.cab,ok.hd,ok.frames,ok.stk,ok.exf,ok.bs,ok.bsz,ok.noex,ok.exfs,ok.funs,ok.frf,ok.tk⟩
theorem Cx.Ok.unwish {X:Cx} {E:Value->al->Prop} (ok:(X.wish E).Ok):X.Ok:=
 ⟨ok.mod,ok.kind,ok.glob,ok.blt,ok.above,ok.inj,ok.has,ok.cab,ok.hd,ok.frames,ok.stk,ok.exf,ok.bs,ok.bsz,ok.noex,ok.exfs,ok.funs,ok.frf,ok.tk⟩
section
variable {X:Cx} {pins:List (Addr×Obj)} {σ:St} {H:Hp} {s:al} {E:Value->al->Prop}
theorem Inv.wish (I:Inv X pins σ H s) (E:Value->al->Prop):Inv (X.wish E) pins σ H s:=⟨I.ok.wish E,I.os,I.bare,I.base,I.loc,I.cell,I.free,I.freeC,I.pin,I.hok,I.len⟩
theorem Inv.unwish (I:Inv (X.wish E) pins σ H s):Inv X pins σ H s:=⟨I.ok.unwish,I.os,I.bare,I.base,I.loc,I.cell,I.free,I.freeC,I.pin,I.hok,I.len⟩
theorem SP.unwish {D:Qo} {f:Flow} {s':al} (h:SP (X.wish E) pins D f s'):SP X pins D f s':=by
 cases f with
 | next=>obtain⟨σ',H',I,q⟩:=h;exact⟨σ',H',I.unwish,q⟩
 | brk=>obtain⟨σ',H',I,q⟩:=h;exact⟨σ',H',I.unwish,q⟩
 | cont=>obtain⟨σ',H',I,q⟩:=h;exact⟨σ',H',I.unwish,q⟩
 | ret u=>obtain⟨v,σ',H',I,r,q⟩:=h;exact⟨v,σ',H',I.unwish,r,q⟩
theorem PSs.nox {st:List Stmt} {t:TS} (h:PSs X.nox st t):PSs X st t:=fun pins s σ H D I hw=>
 dn (h pins s σ H D (I.wish _) hw) (fun _ _ q=>q.unwish) fun _ _ z=>cL z
end
section
variable {X:Cx} {st:Stmt} {rest:List Stmt} {t u:TS} {e:Expr} {te:TE} {pos:Pos}
noncomputable def ba1:TS:=fun D σ H=>D.nx σ H
noncomputable def ck3 (t u:TS):TS:=fun D σ H=>t { D with nx:=u D } σ H
theorem a08:PSs X [] ba1:=fun _ _ σ H _ I h=>jE ⟨σ,H,I,h⟩
theorem an9 (h1:PS X st t) (h2:PSs X rest u):PSs X (st::rest) (ck3 t u):=by
 intro pins s σ H D I h
 refine wpAny_execs_cons (thn (h1 pins s σ H { D with nx:=u D } I h) fun f s1 q=>?_)
 cases f with
 | next=>
  obtain⟨σ',H',I',q⟩:=q
  exact h2 pins s1 σ' H' D I' q
 | ret v=>exact q
 | brk=>exact q
 | cont=>exact q
noncomputable def bt9:TS:=fun D σ H=>D.bk σ H
noncomputable def cb4:TS:=fun D σ H=>D.ct σ H
theorem a06:PS X (.Pass pos) ba1:=fun _ _ σ H _ I h=>wpAny_Pass ⟨σ,H,I,h⟩
theorem an8:PS X (.Break pos) bt9:=fun _ _ σ H _ I h=>wpAny_Break ⟨σ,H,I,h⟩
theorem Tc:PS X (.Continue pos) cb4:=fun _ _ σ H _ I h=>wpAny_Continue ⟨σ,H,I,h⟩
theorem Inv.quiet {pins:List (Addr×Obj)} {σ:St} {H:Hp} {s:al} (I:Inv X pins σ H s):interactive X.env=false:=by simp [interactive,I.ok.kind]
noncomputable def cb6 (te:TE):TS:=fun D σ H=>te σ H fun _ H1=>D.nx σ H1
theorem a05 (he:PE X e te) (hs:iw e none pos.line X.env=pure false:=by rfl):PS X (.Expr e pos) (cb6 te):=by
 intro pins s σ H D I h
 exact wpAny_Expr_any (thn (he pins s σ H _ I h) fun v s1 ⟨x,H1,I1,r1,q1⟩=>⟨σ,H1,I1,q1⟩) I.quiet hs
noncomputable def ck2 (te:TE):TS:=fun D σ H=>te σ H D.rt
theorem bl3 (he:PE X e te):PS X (.Return (some e) pos) (ck2 te):=by
 intro pins s σ H D I h
 exact wpAny_Return_some (thn (he pins s σ H _ I h) fun v s1 ⟨x,H1,I1,r1,q1⟩=>⟨x,σ,H1,I1,r1,q1⟩)
noncomputable def cb7:TS:=fun D _ H=>D.rt .non H
theorem a07:PS X (.Return none pos) cb7:=fun _ _ σ H _ I h=>wpAny_Return_none ⟨.non,σ,H,I,rfl,h⟩
noncomputable def cj8 (c:TT) (t u:TS):TS:=fun D σ H=>c σ H fun b H1=>if b=true then t D σ H1 else u D σ H1
theorem b45 {c:Expr} {a b:List Stmt} {tc:TT} (hc:PT X c tc) (ha:PSs X a t) (hb:PSs X b u):PS X (.If c a b pos) (cj8 tc t u):=by
 intro pins s σ H D I h
 refine wpAny_If (thn (hc pins s σ H _ I h) fun d s1 ⟨H1,I1,q1⟩=>?_)
 cases d with
 | true=>exact ha pins s1 σ H1 D I1 q1
 | false=>exact hb pins s1 σ H1 D I1 q1
end
noncomputable abbrev TG:=V->St->Hp->(St->Hp->Prop)->Prop
noncomputable abbrev TGs:=List V->St->Hp->(St->Hp->Prop)->Prop
noncomputable def PG (X:Cx) (target:Expr) (t:TG):Prop:=
 ∀ (pins:List (Addr×Obj)) (s:al) (σ:St) (H:Hp) (v:V) (u:Value) (Q:St->Hp->Prop),Inv X pins σ H s->RelV v u->t v σ H Q ->
  aV (model X.prog X.w) X.A (kS target X.env u) (fun _ s'=>∃ σ' H',Inv X pins σ' H' s'/\Q σ' H') X.xe s
noncomputable def PGs (X:Cx) (ts:List Expr) (t:TGs):Prop:=
 ∀ (pins:List (Addr×Obj)) (s:al) (σ:St) (H:Hp) (vs:List V) (us:List Value) (Q:St->Hp->Prop),Inv X pins σ H s->Vals vs us->t vs σ H Q ->
  aV (model X.prog X.w) X.A (assignInOrder ((cV ts X.env).map (·.2)) us) (fun _ s'=>∃ σ' H',Inv X pins σ' H' s'/\Q σ' H') X.xe s
noncomputable abbrev bd8:=V->V->V->Hp->(Hp->Prop)->Prop
noncomputable def bd6 (X:Cx) (t:bd8):Prop:=
 ∀ (pins:List (Addr×Obj)) (s:al) (σ:St) (H:Hp) (o i v:V) (ov iv u:Value) (Q:Hp->Prop),Inv X pins σ H s->RelV o ov->RelV i iv->RelV v u->t o i v H Q ->
  aV (model X.prog X.w) X.A (setItem ov iv u) (fun _ s'=>∃ H',Inv X pins σ H' s'/\Q H') X.xe s
section
variable {X:Cx} {pos:Pos}
noncomputable def ai7 (i:Nat):TG:=fun v σ H Q=>Q (σ.set i (some v)) H
theorem a01 {i:Nat} {x:Str} (hN:X.N.Nodup) (hi:X.N[i]? = some x) (hx:Loc X.env.scope x) (hf:X.fn x=true\/X.env.scope.names.lookup x=some .local:=by first|exact .inl rfl|exact .inr rfl|assumption):PG X (.Name x pos) (ai7 i):=by
 intro pins s σ H v u Q I r h
 exact wpAny_assign_Name (Mf I hN hi hx r (fun s' I'=>⟨_,H,I',h⟩) hf)
noncomputable def ch9:TGs:=fun vs σ H Q=>vs=[]/\Q σ H
noncomputable def by1 (t:TG) (u:TGs):TGs:=fun vs σ H Q=>∃ v r,vs=v::r/\t v σ H fun σ' H'=>u r σ' H' Q
theorem a02:PGs X [] ch9:=by
 intro pins s σ H vs us Q I r h
 obtain⟨e,h⟩:=h
 subst e
 cases r
 exact assignInOrder_nil ⟨σ,H,I,h⟩
theorem am9 {e:Expr} {es:List Expr} {t:TG} {u:TGs} (h1:PG X e t) (h2:PGs X es u)
  (hs:(cV (e::es) X.env).map (·.2)=kS e X.env::(cV es X.env).map (·.2):=by rfl):PGs X (e::es) (by1 t u):=by
 intro pins s σ H vs us Q I r h
 obtain⟨v,vr,e1,h⟩:=h
 subst e1
 cases r with
 | cons r rr=>
  rw [hs]
  refine assignInOrder_cons (thn (h1 pins s σ H _ _ _ I r h) fun _ s1 ⟨σ1,H1,I1,q1⟩=>?_)
  exact h2 pins s1 σ1 H1 _ _ Q I1 rr q1
noncomputable def ci1 (K:ae) (n:Nat) (t:TGs):TG:=fun v σ H Q=>∃ a xs,v=.ref a/\SqT K H a xs/\xs.length=n/\t xs σ H Q
theorem bl0 {es:List Expr} {k:Nat} {t:TGs} {n:Nat} (hc:X.calm=true) (h:PGs X es t)
  (hn:(cV es X.env).length=n:=by rfl) (hst:(cV es X.env).findIdx? (·.1)=none:=by rfl):PG X (.Tuple es k pos) (ci1 X.K n t):=by
 intro pins s σ H v u Q I r hw
 obtain⟨a,xs,e1,hq,hl,hw⟩:=hw
 subst e1
 cases r
 obtain⟨its,rv,ht,hz⟩:=I.tuple hq
 refine assign_Tuple_tuple (I.ok.hd hc) ht (by simp [hn,<- hl,rv.length]) hst fun h' hx=>?_
 have I1:Inv X pins σ H { s with heap:=h' }:=I.kept (t':=s.toks) fun b o e=>hx b o (aT (aN e)) e
 exact h pins _ σ H xs _ Q I1 (by simpa using rv) hw
noncomputable def ci0 (to ti:TE) (t:bd8):TG:=fun v σ H Q=>to σ H fun o H1=>ti σ H1 fun i H2=>t o i v H2 fun H3=>Q σ H3
theorem bk9 {o i:Expr} {to ti:TE} {t:bd8} (ho:PE X o to) (hi:PE X i ti) (hs:bd6 X t)
  (ha:∀ v,kS (.Subscript o i pos) X.env v=(do
   let ov <- lh [v] (eval o X.env)
   let iv <- lh [v,ov] (eval i X.env)
   standAt pos
   lh [v,ov,iv] (setItem ov iv v)
   release [v,ov,iv] []):=by intro _;rfl):PG X (.Subscript o i pos) (ci0 to ti t):=by
 intro pins s σ H v u Q I r h
 rw [ha]
 refine ag (bO (thn (ho pins s σ H _ I h) fun ov s1 ⟨x,H1,I1,r1,q1⟩=>?_))
 refine ag (bO (thn (hi pins s1 σ H1 _ I1 q1) fun iv s2 ⟨y,H2,I2,r2,q2⟩=>?_))
 refine ag (gI (ag (bO (thn (hs pins s2 σ H2 x y v ov iv u _ I2 r1 r2 r q2) fun _ s3 ⟨H3,I3,q3⟩=>?_))))
 exact wpAny_release ⟨σ,H3,I3,q3⟩
noncomputable def bt8 (te:TE) (g:TG):TS:=fun D σ H=>te σ H fun x H1=>g x σ H1 D.nx
theorem an7 {tg e:Expr} {te:TE} {g:TG} (he:PE X e te) (hg:PG X tg g) (hs:kH [tg] e pos.line X.env=pure false:=by rfl) (hw:swappedStores [tg] e X.env=pure none:=by rfl)
  (h1:(cV [tg] X.env).map (·.2)=[kS tg X.env]:=by rfl):PS X (.Assign [tg] e pos) (bt8 te g):=by
 intro pins s σ H D I h
 refine wpAny_Assign_stores (thn (he pins s σ H _ I h) fun v s1 ⟨x,H1,I1,r1,q1⟩=>?_) hs hw
 rw [h1]
 exact thn (hg pins s1 σ H1 x v _ I1 r1 q1) fun _ s2 q=>q
theorem bl4 {i:Nat} {x:Str} {e:Expr} {te:TE} {pos':Pos} (hN:X.N.Nodup) (hi:X.N[i]? = some x) (hx:Loc X.env.scope x) (he:PE X e te) (hs:iw e (some (.Name x pos')) pos.line X.env=pure false:=by rfl) (hf:X.fn x=true\/X.env.scope.names.lookup x=some .local:=by first|exact .inl rfl|exact .inr rfl|assumption) :
  PS X (.Assign [.Name x pos'] e pos) (bt8 te (ai7 i)):=by
 intro pins s σ H D I h
 refine wpAny_Assign_Name (thn (he pins s σ H _ I h) fun v s1 ⟨y,H1,I1,r1,q1⟩=>?_) hs
 exact Mf I1 hN hi hx r1 (fun s2 I2=>⟨_,H1,I2,q1⟩) hf
end
structure It where
 go:Nat->Hp->Prop
 yld:Nat->Hp->V->Hp->Prop
 stop:Nat->Hp->Prop
noncomputable def Ek (X:Cx) (pins:List (Addr×Obj)) (H:Hp) (b:Addr):Prop:=
 H b=none/\b≠X.env.locals/\b∉X.fs/\(b∈X.ex\/X.s₀.heap.objs.size<=b)/\(∀ x c,X.env.cells.lookup x=some c->c≠b) /\ ∀ p∈X.pn++pins,p.1≠b
theorem Inv.fpOk {X:Cx} {pins:List (Addr×Obj)} {σ:St} {H H':Hp} {s:al} {b:Addr} (I:Inv X pins σ H s) (hb:s.heap.objs.size<=b) (hn:H' b=none):Ek X pins H' b:=by
 refine⟨hn,d_ (aM I.lt hb),I.nofs hb,.inr (ax I.sz hb),fun x c e z=>?_,fun p hp z=>?_⟩
 ·obtain⟨v,q⟩:=I.cell x c e
  exact absurd (aM q.lt (by rw [z];exact hb)) (fA _)
 ·exact absurd (aM (aN (I.pin p hp).1) (by rw [z];exact hb)) (fA _)
structure Om (P:aW) (w:bE) (K:ae) (tg:Expr) (J:It) (fp:List Addr) (it:Addr) (tn:Nat->Heap->Prop):Prop where
 mem:it∈fp
 obj:∀ i h,tn i h -> ∀ b∈fp,∃ o,h.get? b=some o /\ ∀ v,o.data≠.cell v
 keep:∀ i h h',tn i h->(∀ b∈fp,∀ o,h.get? b=some o->h'.get? b=some o)->tn i h'
 item:∀ (X:Cx),X.prog=P->X.w=w->X.K=K->X.calm=true -> ∀ (i:Nat) (pins:List (Addr×Obj)) (s:al) (σ:St) (H:Hp) (E:Value->al->Prop),Inv X pins σ H s->(∀ b∈fp,Ek X pins H b)->tn i s.heap->J.go i H ->
  aV (model P w) X.A (gz (.ref it)) (fun r s1=>∃ u,r=some u /\
   aV (model P w) X.A (gT tg (.ref it) u) (fun _ s2=>∃ x H',Inv X pins σ H' s2/\RelV x u/\J.yld i H x H'/\tn (i+1) s2.heap /\ ∀ b∈fp,H' b=none) E s1) E s
 done:∀ (X:Cx),X.prog=P->X.w=w->X.K=K->X.calm=true -> ∀ (i:Nat) (pins:List (Addr×Obj)) (s:al) (σ:St) (H:Hp) (E:Value->al->Prop),Inv X pins σ H s->(∀ b∈fp,Ek X pins H b)->tn i s.heap->J.stop i H ->
  aV (model P w) X.A (gz (.ref it)) (fun r s1=>r=none/\Inv X pins σ H s1) E s
 self:∀ (A:bj) (i:Nat) (s:al) (Q:Value->al->Prop) (E:Value->al->Prop),tn i s.heap->Q (.ref it) s->aV (model P w) A (lB (.ref it)) Q E s
noncomputable abbrev TI:=St->Hp->(It->Hp->Prop)->Prop
noncomputable def PIE (X:Cx) (pins:List (Addr×Obj)) (σ:St) (tg:Expr) (R:It->Hp->Prop) (itv:Value) (s2:al):Prop:=
 ∃ (it:Addr) (fp:List Addr) (tn:Nat->Heap->Prop) (J:It) (H':Hp),itv=.ref it/\Inv X pins σ H' s2/\Om X.prog X.w X.K tg J fp it tn/\tn 0 s2.heap/\(∀ b∈fp,Ek X pins H' b)/\R J H'
noncomputable def PI (X:Cx) (tg iter:Expr) (wi:TI):Prop:=
 ∀ (pins:List (Addr×Obj)) (s:al) (σ:St) (H:Hp) (R:It->Hp->Prop),Inv X pins σ H s->wi σ H R ->
  aV (model X.prog X.w) X.A (eval iter X.env) (fun v s1=>aV (model X.prog X.w) X.A (lB v) (PIE X pins σ tg R) X.xe s1) X.xe s
theorem Np {M:Model} {A:bj} {E:Value->al->Prop} {s:al} {tg:Expr} {it:Addr} {u:Value} {o:Obj} {n:String} {vs:Array Value} {Q:Unit->al->Prop} (ho:s.heap.get? it=some o) (hc:o.cls=.type n) (hd:o.data=.fields vs)
    (hn:["enumerate", "zip", "dict_itemiterator", "dict_reverseitemiterator", "odict_iterator", "itertools.zip_longest", "itertools.pairwise"].contains n=false) (hQ:Q () s):aV M A (gT tg (.ref it) u) Q E s:=by
  unfold gT
  cases tg <;> first
    | exact ao hQ
    | (cases u <;> first
        | exact ao hQ
        | (refine ag (wpAny_load ho ?_)
           rw [hc,hd]
           show aV M A (if (["enumerate", "zip", "dict_itemiterator", "dict_reverseitemiterator", "odict_iterator", "itertools.zip_longest", "itertools.pairwise"].contains n&&vs[0]? == some (fQ _))=true then _ else _) Q E s
           rw [if_neg (by intro h;rw [hn,hV] at h;cases h)]
           exact ao hQ))
noncomputable def Itl (K:ae) (a:Addr):It:=
 ⟨fun i H=>∃ xs x,SqL K H a xs/\xs[i]? = some x,fun i H x H'=>H'=H /\ ∀ xs,SqL K H a xs->xs[i]? = some x,fun i H=>∃ xs,SqL K H a xs/\xs.length<=i⟩
noncomputable def Itt (K:ae) (a:Addr):It:=
 ⟨fun i H=>∃ xs x,SqT K H a xs/\xs[i]? = some x,fun i H x H'=>H'=H /\ ∀ xs,SqT K H a xs->xs[i]? = some x,fun i H=>∃ xs,SqT K H a xs/\xs.length<=i⟩
noncomputable def Itr (lo:Int) (n:Nat):It:=⟨fun i _=>i<n,fun i H x H'=>H'=H/\x=.int (lo+i),fun i _=>n<=i⟩
theorem aa4 {P:aW} {w:bE} {K:ae} {tg:Expr} (a it:Addr):Om P w K tg (Itl K a) [it] it (fun i h=>h.IsListIter it a i) where
 mem:=by simp
 obj:=fun i h st b hb=>by
  have e:b=it:=by simpa using hb
  subst e
  obtain⟨o,e,c,d⟩:=st
  exact⟨o,e,fun v z=>by rw [d] at z;cases z⟩
 keep:=fun i h h' st k=>st.at fun o e=>k it (by simp) o e
 item:=by
  intro X hP hw hK hc i pins s σ H E I hf st hg
  subst hP hw hK
  obtain⟨xs,x,hq,hx⟩:=hg
  obtain⟨its,rv,p,hz⟩:=I.list hq
  obtain⟨u,hu,ru⟩:=rv.get hx
  obtain⟨f0,f1,f2,f3,f4,f5⟩:=hf it (by simp)
  refine wpAny_pyNext_list_item st p.isList (x:=u) (by simpa using hu) fun h' st' sb=>?_
  have I1:Inv X pins σ H { s with heap:=h' }:=I.turned (t':=s.toks) (fun b o hb e=>(sb.2 b hb).trans e) f0 f1 f3 f4 f5
  obtain⟨o,e,c,d⟩:=id st'
  exact⟨u,rfl,Np (s:={ s with heap:=h' }) e c d (by decide) ⟨x,H,I1,ru,⟨rfl,fun ys hy=>by rw [I.list_inj hy hq];exact hx⟩,st',fun b hb=>(hf b hb).1⟩⟩
 done:=by
  intro X hP hw hK hc i pins s σ H E I hf st hg
  subst hP hw hK
  obtain⟨xs,hq,hx⟩:=hg
  obtain⟨its,rv,p,hz⟩:=I.list hq
  obtain⟨f0,f1,f2,f3,f4,f5⟩:=hf it (by simp)
  have hl:=rv.length
  exact wpAny_pyNext_list_end (I.ok.hd hc) st p.isList (by simp;omega) fun h' eb=>⟨rfl,I.turned (t':=s.toks) (fun b o hb e=>eb b o hb e) f0 f1 f3 f4 f5⟩
 self:=fun _ _ _ _ _ st h=>wpAny_pyIter_listiter st h
theorem Wz {P:aW} {w:bE} {K:ae} {tg:Expr} (a it:Addr):Om P w K tg (Itt K a) [it] it (fun i h=>h.IsTupleIter it a i) where
 mem:=by simp
 obj:=fun i h st b hb=>by
  have e:b=it:=by simpa using hb
  subst e
  obtain⟨o,e,c,d⟩:=st
  exact⟨o,e,fun v z=>by rw [d] at z;cases z⟩
 keep:=fun i h h' st k=>st.at fun o e=>k it (by simp) o e
 item:=by
  intro X hP hw hK hc i pins s σ H E I hf st hg
  subst hP hw hK
  obtain⟨xs,x,hq,hx⟩:=hg
  obtain⟨its,rv,p,hz⟩:=I.tuple hq
  obtain⟨u,hu,ru⟩:=rv.get hx
  obtain⟨f0,f1,f2,f3,f4,f5⟩:=hf it (by simp)
  refine wpAny_pyNext_tuple_item st (show s.heap.IsTuple a its.toArray from p) (x:=u) (by simpa using hu) fun h' st' sb=>?_
  have I1:Inv X pins σ H { s with heap:=h' }:=I.turned (t':=s.toks) (fun b o hb e=>(sb.2 b hb).trans e) f0 f1 f3 f4 f5
  obtain⟨o,e,c,d⟩:=id st'
  exact⟨u,rfl,Np (s:={ s with heap:=h' }) e c d (by decide) ⟨x,H,I1,ru,⟨rfl,fun ys hy=>by rw [I.tuple_inj hy hq];exact hx⟩,st',fun b hb=>(hf b hb).1⟩⟩
 done:=by
  intro X hP hw hK hc i pins s σ H E I hf st hg
  subst hP hw hK
  obtain⟨xs,hq,hx⟩:=hg
  obtain⟨its,rv,p,hz⟩:=I.tuple hq
  obtain⟨f0,f1,f2,f3,f4,f5⟩:=hf it (by simp)
  have hl:=rv.length
  exact wpAny_pyNext_tuple_end (I.ok.hd hc) st (show s.heap.IsTuple a its.toArray from p) (by simp;omega) fun h' eb=>⟨rfl,I.turned (t':=s.toks) (fun b o hb e=>eb b o hb e) f0 f1 f3 f4 f5⟩
 self:=fun _ _ _ _ _ st h=>wpAny_pyIter_tupleiter st h
theorem Wy {P:aW} {w:bE} {K:ae} {tg:Expr} (it:Addr) (lo:Int) (n:Nat):Om P w K tg (Itr lo n) [it] it (fun i h=>jU h it (lo+(i:Nat) * 1) ((n:Int) - (i:Nat)) 1) where
 mem:=by simp
 obj:=fun i h st b hb=>by
  have e:b=it:=by simpa using hb
  subst e
  exact⟨_,st,fun v z=>by
   have z':Data.fields _=Data.cell v:=z
   cases z'⟩
 keep:=fun i h h' st k=>k it (by simp) _ st
 item:=by
  intro X hP hw hK hc i pins s σ H E I hf st hg
  subst hP hw hK
  obtain⟨f0,f1,f2,f3,f4,f5⟩:=hf it (by simp)
  have W:=Walks.range (prog:=X.prog) (w:=X.w) (I.ok.hd hc) it lo 1 n
  refine bI (ak _) (W.item i s _ _ hg st fun v h' tk hv st' kk htk=>?_)
  obtain⟨t,rfl⟩:=hv
  have I1:Inv X pins σ H { s with heap:=h',toks:=tk }:=I.turned (fun b o hb e=>kk b o (by simpa using hb) e) f0 f1 f3 f4 f5
  refine⟨_,rfl,Np (s:={ s with heap:=h',toks:=tk }) (n := "range_iterator") st' rfl rfl (by decide) ⟨.int (lo+i),H,I1,⟨t,?_⟩,⟨rfl,rfl⟩,st',fun b hb=>(hf b hb).1⟩⟩
  rw [Int.mul_one]
 done:=by
  intro X hP hw hK hc i pins s σ H E I hf st hg
  subst hP hw hK
  obtain⟨f0,f1,f2,f3,f4,f5⟩:=hf it (by simp)
  exact je (I.ok.hd hc) st (by have:n<=i:=hg;omega) fun h' eb=>⟨rfl,I.turned (t':=s.toks) (fun b o hb e=>eb b o hb e) f0 f1 f3 f4 f5⟩
 self:=fun _ _ _ _ _ st h=>jc st h
section
variable {X:Cx} {tg:Expr}
theorem Th {pins:List (Addr×Obj)} {σ:St} {H:Hp} {s:al} {R:It->Hp->Prop} {E:Value->al->Prop} {lo hi:Int} {t u v:Tok} {tk:Nat} (I:Inv X pins σ H s) (htk:s.toks<=tk) (h1:-(2 ^ 62)<=lo) (h2:lo<2 ^ 62) (h3:-(2 ^ 62)<=hi) (h4:hi<2 ^ 62)
  (q:R (Itr lo (hi - lo).toNat) H):aV (model X.prog X.w) X.A (lB (.ref s.heap.objs.size)) (PIE X pins σ tg R) E { s with heap:=s.heap.push { cls:=.type "range", data:=.fields #[.int lo t,.int hi u,.int 1 v] },toks:=tk }:=by
 refine kI (IsRange.new ..) (small_one h1 h2 h3 h4) ?_
 have I1:Inv X pins σ H { s with heap:=s.heap.push { cls:=.type "range", data:=.fields #[.int lo t,.int hi u,.int 1 v] },toks:=tk }:=I.kept fun b o e=>aj _ e
 refine⟨(s.heap.push { cls:=.type "range", data:=.fields #[.int lo t,.int hi u,.int 1 v] }).objs.size,[(s.heap.push { cls:=.type "range", data:=.fields #[.int lo t,.int hi u,.int 1 v] }).objs.size],_,_,H,rfl,
  I1.kept (t':=tk) fun b o e=>aj _ e,Wy _ lo (hi - lo).toNat,?_,fun b hb=>?_,q⟩
 ·have e1:lo+((0:Nat):Int) * 1=lo:=by simp
  have e2:(((hi - lo).toNat:Nat):Int) - ((0:Nat):Int)=ck lo hi 1:=by rw [rangeSize_one];split <;> omega
  show jU _ _ (lo+((0:Nat):Int) * 1) ((((hi - lo).toNat:Nat):Int) - ((0:Nat):Int)) 1
  rw [e1,e2]
  exact aK _ rfl
 ·have e:b=(s.heap.push { cls:=.type "range", data:=.fields #[.int lo t,.int hi u,.int 1 v] }).objs.size:=by simpa using hb
  subst e
  exact I1.fpOk (ak _) (I1.hok.fresh (ak _))
noncomputable def cj7 (wi:TI) (g:TG) (tb:TS):TS:=fun D σ H=>wi σ H fun J H1=>∃ W:Nat->Nat->St->Hp->Prop,(∃ m,W 0 m σ H1) /\ ∀ i m σ H,W i m σ H ->
 (J.stop i H/\D.nx σ H)\/(J.go i H /\ ∃ N:St->Hp->Prop,(∀ σ' H',N σ' H' -> ∃ m',m'<m/\W (i+1) m' σ' H') /\ ∀ x H',J.yld i H x H'->g x σ H' fun σ2 H2=>tb { D with nx:=N,ct:=N,bk:=D.nx } σ2 H2)
noncomputable def Ix (fp:List Addr) (h:Heap):List (Addr×Obj):=fp.filterMap fun b=>(h.get? b).map fun o=>(b,o)
theorem E6 {fp:List Addr} {h:Heap} {b:Addr} {o:Obj} (hb:b∈fp) (e:h.get? b=some o):(b,o)∈Ix fp h:=List.mem_filterMap.mpr ⟨b,hb,by rw [e];rfl⟩
theorem Zu {fp:List Addr} {h:Heap} {p:Addr×Obj} (hp:p∈Ix fp h):p.1∈fp/\h.get? p.1=some p.2:=by
 obtain⟨b,hb,e⟩:=List.mem_filterMap.mp hp
 cases q:h.get? b with
 | none=>rw [q] at e;cases e
 | some o=>
  rw [q] at e
  have e':(b,o)=p:=aE e
  subst e'
  exact⟨hb,q⟩
theorem Inv.pinned {pins:List (Addr×Obj)} {σ:St} {H:Hp} {s:al} {fp:List Addr} (I:Inv X pins σ H s) (hf:∀ b∈fp,Ek X pins H b) (ho:∀ b∈fp,∃ o,s.heap.get? b=some o /\ ∀ v,o.data≠.cell v):Inv X (pins++Ix fp s.heap) σ H s:=
 I.pins_of fun p hp=>(List.mem_append.mp hp).elim (fun z=>I.pin p (ba _ z)) fun z=>by
  obtain⟨hb,e⟩:=Zu z
  obtain⟨f0,f1,f2,_⟩:=hf p.1 hb
  obtain⟨o,e',d⟩:=ho p.1 hb
  rw [e] at e';cases e'
  exact⟨e,f0,f1,f2,d⟩
theorem Inv.unpinned {pins pl:List (Addr×Obj)} {σ:St} {H:Hp} {s:al} (I:Inv X (pins++pl) σ H s):Inv X pins σ H s:=I.pins_of fun p hp=>I.pin p (ba _ (c8 _ hp))
theorem bl2 {iter:Expr} {body:List Stmt} {wi:TI} {g:TG} {tb:TS} {pos:Pos} (hp:ku (model X.prog X.w) X.A X.env X.xe) (hc:X.calm=true) (hi:PI X tg iter wi) (hg:PG X tg g) (hb:PSs X body tb)
  (hs:∀ x,eF iter X.env x=pure x:=by intro _;rfl):PS X (.For tg iter body [] pos) (cj7 wi g tb):=by
 intro pins s σ H D I h
 refine wpAny_For (thn (hi pins s σ H _ I h) fun v s1 h1=>thn h1 fun itv s2 h2=>?_) hs
 obtain⟨it,fp,tn,J,H2,e,I2,T,st2,f2,W,⟨m0,w0⟩,turn⟩:=h2
 subst e
 have stat:∀ {H':Hp},(∀ b∈fp,H' b=none) -> ∀ b∈fp,Ek X pins H' b:=fun hn b hb=>⟨hn b hb,(f2 b hb).2⟩
 refine codeAny_forLoop_any (fun n s'=>∃ i σ' H',Inv X pins σ' H' s'/\tn i s'.heap/\(∀ b∈fp,H' b=none)/\W i n σ' H') ?_ m0 ⟨0,σ,H2,I2,st2,fun b hb=>(f2 b hb).1,w0⟩
 rintro n s3 ⟨i,σ3,H3,I3,st3,fr3,w3⟩
 rcases turn i n σ3 H3 w3 with ⟨stop,qn⟩|⟨go,N,hN,step⟩
 ·refine fK hp (thn (T.done X rfl rfl rfl hc i pins s3 σ3 H3 X.xe I3 (stat fr3) st3 stop) fun r s4 ⟨hr,I4⟩=>?_)
  subst hr
  exact jE ⟨σ3,H3,I4,qn⟩
 ·refine fK hp (thn (T.item X rfl rfl rfl hc i pins s3 σ3 H3 X.xe I3 (stat fr3) st3 go) fun r s4 ⟨u,hr,h4⟩=>?_)
  subst hr
  refine fK hp (thn h4 fun _ s5 ⟨x,H5,I5,r5,y5,st5,fr5⟩=>?_)
  have I5':=I5.pinned (stat fr5) (T.obj _ _ st5)
  refine fK hp (thn (hg _ s5 σ3 H5 x u _ I5' r5 (step x H5 y5)) fun _ s6 ⟨σ6,H6,I6,q6⟩=>?_)
  refine fK hp (thn (hb _ s6 σ6 H6 _ I6 q6) fun f s7 q7=>?_)
  have again:∀ {σ7:St} {H7:Hp},Inv X (pins++Ix fp s5.heap) σ7 H7 s7->N σ7 H7 -> ∃ m,m<n /\ ∃ i σ' H',Inv X pins σ' H' s7/\tn i s7.heap/\(∀ b∈fp,H' b=none)/\W i m σ' H':=fun {σ7 H7} I7 n7=>by
   obtain⟨m',hm,w7⟩:=hN σ7 H7 n7
   refine⟨m',hm,i+1,σ7,H7,I7.unpinned,T.keep _ _ _ st5 fun b hb o e=>(I7.pin (b,o) (ba _ (ba _ (E6 hb e)))).1,fun b hb=>?_,w7⟩
   obtain⟨o,e,d⟩:=T.obj _ _ st5 b hb
   exact (I7.pin (b,o) (ba _ (ba _ (E6 hb e)))).2.1
  cases f with
  | next=>obtain⟨σ7,H7,I7,n7⟩:=q7;exact again I7 n7
  | cont=>obtain⟨σ7,H7,I7,n7⟩:=q7;exact again I7 n7
  | brk=>obtain⟨σ7,H7,I7,q7⟩:=q7;exact⟨σ7,H7,I7.unpinned,q7⟩
  | ret v=>obtain⟨x7,σ7,H7,I7,r7,q7⟩:=q7;exact⟨x7,σ7,H7,I7.unpinned,r7,q7⟩
end
noncomputable abbrev R2:=V->V->Hp->VK->Prop
noncomputable def OpR (X:Cx) (f:Value->Value->Sem Value) (r:R2):Prop:=
 ∀ (pins:List (Addr×Obj)) (s:al) (σ:St) (H:Hp) (x y:V) (v u:Value) (Q:VK),Inv X pins σ H s->RelV x v->RelV y u->r x y H Q ->
  aV (model X.prog X.w) X.A (f v u) (EP X pins σ Q) X.xe s
noncomputable def UnR (X:Cx) (f:Value->Sem Value) (r:V->Hp->VK->Prop):Prop:=
 ∀ (pins:List (Addr×Obj)) (s:al) (σ:St) (H:Hp) (x:V) (v:Value) (Q:VK),Inv X pins σ H s->RelV x v->r x H Q ->
  aV (model X.prog X.w) X.A (f v) (EP X pins σ Q) X.xe s
noncomputable def C3 (X:Cx) (f:Value) (r:List V->Hp->VK->Prop):Prop:=
 ∀ (pins:List (Addr×Obj)) (s:al) (σ:St) (H:Hp) (xs:List V) (us:List Value) (Q:VK),Inv X pins σ H s->Vals xs us->r xs H Q ->
  aV (model X.prog X.w) X.A (call f us) (EP X pins σ Q) X.xe s
noncomputable def bx1 (X:Cx) (r:V->Hp->(Bool->Hp->Prop)->Prop):Prop:=
 ∀ (pins:List (Addr×Obj)) (s:al) (σ:St) (H:Hp) (x:V) (v:Value) (Q:Bool->Hp->Prop),Inv X pins σ H s->RelV x v->r x H Q ->
  aV (model X.prog X.w) X.A (truthy v) (TP X pins σ Q) X.xe s
noncomputable def tOp (r:R2) (ta tb:TE):TE:=fun σ H Q=>ta σ H fun x H1=>tb σ H1 fun y H2=>r x y H2 Q
noncomputable def tUn (r:V->Hp->VK->Prop) (ta:TE):TE:=fun σ H Q=>ta σ H fun x H1=>r x H1 Q
noncomputable def rI (C:Int->Int->Prop) (g:Int->Int->V):R2:=fun x y H Q=>∃ i j,x=.int i/\y=.int j/\C i j/\Q (g i j) H
noncomputable def rI0 (g:Int->Int->V):R2:=fun x y H Q=>∃ i j,x=.int i/\y=.int j/\Q (g i j) H
noncomputable def rU (g:Int->V):V->Hp->VK->Prop:=fun x H Q=>∃ i,x=.int i/\Q (g i) H
section
variable {X:Cx} {a b c:Expr} {ta tb tc:TE} {pos:Pos}
theorem be2 (ha:PE X a ta) (hb:PE X b tb) {pins:List (Addr×Obj)} {s:al} {σ:St} {H:Hp} {R:V->V->Hp->Prop} (I:Inv X pins σ H s)
  (h:ta σ H fun x H1=>tb σ H1 fun y H2=>R x y H2) {Q:Value->al->Prop} {f:Value->Value->Sem Value}
  (hf:∀ v u s2 x y H2,Inv X pins σ H2 s2->RelV x v->RelV y u->R x y H2->aV (model X.prog X.w) X.A (f v u) Q X.xe s2) :
  aV (model X.prog X.w) X.A (eval a X.env) (fun v s₁=>aV (model X.prog X.w) X.A (eval b X.env) (fun u s₂=>aV (model X.prog X.w) X.A (f v u) Q X.xe s₂) X.xe s₁) X.xe s:=by
 refine thn (ha pins s σ H _ I h) fun v s1 ⟨x,H1,I1,r1,q1⟩=>?_
 refine thn (hb pins s1 σ H1 _ I1 q1) fun u s2 ⟨y,H2,I2,r2,q2⟩=>?_
 exact hf v u s2 x y H2 I2 r1 r2 q2
theorem b42 {op:lF} {r:R2} (ho:OpR X (dA op) r) (ha:PE X a ta) (hb:PE X b tb):PE X (.BinOp a op b pos) (tOp r ta tb):=by
 intro pins s σ H Q I h
 exact wpAny_BinOp (be2 ha hb I h fun v u s2 x y H2 I2 rx ry q=>ho pins s2 σ H2 x y v u Q I2 rx ry q)
theorem a85 {op:UnaryOp} {r:V->Hp->VK->Prop} (ho:UnR X (lK op) r) (ha:PE X a ta):PE X (.UnaryOp op a pos) (tUn r ta):=by
 intro pins s σ H Q I h
 exact UnaryOp_ (thn (ha pins s σ H _ I h) fun v s1 ⟨x,H1,I1,r1,q1⟩=>ho pins s1 σ H1 x v Q I1 r1 q1)
theorem opI {f:Value->Value->Sem Value} {C:Int->Int->Prop} {g:Int->Int->Int}
  (rule:∀ (i j:Int) (t u:Tok) (s:al) (Q:Value->al->Prop) (E:Value->al->Prop),C i j->Q (.int (g i j) s.toks) { s with toks:=s.toks+1 }->aV (model X.prog X.w) X.A (f (.int i t) (.int j u)) Q E s) :
  OpR X f (rI C fun i j=>.int (g i j)):=by
 intro pins s σ H x y v u Q I rx ry h
 obtain⟨i,j,rfl,rfl,hc,q⟩:=h
 obtain⟨t,rfl⟩:=rx
 obtain⟨t',rfl⟩:=ry
 exact rule i j t t' s _ _ hc ⟨.int (g i j),H,I.tok _,⟨_,rfl⟩,q⟩
theorem am6 {f:Value->Value->Sem Value} {g:Int->Int->Int}
  (rule:∀ (i j:Int) (t u:Tok) (s:al) (Q:Value->al->Prop) (E:Value->al->Prop),Q (.int (g i j) s.toks) { s with toks:=s.toks+1 }->aV (model X.prog X.w) X.A (f (.int i t) (.int j u)) Q E s) :
  OpR X f (rI0 fun i j=>.int (g i j)):=by
 intro pins s σ H x y v u Q I rx ry h
 obtain⟨i,j,rfl,rfl,q⟩:=h
 obtain⟨t,rfl⟩:=rx
 obtain⟨t',rfl⟩:=ry
 exact rule i j t t' s _ _ ⟨.int (g i j),H,I.tok _,⟨_,rfl⟩,q⟩
theorem az3 {f:Value->Value->Sem Value} {g:Int->Int->Bool}
  (rule:∀ (i j:Int) (t u:Tok) (s:al) (Q:Value->al->Prop) (E:Value->al->Prop),Q (.bool (g i j)) s->aV (model X.prog X.w) X.A (f (.int i t) (.int j u)) Q E s) :
  OpR X f (rI0 fun i j=>.bl (g i j)):=by
 intro pins s σ H x y v u Q I rx ry h
 obtain⟨i,j,rfl,rfl,q⟩:=h
 obtain⟨t,rfl⟩:=rx
 obtain⟨t',rfl⟩:=ry
 exact rule i j t t' s _ _ ⟨.bl (g i j),H,I,rfl,q⟩
noncomputable def bw8 (i j:Int):Prop:=0<j/\j<1073741824
noncomputable def au0 (i j:Int):Prop:=0<=j/\j<=1000000/\i.natAbs<2 ^ 64
noncomputable def CMul (i j:Int):Prop:=(-(2 ^ 64)<i/\i<2 ^ 64)\/(-(2 ^ 64)<j/\j<2 ^ 64)
theorem CMul.ok {i j:Int} (h:CMul i j):IntMulOk i j:=by
 rcases h with ⟨h1,h2⟩|⟨h1,h2⟩
 ·exact .of_left (intBits_le_64 h1 h2)
 ·exact .of_right (intBits_le_64 h1 h2)
theorem W0 (k:Nat):(0:Int)<=2 ^ k:=by
 rw [two_pow_cast]
 exact Int.natCast_nonneg _
theorem bi8:OpR X (dA .Add) (rI0 fun i j=>.int (i+j)):=am6 fun _ _ _ _ _ _ _ q=>add_int q
theorem bj8:OpR X (dA .Sub) (rI0 fun i j=>.int (i - j)):=am6 fun _ _ _ _ _ _ _ q=>sub_int q
theorem bj3:OpR X (dA .Mult) (rI CMul fun i j=>.int (i * j)):=opI fun _ _ _ _ _ _ _ hc q=>mul_int q hc.ok
theorem az5:OpR X (dA .FloorDiv) (rI bw8 fun i j=>.int (i / j)):=opI fun i j _ _ _ _ _ hc q=>by
 have h1:(0:Int)<j:=hc.1
 have h2:j<1073741824:=hc.2
 exact floordiv_int (by omega) (by rw [gZ i (by omega)];exact q) (.inl (i_ (by omega)))
theorem bj2:OpR X (dA .Mod) (rI (fun _ j=>0<j) fun i j=>.int (i % j)):=opI fun i j _ _ _ _ _ hc q=>by
 have h1:(0:Int)<j:=hc
 exact mod_int' (by omega) (by rw [Int.fmod_eq_emod_of_nonneg i (by omega)];exact q)
theorem bj5:OpR X (dA .Pow) (rI au0 fun i j=>.int (i ^ j.toNat)):=opI fun _ _ _ _ _ _ _ hc q=>pow_int_small hc.1 hc.2.1 hc.2.2 q
theorem bj6:OpR X (dA .LShift) (rI au0 fun i j=>.int (i * 2 ^ j.toNat)):=opI fun _ _ _ _ _ _ _ hc q=>lshift_int_small hc.1 hc.2.1 hc.2.2 q
theorem bj7:OpR X (dA .RShift) (rI (fun _ j=>0<=j) fun i j=>.int (i / 2 ^ j.toNat)):=opI fun i j _ _ _ _ _ hc q=>
 rshift_int hc (by rw [gZ i (W0 _)];exact q)
theorem bi9:OpR X (dA .BitAnd) (rI0 fun i j=>.int (aS i j)):=am6 fun _ _ _ _ _ _ _ q=>and_int q
theorem b37:OpR X (dA .BitOr) (rI0 fun i j=>.int (cD i j)):=am6 fun _ _ _ _ _ _ _ q=>or_int q
theorem bj9:OpR X (dA .BitXor) (rI0 fun i j=>.int (Builtin.bitXor i j)):=am6 fun _ _ _ _ _ _ _ q=>xor_int q
theorem unI {f:Value->Sem Value} {g:Int->Int}
  (rule:∀ (i:Int) (t:Tok) (s:al) (Q:Value->al->Prop) (E:Value->al->Prop),Q (.int (g i) s.toks) { s with toks:=s.toks+1 }->aV (model X.prog X.w) X.A (f (.int i t)) Q E s) :
  UnR X f (rU fun i=>.int (g i)):=by
 intro pins s σ H x v Q I rx h
 obtain⟨i,rfl,q⟩:=h
 obtain⟨t,rfl⟩:=rx
 exact rule i t s _ _ ⟨.int (g i),H,I.tok _,⟨_,rfl⟩,q⟩
theorem bu2:UnR X (lK .USub) (rU fun i=>.int (-i)):=unI fun _ _ _ _ _ q=>neg_int q
theorem bu1:UnR X (lK .Invert) (rU fun i=>.int (be i)):=unI fun _ _ _ _ _ q=>invert_int q
end
noncomputable def bt5:V->V->Bool
 | .non,.non=>true | .non,.int _=>true | .int _,.non=>true | .non,.bl _=>true | .bl _,.non=>true | .non,.str _=>true | .str _,.non=>true
 | .int _,.int _=>true | .bl _,.bl _=>true | .str _,.str _=>true | .byt _,.byt _=>true
 | .int _,.str _=>true | .str _,.int _=>true | .bl _,.str _=>true | .str _,.bl _=>true
 | _,_=>false
noncomputable def rEq:R2:=fun x y H Q=>bt5 x y=true/\Q (.bl (decide (x=y))) H
noncomputable def rNe:R2:=fun x y H Q=>bt5 x y=true/\Q (.bl (!decide (x=y))) H
theorem J0 {i j:Int}:decide (V.int i=V.int j)=(i==j):=by
 rw [bH]
 simp
theorem O9 {i j:Bool}:decide (V.bl i=V.bl j)=(i==j):=by
 rw [bH]
 simp
theorem J1 {i j:Str}:decide (V.str i=V.str j)=(i==j):=by
 rw [bH]
 simp
theorem Xi {i j:Array UInt8}:decide (V.byt i=V.byt j)=(i.toList==j.toList):=by
 rw [bH]
 cases i
 cases j
 simp
section
variable {X:Cx} {a b c:Expr} {ta tb tc:TE} {pos:Pos}
theorem A7 {pins:List (Addr×Obj)} {σ:St} {H:Hp} {s:al} {Q:VK} {k k':Bool} (I:Inv X pins σ H s) (q:Q (.bl k) H) (e:k=k'):EP X pins σ Q (.bool k') s:=by
 subst e
 exact⟨.bl k,H,I,rfl,q⟩
theorem Xx:OpR X (cu .Eq) rEq:=by
 intro pins s σ H x y v u Q I rx ry h
 obtain⟨hs,q⟩:=h
 cases x with
 | non=>
  cases rx
  cases y with
  | non=>cases ry;exact PySem.EqNone.eq_none_none (A7 I q (by simp))
  | bl j=>cases ry;exact PySem.EqNone.eq_none_bool (A7 I q (by simp))
  | int j=>obtain⟨t',rfl⟩:=ry;exact PySem.EqNone.eq_none_int (A7 I q (by simp))
  | str j=>obtain⟨t',rfl⟩:=ry;exact PySem.EqNone.eq_none_str (A7 I q (by simp))
  | _=>exact absurd (show false=true from hs) am
 | bl i=>
  cases rx
  cases y with
  | non=>cases ry;exact PySem.EqNone.eq_bool_none (A7 I q (by simp))
  | bl j=>cases ry;exact eq_bool (A7 I q O9)
  | str j=>obtain⟨t',rfl⟩:=ry;exact PySem.EqMixed.eq_bool_str (A7 I q (by simp))
  | _=>exact absurd (show false=true from hs) am
 | int i=>
  obtain⟨t,rfl⟩:=rx
  cases y with
  | non=>cases ry;exact PySem.EqNone.eq_int_none (A7 I q (by simp))
  | int j=>obtain⟨t',rfl⟩:=ry;exact eq_int (A7 I q J0)
  | str j=>obtain⟨t',rfl⟩:=ry;exact PySem.EqMixed.eq_int_str (A7 I q (by simp))
  | _=>exact absurd (show false=true from hs) am
 | str i=>
  obtain⟨t,rfl⟩:=rx
  cases y with
  | non=>cases ry;exact PySem.EqNone.eq_str_none (A7 I q (by simp))
  | bl j=>cases ry;exact PySem.EqMixed.eq_str_bool (A7 I q (by simp))
  | int j=>obtain⟨t',rfl⟩:=ry;exact PySem.EqMixed.eq_str_int (A7 I q (by simp))
  | str j=>obtain⟨t',rfl⟩:=ry;exact eq_str (A7 I q J1)
  | _=>exact absurd (show false=true from hs) am
 | byt i=>
  obtain⟨t,rfl⟩:=rx
  cases y with
  | byt j=>obtain⟨t',rfl⟩:=ry;exact PySem.W.eq_bytes (A7 I q Xi)
  | _=>exact absurd (show false=true from hs) am
 | _=>cases y <;> exact absurd (show false=true from hs) am
theorem Xy:OpR X (cu .NotEq) rNe:=by
 intro pins s σ H x y v u Q I rx ry h
 obtain⟨hs,q⟩:=h
 cases x with
 | non=>
  cases rx
  cases y with
  | non=>cases ry;exact PySem.EqNone.ne_none_none (A7 I q (by simp))
  | bl j=>cases ry;exact PySem.EqNone.ne_none_bool (A7 I q (by simp))
  | int j=>obtain⟨t',rfl⟩:=ry;exact PySem.EqNone.ne_none_int (A7 I q (by simp))
  | str j=>obtain⟨t',rfl⟩:=ry;exact PySem.EqNone.ne_none_str (A7 I q (by simp))
  | _=>exact absurd (show false=true from hs) am
 | bl i=>
  cases rx
  cases y with
  | non=>cases ry;exact PySem.EqNone.ne_bool_none (A7 I q (by simp))
  | bl j=>cases ry;exact ne_bool (A7 I q (congrArg not O9))
  | str j=>obtain⟨t',rfl⟩:=ry;exact PySem.EqMixed.ne_bool_str (A7 I q (by simp))
  | _=>exact absurd (show false=true from hs) am
 | int i=>
  obtain⟨t,rfl⟩:=rx
  cases y with
  | non=>cases ry;exact PySem.EqNone.ne_int_none (A7 I q (by simp))
  | int j=>obtain⟨t',rfl⟩:=ry;exact ne_int (A7 I q (congrArg not J0))
  | str j=>obtain⟨t',rfl⟩:=ry;exact PySem.EqMixed.ne_int_str (A7 I q (by simp))
  | _=>exact absurd (show false=true from hs) am
 | str i=>
  obtain⟨t,rfl⟩:=rx
  cases y with
  | non=>cases ry;exact PySem.EqNone.ne_str_none (A7 I q (by simp))
  | bl j=>cases ry;exact PySem.EqMixed.ne_str_bool (A7 I q (by simp))
  | int j=>obtain⟨t',rfl⟩:=ry;exact PySem.EqMixed.ne_str_int (A7 I q (by simp))
  | str j=>obtain⟨t',rfl⟩:=ry;exact ne_str (A7 I q (congrArg not J1))
  | _=>exact absurd (show false=true from hs) am
 | byt i=>
  obtain⟨t,rfl⟩:=rx
  cases y with
  | byt j=>obtain⟨t',rfl⟩:=ry;exact PySem.W.ne_bytes (A7 I q (congrArg not Xi))
  | _=>exact absurd (show false=true from hs) am
 | _=>cases y <;> exact absurd (show false=true from hs) am
theorem b36:OpR X (cu .Lt) (rI0 fun i j=>.bl (decide (i<j))):=az3 fun _ _ _ _ _ _ _ q=>lt_int q
theorem b35:OpR X (cu .LtE) (rI0 fun i j=>.bl (decide (i<=j))):=az3 fun _ _ _ _ _ _ _ q=>le_int q
theorem b34:OpR X (cu .Gt) (rI0 fun i j=>.bl (decide (j<i))):=az3 fun _ _ _ _ _ _ _ q=>gt_int q
theorem b33:OpR X (cu .GtE) (rI0 fun i j=>.bl (decide (j<=i))):=az3 fun _ _ _ _ _ _ _ q=>ge_int q
theorem Zw:OpR X (cu .Lt) (fun x y H Q=>∃ i j,x=.str i/\y=.str j/\Q (.bl (decide (i.cps.toList<j.cps.toList))) H):=by
 intro pins s σ H x y v u Q I rx ry h
 obtain⟨i,j,rfl,rfl,q⟩:=h
 obtain⟨t,rfl⟩:=rx
 obtain⟨t',rfl⟩:=ry
 exact lt_str (A7 I q rfl)
theorem bj1:OpR X (cu .Is) (fun x y H Q=>y=.non/\Q (.bl (decide (x=.non))) H):=by
 intro pins s σ H x y v u Q I rx ry h
 obtain⟨rfl,q⟩:=h
 cases ry
 refine is_none_gen (A7 I q ?_)
 cases x <;> first
  | (cases rx;rfl)
  | (obtain⟨t,rfl⟩:=rx;rfl)
  | (obtain⟨t,rfl,_⟩:=rx;rfl)
theorem az6:OpR X (cu .IsNot) (fun x y H Q=>y=.non/\Q (.bl (!decide (x=.non))) H):=by
 intro pins s σ H x y v u Q I rx ry h
 obtain⟨rfl,q⟩:=h
 cases ry
 refine isnot_none_gen (A7 I q ?_)
 cases x <;> first
  | (cases rx;rfl)
  | (obtain⟨t,rfl⟩:=rx;rfl)
  | (obtain⟨t,rfl,_⟩:=rx;rfl)
theorem OpR.or {f:Value->Value->Sem Value} {r r':R2} (h:OpR X f r) (h':OpR X f r'):OpR X f (fun x y H Q=>r x y H Q\/r' x y H Q):=by
 intro pins s σ H x y v u Q I rx ry q
 rcases q with q|q
 ·exact h pins s σ H x y v u Q I rx ry q
 ·exact h' pins s σ H x y v u Q I rx ry q
theorem az9 {op:lC} {r:R2} (ho:OpR X (cu op) r) (ha:PE X a ta) (hb:PE X b tb) (hm:iJ op b=false):PE X (.Compare a [op] [b] pos) (tOp r ta tb):=by
 intro pins s σ H Q I h
 exact wpAny_Compare1 (be2 ha hb I h fun v u s2 x y H2 I2 rx ry q=>ho pins s2 σ H2 x y v u Q I2 rx ry q) hm
noncomputable def bx2 (K:ae) (x:V) (H:Hp) (k:Bool):Prop:=
 match x with
 | .non=>k=false
 | .bl b=>k=b
 | .int i=>k=(i != 0)
 | .str y=>y.length<=sizeLine/\k=((y.length:Int) != 0)
 | .byt y=>y.size<=sizeLine/\k=((y.size:Int) != 0)
 | .ref p=>(∃ xs,SqL K H p xs/\k = !xs.isEmpty)\/(∃ xs,SqT K H p xs/\k = !xs.isEmpty) \/ ∃ kvs,H p=some (.dK kvs)/\k = !kvs.isEmpty
 | _=>False
theorem U2 {κ:Type} {kvs:List (κ×V)} {vs:List (κ×Value)} (r:KV kvs vs):(!vs.isEmpty) = !kvs.isEmpty:=by
 cases r <;> rfl
theorem Kv {xs:List V} {its:List Value} (r:Vals xs its):(!its.toArray.isEmpty) = !xs.isEmpty:=by
 cases r <;> simp
theorem Gw:(sizeLine:Nat)<2 ^ 63:=by rw [c5];decide
theorem Mj:bx1 X (fun x H Q=>∃ k,bx2 X.K x H k/\Q k H):=by
 intro pins s σ H x v Q I rx h
 obtain⟨k,e,q⟩:=h
 have hl:=Gw
 have hs:sizeLine=16777216:=c5
 cases x with
 | non=>
  cases rx
  have e':k=false:=e
  subst e'
  exact truthy_none ⟨H,I,q⟩
 | bl b=>
  cases rx
  have e':k=b:=e
  subst e'
  exact dI ⟨H,I,q⟩
 | int i=>
  obtain⟨t,rfl⟩:=rx
  have e':k=(i != 0):=e
  subst e'
  exact PySem.P.truthy_int ⟨H,I,q⟩
 | str y=>
  obtain⟨t,rfl⟩:=rx
  obtain⟨hy,e'⟩:y.length<=sizeLine/\k=((y.length:Int) != 0):=e
  subst e'
  exact PySem.P.truthy_str (by omega) ⟨H,I.tok _,q⟩
 | byt y=>
  obtain⟨t,rfl⟩:=rx
  obtain⟨hy,e'⟩:y.size<=sizeLine/\k=((y.size:Int) != 0):=e
  subst e'
  exact PySem.W.truthy_bytes (by omega) ⟨H,I.tok _,q⟩
 | ref p=>
  cases rx
  have e':(∃ xs,SqL X.K H p xs/\k = !xs.isEmpty)\/(∃ xs,SqT X.K H p xs/\k = !xs.isEmpty) \/ ∃ kvs,H p=some (.dK kvs)/\k = !kvs.isEmpty:=e
  rcases e' with ⟨xs,hx,e'⟩|⟨xs,hx,e'⟩|⟨kvs,hx,e'⟩
  ·subst e'
   obtain⟨its,r,pl,hz⟩:=I.list hx
   have hlen:=r.length
   exact wpAny_truthy_list pl.isList (by simp only [av];omega) ⟨H,I.tok _,by rw [Kv r];exact q⟩
  ·subst e'
   obtain⟨its,r,pl,hz⟩:=I.tuple hx
   have hlen:=r.length
   exact truthy_tuple pl (by simp only [av];omega) ⟨H,I.tok _,by rw [Kv r];exact q⟩
  ·subst e'
   obtain⟨hz,hS,vs,r,m⟩:kvs.length<=sizeLine/\(p==cX)=false /\ ∃ vs,KV kvs vs/\s.heap.DictOf (Av X.prog X.w) p vs:=I.hok p _ hx
   have hlen:kvs.length=vs.length:=gC r
   exact wpAny_truthy_dict hS m (by omega) ⟨H,I.tok _,by rw [U2 r];exact q⟩
 | _=>exact (show False from e).elim
theorem Vi:OpR X (dA .Add) (fun x y H Q=>∃ i j,x=.str i/\y=.str j/\i.length+j.length<=sizeLine/\Q (.str (i++j)) H):=by
 intro pins s σ H x y v u Q I rx ry h
 obtain⟨i,j,rfl,rfl,hz,q⟩:=h
 obtain⟨t,rfl⟩:=rx
 obtain⟨t',rfl⟩:=ry
 exact bI (ak _) (add_str (fun t' tk htk=>⟨.str (i++j),H,I.tok _ htk,⟨_,rfl⟩,q⟩) hz)
theorem F9 {x:V} {us:List Value} (r:Vals [x] us):∃ u,us=[u]/\RelV x u:=by
 cases r with
 | cons r1 r2=>cases r2;exact⟨_,rfl,r1⟩
theorem ce4 {x y:V} {us:List Value} (r:Vals [x,y] us):∃ u w',us=[u,w']/\RelV x u/\RelV y w':=by
 cases r with
 | cons r1 r2=>
  cases r2 with
  | cons r3 r4=>cases r4;exact⟨_,_,rfl,r1,r3⟩
theorem M8:C3 X (.type "int") (fun xs H Q=>(∃ i,xs=[.int i]/\Q (.int i) H) \/ ∃ k,xs=[.bl k]/\Q (.int (if k then 1 else 0)) H):=by
 intro pins s σ H xs us Q I r h
 rcases h with ⟨i,rfl,q⟩|⟨k,rfl,q⟩
 ·obtain⟨u,rfl,t,rfl⟩:=F9 r
  exact call_int_int ⟨.int i,H,I,⟨_,rfl⟩,q⟩
 ·obtain⟨u,rfl,r1⟩:=F9 r
  cases r1
  exact call_int_bool ⟨.int (if k then 1 else 0),H,I.tok _,⟨_,rfl⟩,q⟩
end
structure ObjM (h:Heap) (x dx C:Addr) (mA:Str->Option Value):Prop where
 obj:h.get? x=some (bM C dx)
 ns:h.Ns1 dx mA
 ne:dx≠x
theorem Nx {h:Heap} {dx:Addr} {mA:Str->Option Value} (n:h.Ns1 dx mA):∃ od,h.get? dx=some od /\ ∀ name,h9 name od=some (mA name):=by
 obtain⟨o,es,ep,ho,hd,hk,_,hm⟩:=n
 refine⟨o,ho,fun name=>?_⟩
 have e:=hm name
 unfold nsFind findBy at e
 rw [<- Array.find?_toList] at e
 unfold h9
 rw [hd]
 dsimp only
 split
 ·rename_i y q
  rw [q] at e
  exact congrArg some e
 ·rename_i q
  rw [q] at e
  have a:es.toList.any (·.refKey)=false:=by
   rw [cn]
   intro y hy
   obtain⟨z,t,hkey⟩:=hk y (Array.mem_toList_iff.mp hy)
   simp [DictEntry.refKey,hkey]
  have a':¬ es.toList.any (·.refKey)=true:=by rw [a];exact am
  rw [if_neg a']
  exact congrArg some e
theorem ObjM.look {h:Heap} {x dx C:Addr} {mA:Str->Option Value} (I:ObjM h x dx C mA):∃ od,PySem.W.InstAt h x (bM C dx) C (some od) /\ ∀ name,h9 name od=some (mA name):=
 let ⟨od,ho,hl⟩:=Nx I.ns
 ⟨od,⟨I.obj,rfl,rfl,ho⟩,hl⟩
section
variable {prog:aW} {w:bE} {A:bj} {E:Value->al->Prop} {s:al} {K:ae} {x dx C f:Addr} {mA:Str->Option Value} {name:Str} {v:Value}
theorem Ao {expr:Bool} {Q:Value->al->Prop} (X:K.In s.heap) (I:ObjM s.heap x dx C mA) (hg:eW K C name=true) (hh:fW K C=true)
  (ha:aP K (.ref C) name=some none) (hv:mA name=some v) (hv':iQ v=true) (h:Q v { s with toks:=s.toks+1 }) :
  aV (model prog w) A (getAttr (.ref x) name expr) Q E s:=by
 obtain⟨od,J,hl⟩:=I.look
 exact PySem.W.get_value X J (gR hg).1 (PySem.W.findObj_own hh ha rfl (by rw [hl,hv])) hv' h
theorem aj0 {pl:Sem Bool} {Q:Value×List Value->al->Prop} (X:K.In s.heap) (I:ObjM s.heap x dx C mA) (hg:eW K C name=true)
  (hf:aP K (.ref C) name=some (some (.ref f))) (ht:dz K (.ref f)=true) (hv:mA name=none) (h:Q (.ref f,[.ref x]) s) :
  aV (model prog w) A (getMethod (.ref x) name pl) Q E s:=by
 obtain⟨od,J,hl⟩:=I.look
 exact PySem.W.method_fn X J (gR hg).1 (gR hg).2 hf (beq_iff_eq.mp ht) (by show (h9 name od).map (·.isSome)=some false;rw [hl,hv];rfl) h
theorem a38 {ns:List Str} {Q:Unit->al->Prop} (X:K.In s.heap) (I:ObjM s.heap x dx C mA)
  (hs:aP K (.ref C) "__setattr__" = some (some (.builtin "object.__setattr__"))) (hp:iq K C=true) (ht:jy K C name=some none) (hh:fW K C=true)
  (hw:gj mA ns) (hsz:ns.length<=sizeLine)
  (h:∀ h',ObjM h' x dx C (fun y=>if y=name then some v else mA y)->bq dx s.heap h'->Q () { s with heap:=h',toks:=s.toks+2 }) :
  aV (model prog w) A (setAttr (.ref x) name v) Q E s:=by
 obtain⟨od,J,hl⟩:=I.look
 refine PySem.W.set_plain X J hs (PySem.W.osa_open (s:={ s with toks:=s.toks+1 }) (r:=none) X J hp ht fun b=>?_)
 obtain⟨cd,hc,hd'⟩:=PySem.W.any_some hh
 have hx:s.heap.get? x=some ⟨.ref C,some dx,.plain,#[]⟩:=I.obj
 refine ag (ao (ag (ag (wpAny_loadPart hx (ag (PySem.W.Looks.here (s:={ s with toks:=s.toks+1 }) (PySem.W.looks_clsIn X hc) ?_))))))
 rw [hd']
 refine ao (a:=some dx) (ag (ao (ag ?_)))
 refine wpAny_nsSet1 (s:={ s with toks:=s.toks+1 }) I.ns fun h' hn2 hs2=>?_
 obtain⟨oD,esD,epD,hoD,hdD,hcD⟩:=hn2.count (PySem.Within.cons name v hw)
 refine ag (wpAny_lookBehind hoD (by rw [hdD];exact pastItsLine_dict (ax hcD (by rw [aI];omega))) ?_)
 exact ao (h _ ⟨(hs2.2 _ (cA I.ne)).trans I.obj,hn2,I.ne⟩ hs2)
theorem al0 {R:kP->al->Prop} {vs:List Value} {kw:List (Str×Value)} (X:K.In s.heap) (hm:cI K C=true)
  (hi:aP K (.ref C) "__init__" = some (some (.ref f))) (hf:PySem.W.typeIn K (.ref f)=some (.type "function"))
  (h:fZ (model prog w) (A.under (.builtin "type.__call__" ⟨.ref C::vs,kw⟩)) (.call (.ref f) ⟨.ref (s.heap.objs.size+1)::vs,kw⟩) (PySem.W.InitBack (s.heap.objs.size+1) R)
   {s with heap:=(s.heap.push bw).push (bM C s.heap.objs.size) }) :
  fZ (model prog w) A (.call (.ref C) ⟨vs,kw⟩) R s:=by
 obtain⟨hh,g,d,t,os⟩:=s
 exact PySem.W.make_core (iS X hm) (eK X hi) (fun self=>PySem.W.bind_fn X self hf) (.inl rfl) h
theorem Zn {R:kP->al->Prop} (X:K.In s.heap) (hm:cI K C=true)
  (hi:aP K (.ref C) "__init__" = some (some (.builtin "object.__init__")))
  (hb:∀ self,gE (model prog w) s.heap (lg (.builtin "object.__init__") self) (.builtin "object.__init__", [self]))
  (h:fZ (model prog w) (A.under (.builtin "type.__call__" ⟨[.ref C],[]⟩)) (.call (.builtin "object.__init__") ⟨[.ref (s.heap.objs.size+1)],[]⟩) (PySem.W.InitBack (s.heap.objs.size+1) R)
   {s with heap:=(s.heap.push bw).push (bM C s.heap.objs.size) }) :
  fZ (model prog w) A (.call (.ref C) ⟨[],[]⟩) R s:=by
 obtain⟨hh,g,d,t,os⟩:=s
 exact PySem.W.make_core (iS X hm) (eK X hi) hb (.inr ⟨rfl,rfl⟩) h
end
noncomputable def Fy (f:Str) (v:V):List (Str×V)->List (Str×V)
 | []=>[(f,v)]
 | (g,x)::r=>if g=f then (g,v)::r else (g,x)::Fy f v r
theorem Jn (f g:Str) (v:V):∀ fs:List (Str×V),(Fy f v fs).lookup g=if g=f then some v else fs.lookup g
 | []=>by
  show fV g [(f,v)]=_
  by_cases h:g=f
  ·have hb:(g==f)=true:=beq_iff_eq.mpr h
   simp only [fV,hb,if_pos h]
  ·have hb:(g==f)=false:=beq_eq_false_iff_ne.mpr h
   simp only [fV,hb,if_neg h]
 | (k,x)::r=>by
  have ih:=Jn f g v r
  rw [show Fy f v ((k,x)::r)=(if k=f then (k,v)::r else (k,x)::Fy f v r) from rfl]
  by_cases hk:k=f
  ·rw [if_pos hk]
   by_cases h:g=k
   ·have hb:(g==k)=true:=beq_iff_eq.mpr h
    simp only [fV,hb,if_pos (h.trans hk)]
   ·have hb:(g==k)=false:=beq_eq_false_iff_ne.mpr h
    simp only [fV,hb,if_neg (fun e:g=f=>h (e.trans hk.symm))]
  ·rw [if_neg hk]
   by_cases h:g=k
   ·have hb:(g==k)=true:=beq_iff_eq.mpr h
    simp only [fV,hb,if_neg (fun e:g=f=>hk (h.symm.trans e))]
   ·have hb:(g==k)=false:=beq_eq_false_iff_ne.mpr h
    simp only [fV,hb]
    exact ih
theorem Ik (f:Str) (v:V):∀ fs:List (Str×V),f∈(Fy f v fs).map (·.1) /\ ∀ g,g∈fs.map (·.1)->g∈(Fy f v fs).map (·.1)
 | []=>⟨by simp [Fy],fun g h=>by simp at h⟩
 | (k,x)::r=>by
  obtain⟨i1,i2⟩:=Ik f v r
  rw [show Fy f v ((k,x)::r)=(if k=f then (k,v)::r else (k,x)::Fy f v r) from rfl]
  by_cases hk:k=f
  ·rw [if_pos hk]
   subst hk
   exact⟨by simp,fun g h=>by simpa using h⟩
  ·rw [if_neg hk]
   refine⟨?_,fun g h=>?_⟩
   ·rw [aQ]
    exact ar _ i1
   ·rw [aQ] at h ⊢
    rcases List.mem_cons.mp h with e|e
    ·exact List.mem_cons.mpr (.inl e)
    ·exact ar _ (i2 g e)
theorem Jm (f:Str) (v:V):∀ fs:List (Str×V),(Fy f v fs).length<=fs.length+1
 | []=>by simp [Fy]
 | (k,x)::r=>by
  have ih:=Jm f v r
  rw [show Fy f v ((k,x)::r)=(if k=f then (k,v)::r else (k,x)::Fy f v r) from rfl]
  by_cases hk:k=f
  ·rw [if_pos hk,aI,aI];omega
  ·rw [if_neg hk,aI,aI];omega
theorem RelO.some_of {v:V} {o:Option Value} (r:RelO (some v) o):∃ u,o=some u/\RelV v u:=by
 cases o with
 | none=>exact (show False from r).elim
 | some u=>exact⟨u,rfl,r⟩
theorem RelO.none_of {o:Option Value} (r:RelO none o):o=none:=by
 cases o with
 | none=>rfl
 | some u=>exact (show False from r).elim
theorem Za {v:V} {u:Value} (r:RelV v u):iQ u=true:=by
 cases v with
 | non=>cases (show u=bz from r);rfl
 | bl b=>cases (show u=jG b from r);rfl
 | int i=>obtain⟨t,e⟩:=(show ∃ t,u=kD i t from r);cases e;rfl
 | str x=>obtain⟨t,e⟩:=(show ∃ t,u=gS x t from r);cases e;rfl
 | byt b=>obtain⟨t,e⟩:=(show ∃ t,u=Value.bytes b t from r);cases e;rfl
 | stk y n ex=>obtain⟨t,e,_⟩:=(show ∃ t,u=gS y t/\(if ex=true then t=n else n<=t) from r);cases e;rfl
 | ref a=>cases (show u=bp a from r);rfl
 | ty n=>cases (show u=ff n from r);rfl
section
variable {P:aW} {w:bE} {H H':Hp} {h h':Heap} {a C dx:Addr} {fs fs':List (Str×V)}
theorem J3 (hok:HOk P w H h) (e:H a=some (.ins C dx fs)):∃ mA,ObjM h a dx C mA/\(∀ f,RelO (fs.lookup f) (mA f))/\gj mA (fs.map (·.1))/\fs.length<=1000/\H dx=some (.own a):=by
 obtain⟨d,z,ne,ob,mA,n,r,q⟩:=(show ObjOk P w H h a (.ins C dx fs) from hok a _ e)
 exact⟨mA,⟨ob,n,ne⟩,r,q,z,d⟩
end
structure Cls (K:ae) (C:Addr):Prop where
 pg:eW K C a_=true
 hd:fW K C=true
 po:iq K C=true
 sa:aP K (.ref C) "__setattr__" = some (some (.builtin "object.__setattr__"))
theorem Cls.get {K:ae} {C:Addr} (c:Cls K C) (f:Str):eW K C f=true:=c.pg
noncomputable def NoAttr (K:ae) (C:Addr) (f:Str):Prop:=aP K (.ref C) f=some none
theorem NoAttr.taker {K:ae} {C:Addr} {f:Str} (n:NoAttr K C f):jy K C f=some none:=by
 unfold jy
 rw [show aP K (.ref C) f=some none from n]
 rfl
structure G3 (K:ae) (C:Addr) (m:Str) (f:Addr):Prop where
 at_:aP K (.ref C) m=some (some (.ref f))
 fn:dz K (.ref f)=true
 kp:bu K (.ref f)=true
section
variable {X:Cx} {pins:List (Addr×Obj)} {σ:St} {H:Hp} {s:al} {a C dx:Addr} {fs:List (Str×V)} {f:Str} {v:V} {A:bj} {E:Value->al->Prop}
theorem U0 {b:Bool} {Q:Value->al->Prop} (I:Inv X pins σ H s) (e:H a=some (.ins C dx fs)) (c:Cls X.K C) (n:NoAttr X.K C f) (l:fs.lookup f=some v)
  (h:∀ u s',Inv X pins σ H s'->RelV v u->Q u s'):aV (model X.prog X.w) A (getAttr (.ref a) f b) Q E s:=by
 obtain⟨mA,O,r,_,_,_⟩:=J3 I.hok e
 obtain⟨u,hu,ru⟩:=RelO.some_of (v:=v) (o:=mA f) (by rw [<- l];exact r f)
 exact Ao I.kIn O (c.get f) c.hd n hu (Za ru) (h u _ (I.tok _) ru)
theorem Kt {m:Str} {g:Addr} {pl:Sem Bool} {Q:Value×List Value->al->Prop} (I:Inv X pins σ H s) (e:H a=some (.ins C dx fs)) (c:Cls X.K C) (k:G3 X.K C m g) (l:fs.lookup m=none)
  (h:Q (.ref g,[.ref a]) s):aV (model X.prog X.w) A (getMethod (.ref a) m pl) Q E s:=by
 obtain⟨mA,O,r,_,_,_⟩:=J3 I.hok e
 have hn:mA m=none:=RelO.none_of (by rw [<- l];exact r m)
 exact aj0 I.kIn O (c.get m) k.at_ k.fn hn h
theorem Wh {y:V} {u:Value} {Q:Unit->al->Prop} (I:Inv X pins σ H s) (e:H a=some (.ins C dx fs)) (c:Cls X.K C) (n:NoAttr X.K C f) (hl:fs.length<1000) (ry:RelV y u)
  (h:∀ s',Inv X pins σ (upd H a (.ins C dx (Fy f y fs))) s'->Q () s'):aV (model X.prog X.w) A (setAttr (.ref a) f u) Q E s:=by
 obtain⟨mA,O,r,wi,_,ho⟩:=J3 I.hok e
 have hz:(fs.map (·.1)).length<=sizeLine:=by rw [ac,c5];omega
 refine a38 I.kIn O c.sa c.po n.taker c.hd wi hz fun h' O' sb=>h _ ?_
 have hd:∃ o,h'.get? dx=some o:=let ⟨o,_,_,e',_⟩:=O'.ns;⟨o,e'⟩
 refine I.write (x:=a) (e:=dx) (by rw [e];exact bn) (.inr ho) (fun b q hb z=>(sb.2 b hb).trans z) hd ?_
 refine⟨by rw [Ak O.ne];exact ho,?_,O.ne,O'.obj,_,O'.ns,fun g=>?_,fun g hg=>?_⟩
 ·have:=Jm f y fs;omega
 ·show RelO ((Fy f y fs).lookup g) (if g=f then some u else mA g)
  rw [Jn]
  by_cases q:g=f
  ·rw [if_pos q,if_pos q];exact ry
  ·rw [if_neg q,if_neg q];exact r g
 ·by_cases q:g=f
  ·rw [q];exact (Ik f y fs).1
  ·refine (Ik f y fs).2 g (wi g fun z=>hg ?_)
   show (if g=f then some u else mA g)=none
   rw [if_neg q];exact z
theorem Inv.made (I:Inv X pins σ H s):Inv X pins σ (upd (upd H s.heap.objs.size (.own (s.heap.objs.size+1))) (s.heap.objs.size+1) (.ins C s.heap.objs.size []))
  {s with heap:=(s.heap.push bw).push (bM C s.heap.objs.size) }:=by
 have e1:(s.heap.push bw).get? s.heap.objs.size=some bw:=aK s.heap rfl
 have e2:((s.heap.push bw).push (bM C s.heap.objs.size)).get? (s.heap.objs.size+1)=some (bM C s.heap.objs.size):=by
  have:=aK (s.heap.push bw) (o:=bM C s.heap.objs.size) rfl
  rwa [df] at this
 have e3:(s.heap.push bw).Ns s.heap.objs.size (fun _=>none):=⟨bw,#[],_,e1,rfl,(fun e he=>absurd he (by simp)),fun _=>rfl⟩
 have I1:=I.laid (a:=s.heap.objs.size) (o:=.own (s.heap.objs.size+1)) (h':=s.heap.push bw) (t':=s.toks) (fun b u q=>aj _ q) (ak _) ⟨_,e1⟩
 refine I1.laid (a:=s.heap.objs.size+1) (o:=.ins C s.heap.objs.size []) (t':=s.toks) (fun b u q=>aj _ q) (jr (df _ _)) ?_
 have ne:s.heap.objs.size≠s.heap.objs.size+1:=aT (cZ _)
 refine⟨by rw [Ak ne,Ad],bR _,ne,e2,fun _=>none,(Heap.Ns1.of_empty e3).at fun o q=>aj _ q,fun _=>bn,fun y hy=>absurd rfl hy⟩
theorem av1 {prog:aW} {w:bE} {env:Env} {e:Expr} {f:Str} {pos:Pos} {s:al} {Q:Value->al->Prop} (hb:iI e f env (eval e env)=eval e env)
  (h:aV (model prog w) A (eval e env) (fun o s₁=>aV (model prog w) A (getAttr o f true) Q E s₁) E s):aV (model prog w) A (eval (.Attribute e f pos) env) Q E s:=
 Attribute_any_ h (by rw [arm_eval_Attribute,hb])
end
section
variable {X:Cx} {o e value:Expr} {f:Str} {pos pos' tpos:Pos} {ta tv:TE}
end
section
variable {X:Cx} {pins:List (Addr×Obj)} {σ:St} {H:Hp} {s:al} {A:bj} {E:Value->al->Prop} {Q:Value->al->Prop} {c:Value} {b:Bool}
inductive TyOf (K:ae) (H:Hp):V->Value->Prop where
 | non:TyOf K H .non (.type "NoneType")
 | bl (x:Bool):TyOf K H (.bl x) (.type "bool")
 | int (i:Int):TyOf K H (.int i) (.type "int")
 | str (x:Str):TyOf K H (.str x) (.type "str")
 | stk (x:Str) (n:Nat) (ex:Bool):TyOf K H (.stk x n ex) (.type "str")
 | lst {a:Addr} {xs:List V} (e:H a=some (.lst xs)):TyOf K H (.ref a) (.type "list")
 | frz {a:Addr} {o:Obj} {xs:List V} (e:H a=some (.frz o (.lst xs))):TyOf K H (.ref a) (.type "list")
 | tup {a:Addr} {xs:List V} (e:H a=some (.tup xs)):TyOf K H (.ref a) (.type "tuple")
 | dK {a:Addr} {kvs:List (Key×V)} (e:H a=some (.dK kvs)):TyOf K H (.ref a) (.type "dict")
 | dT {a:Addr} {kvs:List (List Key×V)} (e:H a=some (.dT kvs)):TyOf K H (.ref a) (.type "dict")
 | ins {a C dx:Addr} {fs:List (Str×V)} (e:H a=some (.ins C dx fs)) (cl:Cls K C) (ha:aP K (.ref C) "__class__" = some (some (.builtin "object.__class__")))
   (hn:PySem.W.specialIn K (.builtin "object.__class__") "__get__" = some (some (.builtin "getset_descriptor.__get__"))) (htk:PySem.W.takesIn K (.builtin "object.__class__")=some true)
   (hm:PySem.W.mroIn K C (.type "object")=some true):TyOf K H (.ref a) (.ref C)
theorem Nt {x:V} {u t:Value} (I:Inv X pins σ H s) (rx:RelV x u) (ty:TyOf X.K H x t) (e:eP X.K t c=some b) (h:∀ tk,Q (.bool b) { s with toks:=tk }) :
  aV (model X.prog X.w) A (call (.builtin "isinstance") [u,c]) Q E s:=by
 cases ty with
 | non=>cases (show u=bz from rx);exact bU PySem.W.kitx_none I.kIn bn e (fun z=>nomatch z) h
 | bl y=>cases (show u=jG y from rx);exact bU PySem.W.kitx_bool I.kIn bn e (fun z=>nomatch z) h
 | int i=>obtain⟨t,q⟩:=(show ∃ t,u=kD i t from rx);cases q;exact bU PySem.W.kitx_int I.kIn bn e (fun z=>nomatch z) h
 | str y=>obtain⟨t,q⟩:=(show ∃ t,u=gS y t from rx);cases q;exact bU PySem.W.kitx_str I.kIn bn e (fun z=>nomatch z) h
 | stk y n ex=>obtain⟨t,q,_⟩:=(show ∃ t,u=gS y t/\(if ex=true then t=n else n<=t) from rx);cases q;exact bU PySem.W.kitx_str I.kIn bn e (fun z=>nomatch z) h
 | @lst a xs ea=>
  cases (show u=bp a from rx)
  obtain⟨_,_,n,_,h1⟩:=(show ObjOk X.prog X.w H s.heap a (.lst xs) from I.hok a _ ea)
  exact bU im I.kIn ⟨_,h1,rfl⟩ e (fun z=>nomatch z) h
 | @frz a ob xs ea=>
  cases (show u=bp a from rx)
  obtain⟨_,_,_,n,_,h1⟩:=(show ObjOk X.prog X.w H s.heap a (.frz ob (.lst xs)) from I.hok a _ ea)
  exact bU im I.kIn ⟨_,h1,rfl⟩ e (fun z=>nomatch z) h
 | @tup a xs ea=>
  cases (show u=bp a from rx)
  obtain⟨_,_,_,p⟩:=(show ObjOk X.prog X.w H s.heap a (.tup xs) from I.hok a _ ea)
  obtain⟨o,h1,h2,_⟩:=p
  exact bU ky I.kIn ⟨o,h1,h2⟩ e (fun z=>nomatch z) h
 | @dK a kvs ea=>
  cases (show u=bp a from rx)
  obtain⟨_,_,vs,_,p⟩:=(show ObjOk X.prog X.w H s.heap a (.dK kvs) from I.hok a _ ea)
  obtain⟨o,es,ep,h1,h2,_⟩:=p
  exact bU PySem.W.kitx_dict I.kIn ⟨o,h1,h2.1⟩ e (fun z=>nomatch z) h
 | @dT a kvs ea=>
  cases (show u=bp a from rx)
  obtain⟨_,_,xs,_,o,es,ep,h1,h2,_⟩:=(show ObjOk X.prog X.w H s.heap a (.dT kvs) from I.hok a _ ea)
  exact bU PySem.W.kitx_dict I.kIn ⟨o,h1,h2.1⟩ e (fun z=>nomatch z) h
 | @ins a C dx fs ea cl ha hn htk hm=>
  cases (show u=bp a from rx)
  obtain⟨mA,O,_⟩:=J3 I.hok ea
  obtain⟨od,J,_⟩:=O.look
  exact bU (PySem.W.kitx_own (cl.get _) cl.hd ha hn htk hm) I.kIn J e (fun z=>nomatch z) h
end
structure Room (k:Nat) (A:bj):Prop where
 hd:A.handled=none
 dp:A.depth+3 * k+5<recursionLimit
 un:A.units+16 * k+200<cLine
theorem Room.mono {j k:Nat} {A:bj} (r:Room k A) (h:j<=k):Room j A:=⟨r.hd,by have:=r.dp;omega,by have:=r.un;omega⟩
theorem Room.deeper {k:Nat} {A:bj} (r:Room (k+1) A) (env:Env):Room k (A.deeper env):=
 ⟨r.hd,by have:=r.dp;show A.depth+1+3 * k+5<_;omega,by have:=r.un;show A.units+3+16 * k+200<_;omega⟩
theorem Va {A:bj} {C:Addr} {us:List Value} {kw:List (Str×Value)}:(A.under (.builtin "type.__call__" ⟨.ref C::us,kw⟩)).depth=A.depth+1:=by
 first|rfl|simp [kM,Code.weight,Code.isCreation,Code.isGuard,Code.isCaller,Code.frames,kN,guardIds]
theorem Vb {A:bj} {C:Addr} {us:List Value} {kw:List (Str×Value)}:(A.under (.builtin "type.__call__" ⟨.ref C::us,kw⟩)).units=A.units+1:=by
 first|rfl|simp [kM,Code.cUnits,Code.frames,kN]
theorem Room.make {k:Nat} {A:bj} (r:Room (k+1) A) (C:Addr) (us:List Value) (kw:List (Str×Value)):Room k (A.under (.builtin "type.__call__" ⟨.ref C::us,kw⟩)):=
 ⟨r.hd,by have:=r.dp;rw [Va];omega,by have:=r.un;rw [Vb];omega⟩
theorem Room.depth {k:Nat} {A:bj} (r:Room k A):A.depth<recursionLimit:=by have:=r.dp;omega
theorem Room.units {k:Nat} {A:bj} (r:Room k A):A.units+64<cLine:=by have:=r.un;omega
noncomputable def ck0:TA:=fun _ H Q=>Q [] H
noncomputable def cb3 (ta:TE) (tr:TA):TA:=fun σ H Q=>ta σ H fun x H1=>tr σ H1 fun xs H2=>Q (x::xs) H2
section
variable {X:Cx} {e:Expr} {es:List Expr} {te:TE} {t:TA} {pos:Pos}
theorem bk1:PA X [] ck0:=fun _ _ _ _ H Q I h=>fR ⟨[],H,I,.nil,h⟩
theorem az7 (ha:PE X e te) (hr:PA X es t) (hs:cW (e::es) X.env=(false,eval e X.env)::cW es X.env:=by rfl):PA X (e::es) (cb3 te t):=by
 intro pos pins s σ H Q I h
 rw [hs]
 show aV _ _ (spliced ((false,eval e X.env)::iT pos (cW es X.env))) _ _ s
 refine fh (thn (ha pins s σ H _ I h) fun u s1 ⟨x,H1,I1,r1,q1⟩=>?_)
 exact thn (hr pos pins s1 σ H1 _ I1 q1) fun us s2 ⟨xs,H2,I2,r2,q2⟩=>⟨x::xs,H2,I2,.cons r1 r2,q2⟩
noncomputable def ck4 (t:TA):TE:=fun σ H Q=>t σ H fun xs H1=>xs.length<=sizeLine /\ ∀ p,H1 p=none->Q (.ref p) (upd H1 p (.tup xs))
noncomputable def cj9 (t:TA):TE:=fun σ H Q=>t σ H fun xs H1=>xs.length<=sizeLine /\ ∀ p,H1 p=none->Q (.ref p) (upd H1 p (.lst xs))
theorem bk7 {x1} (h:PA X es t):PE X (.Tuple es x1 pos) (ck4 t):=by
 intro pins s σ H Q I hq
 refine wpAny_Tuple_spliced (thn (h pos pins s σ H _ I hq) fun us s1 ⟨xs,H1,I1,r,z,q⟩=>⟨by rw [<- r.length];exact z,?_⟩)
 have hf:H1 s1.heap.objs.size=none:=I1.hok.fresh (ak _)
 refine⟨.ref s1.heap.objs.size,upd H1 s1.heap.objs.size (.tup xs),I1.laid (t':=s1.toks) (fun b u e=>aj _ e) (ak _) ?_,rfl,q _ hf⟩
 exact⟨z,us,r,⟨_,aK _ rfl,rfl,_,rfl⟩⟩
theorem bk3 (h:PA X es t):PE X (.List es pos) (cj9 t):=by
 intro pins s σ H Q I hq
 refine wpAny_List_spliced (thn (h pos pins s σ H _ I hq) fun us s1 ⟨xs,H1,I1,r,z,q⟩=>⟨by rw [<- r.length];exact z,?_⟩)
 have hf:H1 s1.heap.objs.size=none:=I1.hok.fresh (ak _)
 refine⟨.ref s1.heap.objs.size,upd H1 s1.heap.objs.size (.lst xs),I1.laid (t':=s1.toks) (fun b u e=>aj _ e) (ak _) ?_,rfl,q _ hf⟩
 exact⟨z,us,0,r,aK _ rfl⟩
end
noncomputable abbrev Sp:=List V->Hp->VK->XK->Prop
noncomputable abbrev CXT:=List Env->Hp->al->XK->Value->al->Prop
structure Env0 (P:aW) (w:bE) (K:ae) (mg:Str->Option Value) (base:Heap) (A:bj) (outer:List Env) (s:al) (H:Hp):Prop where
 frames:A.frames=some outer
 mod:Mod K mg base
 bs:∀ b o,base.get? b=some o->s.heap.get? b=some o/\H b=none
 bsz:base.objs.size<=s.heap.objs.size
 funs:s.heap.FunFrames base outer
 frf:∀ b∈frs outer,H b=none
 hok:HOk P w H s.heap
 bare:jf s.gens
 tk:W6 K s.toks
noncomputable def CE (outer:List Env) (P:aW) (w:bE) (H:Hp) (s:al) (Q:VK) (u:Value) (s':al):Prop:=
 ∃ v H',(s'.os=s.os/\s.toks<=s'.toks)/\jf s'.gens/\Un (frs outer) [] H H' s.heap s'.heap/\HOk P w H' s'.heap/\RelV v u/\Q v H'
noncomputable def CR (CX:CXT) (outer:List Env) (P:aW) (w:bE) (H:Hp) (s:al) (Q:VK) (E:XK) (r:kP) (s':al):Prop:=
 match r with
 | .ok (.ret u)=>CE outer P w H s Q u s'
 | .ok _=>False
 | .error e=>CX outer H s E e s'
structure FnOk (P:aW) (w:bE) (K:ae) (mg:Str->Option Value) (base:Heap) (CX:CXT) (k:Nat) (f:Addr) (fd:aB) (ps:List Str) (sp:Sp):Prop where
 len:∀ vs H Q E,sp vs H Q E->vs.length=ps.length
 run:∀ (A:bj) (outer:List Env) (s:al) (H:Hp) (args:Args) (us:List Value) (vs:List V) (Q:VK) (E:XK),Room k A->Env0 P w K mg base A outer s H->kY s fd args (ps.zip us)->Vals vs us->sp vs H Q E ->
  fZ (model P w) A (.call (.ref f) args) (CR CX outer P w H s Q E) s
theorem FnOk.imp {P:aW} {w:bE} {K:ae} {mg:Str->Option Value} {base:Heap} {CX:CXT} {k:Nat} {f:Addr} {fd:aB} {ps:List Str} {sp sp':Sp} (F:FnOk P w K mg base CX k f fd ps sp)
  (h:∀ vs H Q E,sp' vs H Q E->sp vs H Q E):FnOk P w K mg base CX k f fd ps sp':=
 ⟨fun vs H Q E q=>F.len vs H Q E (h _ _ _ _ q),fun A outer s H args us vs Q E hr he hb hv hs=>F.run A outer s H args us vs Q E hr he hb hv (h _ _ _ _ hs)⟩
theorem Env0.make {P:aW} {w:bE} {K:ae} {mg:Str->Option Value} {base:Heap} {A:bj} {outer:List Env} {s:al} {H:Hp} (e:Env0 P w K mg base A outer s H) (C:Addr) (us:List Value) (kw:List (Str×Value)) :
  Env0 P w K mg base (A.under (.builtin "type.__call__" ⟨.ref C::us,kw⟩)) outer s H:=⟨by first|exact e.frames|(simpa [kM,Code.envs,kN,pushEnvs] using e.frames),e.mod,e.bs,e.bsz,e.funs,e.frf,e.hok,e.bare,e.tk⟩
section
variable {X:Cx} {pins:List (Addr×Obj)} {σ:St} {H:Hp} {s s':al}
theorem Inv.env0 (I:Inv X pins σ H s):Env0 X.prog X.w X.K X.mg X.base X.A X.stack s H:=
 ⟨I.ok.frames,I.ok.mod,I.bs,ax I.ok.bsz I.sz,I.stack,I.stkFree,I.hok,I.bare,bn⟩
theorem Inv.after {Q:VK} {u:Value} (I:Inv X pins σ H s) (h:CE X.stack X.prog X.w H s Q u s'):EP X pins σ Q u s':=by
 obtain⟨v,H',os,bare,un,hok,r,q⟩:=h
 obtain⟨hh,g,d,t,os'⟩:=s'
 obtain rfl:os'=s.os:=os.1
 exact⟨v,H',I.call (h':=hh) (g':=g) (d':=d) (t':=t) (ch:=[]) un hok bare (fun b z=>absurd z (by simp)) os.2,r,q⟩
end
noncomputable def Binds (K:ae) (fd:aB) (ps:List Str) (ds:List Value):Prop:=
 ∀ (s:al) (us:List Value),K.In s.heap->(us++ds).length=ps.length->kY s fd ⟨us,[]⟩ (ps.zip (us++ds))
theorem Binds.all {K:ae} {fd:aB} {ps:List Str} (h:∀ us:List Value,us.length=ps.length->kE fd ⟨us,[]⟩=pure (ps.zip us)):Binds K fd ps []:=fun s us _ hl=>by
 rw [bQ] at hl ⊢
 exact .of_eq (h us hl)
section
variable {X:Cx} {CX:CXT} {k:Nat} {f C:Addr} {fd:aB} {ps:List Str} {sp:Sp} {dvs:List V} {ds:List Value} {E:XK} {x m:Str} {p pos apos:Pos} {e o:Expr} {es:List Expr} {ta:TE} {t:TA}
structure Mk (K:ae) (C f:Addr):Prop where
 makes:cI K C=true
 init:aP K (.ref C) "__init__" = some (some (.ref f))
 fn:dz K (.ref f)=true
 kp:bu K (.ref C)=true
end
section
variable {X:Cx} {CX:CXT} {k:Nat} {f C:Addr} {fd:aB} {ps ks:List Str} {sp:Sp} {E:XK} {x m:Str} {p pos apos kpos:Pos} {e o:Expr} {es:List Expr} {kws:List k8} {te ta:TE} {t tk:TA} {nm:Option Str}
variable {g:List Value->List Value->List Value} {gV:List V->List V->List V}
end
structure Am (N P:List Str) (sc:Scope):Prop where
 kind:sc.kind=.function
 co:sc.isCoroutine=false
 gen:sc.isGenerator=false
 nd:N.Nodup
 pre:N.take P.length=P
 par:∀ x∈P,sc.names.lookup x=some .local\/sc.names.lookup x=some .cell
 nofree:∀ y∈sc.names,y.2≠.free
theorem M6 {kindOf:Str->Option cw} {x:Str}:∀ {binds:List (Str×Value)} {m:Str->Option Value},(∀ v,(x,v)∉binds)->bindL kindOf binds m x=m x
 | [],_,_=>rfl
 | (n,v)::r,m,h=>by
  unfold bindL
  rw [M6 fun w hw=>h w (ar _ hw)]
  split
  ·have:x≠n:=by rintro rfl;exact h v az
   simp [this]
  ·rfl
theorem M4 {kindOf:Str->Option cw} {x:Str}:∀ {binds:List (Str×Value)} {m:Str->Option Value},(∀ v,(x,v)∉binds)->bindC kindOf binds m x=m x
 | [],_,_=>rfl
 | (n,v)::r,m,h=>by
  unfold bindC
  rw [M4 fun w hw=>h w (ar _ hw)]
  split
  ·rfl
  ·have:x≠n:=by rintro rfl;exact h v az
   simp [this]
theorem M5 {kindOf:Str->Option cw} {x:Str} {v:Value}:∀ {P:List Str} {vs:List Value} {i:Nat} {m:Str->Option Value},P.Nodup->P[i]? = some x->vs[i]? = some v->kindOf x=some .local ->
  bindL kindOf (P.zip vs) m x=some v
 | [],_,_,_,_,h,_,_=>by simp at h
 | _::_,[],_,_,_,_,h,_=>by simp at h
 | p::P,w::vs,0,m,nd,h1,h2,hk=>by
  simp at h1 h2;subst h1;subst h2
  show bindL kindOf ((p,w)::P.zip vs) m p=_
  unfold bindL
  rw [M6 fun v hv=>(List.nodup_cons.mp nd).1 (jo hv).1,if_pos hk]
  simp
 | p::P,w::vs,i+1,m,nd,h1,h2,hk=>by
  show bindL kindOf ((p,w)::P.zip vs) m x=_
  unfold bindL
  exact M5 (i:=i) (List.nodup_cons.mp nd).2 (by simpa using h1) (by simpa using h2) hk
theorem M3 {kindOf:Str->Option cw} {x:Str} {v:Value}:∀ {P:List Str} {vs:List Value} {i:Nat} {m:Str->Option Value},P.Nodup->P[i]? = some x->vs[i]? = some v->kindOf x≠some .local ->
  bindC kindOf (P.zip vs) m x=some v
 | [],_,_,_,_,h,_,_=>by simp at h
 | _::_,[],_,_,_,_,h,_=>by simp at h
 | p::P,w::vs,0,m,nd,h1,h2,hk=>by
  simp at h1 h2;subst h1;subst h2
  show bindC kindOf ((p,w)::P.zip vs) m p=_
  unfold bindC
  rw [M4 fun v hv=>(List.nodup_cons.mp nd).1 (jo hv).1,if_neg hk]
  simp
 | p::P,w::vs,i+1,m,nd,h1,h2,hk=>by
  show bindC kindOf ((p,w)::P.zip vs) m x=_
  unfold bindC
  exact M3 (i:=i) (List.nodup_cons.mp nd).2 (by simpa using h1) (by simpa using h2) hk
noncomputable def Fg (N:List Str) (vs:List V):St:=vs.map some++jO (N.length - vs.length) none
noncomputable def Up (CX:CXT) (P:aW) (w:bE) (K:ae) (mg:Str->Option Value) (base:Heap) (N:List Str) (qual:Str) (scope:Scope) (f:Addr) (cd:Value) (A:bj) (outer:List Env) (s:al) (H:Hp) (E:XK):Cx where
 prog:=P
 w:=w
 K:=K
 mg:=mg
 base:=base
 A:=A.deeper (kU qual scope s.heap.objs.size f cd)
 N:=N
 s₀:=s
 H₀:=H
 env:=kU qual scope s.heap.objs.size f cd
 outer:=outer
 stack:=kU qual scope s.heap.objs.size f cd::outer
 ex:=[]
 calm:=true
 fn:=fun _=>true
 pn:=[]
 xe:=fun e s'=>aV (model P w) (A.deeper (kU qual scope s.heap.objs.size f cd)) (leaving (kU qual scope s.heap.objs.size f cd) e) (fun _ s''=>CX outer H s E e s'') (fun e' s''=>CX outer H s E e' s'') s'
theorem Km {sc:Scope} {n:Nat} {x:Str} (h:sc.names.lookup x=some .cell):∃ c,(cellsFrom n sc.names []).lookup x=some c:=by
 have q:=ja sc.names n [] (.inl h)
 exact Option.isSome_iff_exists.mp q
theorem Zd {CX:CXT} {P:aW} {w:bE} {K:ae} {mg:Str->Option Value} {base:Heap} {N ps:List Str} {qual:Str} {scope:Scope} {f:Addr} {cd:Value} {A:bj} {outer:List Env} {s s1:al} {H:Hp} {E:XK} {us:List Value} {vs:List V}
  (S:Am N ps scope) (hd:A.handled=none) (e0:Env0 P w K mg base A outer s H) (htk:s.toks<=s1.toks) (hl:vs.length=ps.length) (r:Vals vs us)
  (x:InCallC s s.heap.objs.size (bindL (kU qual scope s.heap.objs.size f cd).kindOf (ps.zip us) fun _=>none) (cellsFrom (s.heap.objs.size+1) scope.names []) (bindC (kU qual scope s.heap.objs.size f cd).kindOf (ps.zip us) fun _=>none) s1) :
  Inv (Up CX P w K mg base N qual scope f cd A outer s H E) [] (Fg N vs) H s1:=by
 have hpl:ps.length<=N.length:=by have:=congrArg bv S.pre;rw [aF] at this;omega
 obtain⟨h1,tk,rfl,hk⟩:=x.done
 have noA:∀ b:Addr,b∉(Up CX P w K mg base N qual scope f cd A outer s H E).ex:=fun b z=>absurd (show b∈([]:List Addr) from z) (by simp)
 refine⟨⟨e0.mod,S.kind,rfl,rfl,ak _,fun y z c h1 h2=>?_,fun y hy=>?_,fun y c _ h=>?_,fun _=>hd,Around.frames_deeper e0.frames,.inr ⟨rfl,rfl⟩,fun b z=>absurd z (noA b),e0.bs,e0.bsz,fun b _ _=>noA b,fun b z=>absurd z (noA b),e0.funs,e0.frf,e0.tk⟩,
  ⟨rfl,htk⟩,e0.bare,Un.kept hk,⟨_,x.toInCall.ns,fun i y v h1 h2 h3=>?_⟩,fun y c h=>⟨_,x.cell y c h⟩,e0.hok.fresh (ak _),fun y c h=>?_,fun p hp=>absurd (show p∈([]:List (Addr×Obj)) from hp) (by simp),e0.hok.kept hk,?_⟩
 ·exact name_of_addr x.apart (cb h1) (cb h2)
 ·have hy:scope.names.lookup y=some .cell\/scope.names.lookup y=some .free:=hy
  rcases hy with hy|hy
  ·exact Km hy
  ·exact absurd rfl (S.nofree _ (cb hy))
 ·exact d8 (x.above y c (cb h))
 ·have hi:i<vs.length:=by
   unfold Fg at h2
   by_cases hi:i<vs.length
   ·exact hi
   ·rw [bB (by simpa using hi)] at h2
    rw [List.getElem?_replicate] at h2
    split at h2 <;> cases h2
  have ha:vs[i]? = some v:=by
   unfold Fg at h2
   rw [cO (by simpa using hi),ai] at h2
   cases e:vs[i]? with
   | none=>rw [e] at h2;cases h2
   | some a=>rw [e] at h2;cases h2;rfl
  obtain⟨u,hu,rv⟩:=r.get ha
  have hp:ps[i]? = some y:=by
   rw [<- S.pre,List.getElem?_take_of_lt (by omega)];exact h1
  have ndP:ps.Nodup:=by rw [<- S.pre];exact S.nd.sublist (List.take_sublist _ _)
  refine⟨u,rv,?_⟩
  rcases S.par y (af hp) with k|k
  ·exact .inl ⟨k,M5 ndP hp hu k⟩
  ·obtain⟨c,e⟩:=Km (n:=s.heap.objs.size+1) k
   refine .inr ⟨.inl k,c,e,?_⟩
   have q:=x.cell y c e
   rw [M3 ndP hp hu (by show scope.names.lookup y≠_;rw [k];decide)] at q
   exact q
 ·exact e0.hok.fresh (d8 (x.above y c (cb h)))
 ·unfold Fg
  show _=N.length
  rw [aJ,ac,List.length_replicate]
  omega
theorem bx9 {CX:CXT} {P:aW} {w:bE} {K:ae} {mg:Str->Option Value} {base:Heap} {k:Nat} {f:Addr} {name qual:Str} {params:Arguments} {body:List Stmt} {scope:Scope} {dV kV doc pm cdv ct oc:Value} {an od:Option Addr}
  {osl:Array (Option Value)} {N ps:List Str} {sp:Sp} (lk:K.lookup f=some ⟨oc,od,.func (b7 name qual params body scope dV kV doc pm an cdv ct),osl⟩) (hcd:dg K cdv qual=true) (S:Am N ps scope)
  (len:∀ vs H Q E,sp vs H Q E->vs.length=ps.length)
  (hbody:∀ (A:bj) (outer:List Env) (s:al) (H:Hp) (vs:List V) (Q:VK) (E:XK),Room k (A.deeper (kU qual scope s.heap.objs.size f cdv))->sp vs H Q E ->
   ∃ t,PSs (Up CX P w K mg base N qual scope f cdv A outer s H E) body t/\t { nx:=fun _ H'=>Q .non H',rt:=Q } (Fg N vs) H) :
  FnOk P w K mg base CX (k+1) f (b7 name qual params body scope dV kV doc pm an cdv ct) ps sp:=by
 refine⟨len,fun A outer s H args us vs Q E hr e0 hb r hsp=>?_⟩
 have hl:=len _ _ _ _ hsp
 have KX:K.In s.heap:=e0.mod.kin.keeps fun b o e=>(e0.bs b o e).1
 have lim:s.heap.NoLimit:=e0.mod.nolimit.keeps fun b o e=>(e0.bs b o e).1
 have hkind:∀ y∈ps.zip us,scope.names.lookup y.1=some .local\/(scope.names.lookup y.1=some .cell/\((cellsFrom (s.heap.objs.size+1) scope.names []).lookup y.1).isSome=true):=fun⟨n,v⟩ hy=>by
  rcases S.par n (jo hy).1 with q|q
  ·exact .inl q
  ·exact .inr ⟨q,ja _ _ _ (.inl q)⟩
 refine codeAny_call_function hr.depth (KX _ _ lk) rfl S.co S.gen rfl (PySem.W.codeRec_of KX hcd) (hb _ _ _ _ ?_)
 refine bI (ak _) (wpAny_newFunctionEnv_cells S.kind hkind fun env he s1 x htk=>?_)
 subst he
 refine⟨lim.keeps x.toInCall.keep,codeAny_func ?_⟩
 obtain⟨t,ht,hq⟩:=hbody A outer s H vs Q E (hr.deeper _) hsp
 have I:Inv (Up CX P w K mg base N qual scope f cdv A outer s H E) [] (Fg N vs) H s1:=Zd S hr.hd e0 htk hl r x
 refine dn (ht [] s1 (Fg N vs) H _ I hq) (fun fl s' hs=>?_) fun e s' hs=>hs
 have fin:∀ {σ':St} {H':Hp} {v:V} {u:Value},Inv (Up CX P w K mg base N qual scope f cdv A outer s H E) [] σ' H' s'->RelV v u->Q v H'->CE outer P w H s Q u s':=
  fun {σ' H' v u} J rv q=>⟨v,H',J.os,J.bare,J.base,J.hok,rv,q⟩
 cases fl with
 | ret u=>
  obtain⟨v,σ',H',J,rv,q⟩:=hs
  exact fin J rv q
 | next=>
  obtain⟨σ',H',J,q⟩:=hs
  exact fin (v:=V.non) (u:=bz) J rfl q
 | brk=>
  obtain⟨_,_,_,q⟩:=hs
  exact cL q
 | cont=>
  obtain⟨_,_,_,q⟩:=hs
  exact cL q
section
variable {X:Cx} {x:Str} {p pos:Pos} {e:Expr} {es:List Expr} {t:TA} {id T:String} {r:List V->Hp->VK->Prop}
noncomputable def tCB (r:List V->Hp->VK->Prop) (t:TA):TE:=fun σ H Q=>t σ H fun vs H1=>r vs H1 Q
theorem am7 (hc:C3 X (.builtin id) r) (hg:Gl X x) (hm:X.mg x=none) (hv:dj x=some (.builtin id)) (ha:PA X (e::es) t) (hn:x ≠ "__name__" := by decide) (hdb:(x==("__debug__" : Str))=false:=by decide)
  (he:cW (e::es) X.env=(false,eval e X.env)::cW es X.env:=by rfl) (hpl:(iT pos (cW es X.env)).any (·.1)=false:=by rfl):PE X (.Call (.Name x p) (e::es) [] pos) (tCB r t):=by
 intro pins s σ H Q I h
 refine cx (Fv I hg hm hv ?_ hn hdb)
 exact gf (thn (ha pos pins s σ H _ I h) fun us s1 ⟨vs,H1,I1,r1,q1⟩=>hc pins s1 σ H1 vs us Q I1 r1 q1) he hpl
theorem Zx (hc:C3 X (.type T) r) (hg:Gl X x) (hm:X.mg x=none) (hv:dj x=some (.type T)) (ha:PA X (e::es) t) (hn:x ≠ "__name__" := by decide) (hdb:(x==("__debug__" : Str))=false:=by decide)
  (he:cW (e::es) X.env=(false,eval e X.env)::cW es X.env:=by rfl) (hpl:(iT pos (cW es X.env)).any (·.1)=false:=by rfl):PE X (.Call (.Name x p) (e::es) [] pos) (tCB r t):=by
 intro pins s σ H Q I h
 refine cx (Fv I hg hm hv ?_ hn hdb)
 exact cH (thn (ha pos pins s σ H _ I h) fun us s1 ⟨vs,H1,I1,r1,q1⟩=>hc pins s1 σ H1 vs us Q I1 r1 q1) he hpl
end
end L2
namespace HT
open PySem PyProof.Rows
section
open PySem.SeqAt
open PySem.AutoSeq1 (wpAny_loadPart')
open PySem.MeetsSeq PySem.MeetsSeq2 PySem.MeetsSeq3
end
section
variable {prog:aW} {w:bE} {A:bj} {E:Value->al->Prop} {s:al}
theorem cat_tup {t b:Addr} {vs ws:List Value} {Q:Value->al->Prop} (ht:lL s.heap t vs.toArray) (hb:lL s.heap b ws.toArray) (hv:vs≠[])
  (h1:ws=[]->Q (.ref t) s) (h2:ws≠[]->Q (.ref s.heap.objs.size) { s with heap:=s.heap.push { cls:=.type "tuple", data:=.seq (vs++ws).toArray } })
  (hsz:vs.length+ws.length<=sizeLine):aV (model prog w) A (dA .Add (.ref t) (.ref b)) Q E s:=by
 obtain⟨⟨cls,dd,data,sl⟩,ho,hc,n,hd⟩:=id ht
 obtain⟨⟨cls2,dd2,data2,sl2⟩,ho2,hc2,n2,hd2⟩:=id hb
 simp only at hc hd hc2 hd2
 subst hc hd hc2 hd2
 have e:vs.toArray++ws.toArray=(vs++ws).toArray:=by simp
 by_cases hw:ws=[]
 ·exact kT ⟨_,ho,rfl⟩ ⟨_,ho2,rfl⟩ iU kF fP fE (e_ _ _)
   (tuple_addW1 t b vs.toArray ws.toArray n n2 dd dd2 sl sl2 (by simpa using hv) (by simp [hw])) ⟨ho,ho2,h1 hw⟩
 ·refine kT ⟨_,ho,rfl⟩ ⟨_,ho2,rfl⟩ iU kF fP fE (e_ _ _)
   (tuple_addW2 t b vs.toArray ws.toArray n n2 dd dd2 sl sl2 (by simpa using hv) (by simpa using hw) (by rw [av,av];exact hsz)) ⟨ho,ho2,?_⟩
  rw [e]
  exact h2 hw
noncomputable def sIx (n d:Nat):Option Int->Nat
 | none=>d
 | some v=>if v<0 then (v+(n:Int)).toNat else min v.toNat n
theorem sIx_none (n d:Nat):sIx n d none=d:=rfl
theorem sIx_nat (n d k:Nat):sIx n d (some (k:Int))=min k n:=by
 show (if (k:Int)<0 then ((k:Int)+(n:Int)).toNat else min (k:Int).toNat n)=min k n
 rw [if_neg (by omega),aG]
theorem br1 (n d:Nat) (hd:d<=n) (o:Option Int):sIx n d o<=n:=by
 cases o with
 | none=>exact hd
 | some v=>
  show (if v<0 then (v+(n:Int)).toNat else min v.toNat n)<=n
  by_cases hv:v<0
  ·rw [if_pos hv];omega
  ·rw [if_neg hv];exact Nat.min_le_right _ _
theorem Xe (v:Int) (n d:Nat):(if v<0 then max (v+(n:Int)) 0 else min v (n:Int))=((sIx n d (some v):Nat):Int):=by
 show (if v<0 then max (v+(n:Int)) 0 else min v (n:Int))=(((if v<0 then (v+(n:Int)).toNat else min v.toNat n):Nat):Int)
 by_cases hv:v<0
 ·simp only [if_pos hv];omega
 ·simp only [if_neg hv];omega
theorem Uc (lo hi:Option Int) (n:Nat):eM lo hi 1 (n:Int)=(((sIx n 0 lo:Nat):Int),((sIx n n hi:Nat):Int)):=by
 have h1:¬ ((1:Int)<0):=by omega
 unfold eM
 simp only [h1,if_false]
 refine Prod.ext ?_ ?_
 ·cases lo with
  | none=>rfl
  | some v=>exact Xe v n 0
 ·cases hi with
  | none=>rfl
  | some v=>exact Xe v n n
theorem Vl (i j:Nat):dB (i:Int) (j:Int) 1=j - i:=by
 unfold dB
 have h1:(1:Int) > 0:=by omega
 simp only [h1,if_true,Int.ediv_one]
 split <;> omega
theorem Mb {v:Value} {o:Option Int} {Q:Option Int->al->Prop} (p:ke v o) (h:Q o s):aV (model prog w) A (Builtin.Slice.slicePartIndex v) Q E s:=by
 cases p with
 | none=>exact slicePart_none h
 | int i t=>exact slicePart_int h
theorem sliceApplied_gen {sl:Addr} {vl vu:Value} {lo hi:Option Int} {n:Nat} {Q:Int×Int×Nat->al->Prop} (hs:s.heap.IsSliceOf sl vl vu .none) (pl:ke vl lo) (pu:ke vu hi)
  (h:Q (((sIx n 0 lo:Nat):Int),1,sIx n n hi - sIx n 0 lo) s):aV (model prog w) A (gW (.ref sl) (pure (n:Int))) Q E s:=by
 obtain⟨os,hos,hcs,hds⟩:=id hs
 unfold gW Builtin.Slice.sliceFields
 refine ag (ag (ce hos hds (x:=vl) rfl (ag (ce hos hds (x:=vu) rfl (ag (ce hos hds (x:=.none) rfl (ao ?_)))))))
 refine ag (slicePart_none ?_)
 show aV _ _ (if ((1:Int)==0)=true then _ else _) _ _ s
 rw [if_neg (by decide)]
 refine ag (Mb pl (ag (Mb pu (ag (ao ?_)))))
 show aV _ _ (match eM lo hi 1 (n:Int) with|(lo,hi)=>pure (lo,(1:Int),dB lo hi 1)) _ _ s
 rw [Uc lo hi n]
 show aV _ _ (pure (((sIx n 0 lo:Nat):Int),(1:Int),dB ((sIx n 0 lo:Nat):Int) ((sIx n n hi:Nat):Int) 1)) _ _ s
 rw [Vl]
 exact ao h
theorem an0 (xs:Array Value) (i k:Nat):((aw k).filterMap fun (m:Nat)=>xs[((i:Int)+(m:Int) * 1).toNat]?).toArray=((xs.toList.drop i).take k).toArray:=by
 have e:(fun (m:Nat)=>xs[((i:Int)+(m:Int) * 1).toNat]?)=fun m=>xs[i+m]?:=by
  funext m
  have:((i:Int)+(m:Int) * 1).toNat=i+m:=by omega
  rw [this]
 rw [e]
 have:=pick_run xs i k
 rw [List.filterMap_map] at this
 have e2:((fun x=>xs[x]?)∘fun x=>i+x)=fun m=>xs[i+m]?:=rfl
 rw [e2] at this
 rw [this]
theorem getItem_tuple_cut {t sl:Addr} {items:Array Value} {vl vu:Value} {lo hi:Option Int} {Q:Value->al->Prop} (ht:lL s.heap t items) (hs:s.heap.IsSliceOf sl vl vu .none) (pl:ke vl lo) (pu:ke vu hi)
  (hw:¬ (sIx items.size 0 lo=0/\sIx items.size items.size hi=items.size))
  (h:Q (.ref s.heap.objs.size) { s with heap:=s.heap.push { cls:=.type "tuple", data:=.seq ((items.toList.drop (sIx items.size 0 lo)).take (sIx items.size items.size hi - sIx items.size 0 lo)).toArray } })
  (hsz:items.size<=sizeLine):aV (model prog w) A (j8 (.ref t) (.ref sl)) Q E s:=by
 have htake:sizeOk (.seq ((items.toList.drop (sIx items.size 0 lo)).take (sIx items.size items.size hi - sIx items.size 0 lo)).toArray):=by
  show ((items.toList.drop (sIx items.size 0 lo)).take (sIx items.size items.size hi - sIx items.size 0 lo)).toArray.size<=sizeLine
  rw [av,aF,cg,dJ]
  omega
 have hj:sIx items.size items.size hi<=items.size:=br1 _ _ (ak _) hi
 obtain⟨os,hos,hcs,hds⟩:=id hs
 have hTs:s.TypeIs (.ref sl) "slice" := ⟨os,hos,hcs⟩
 unfold j8
 try with_reducible refine bO ?_
 first|refine ag (ao ?_)|skip
 refine ag (wpAny_sequenceKey ht.typeIs (by decide) ?_)
 refine ag (cq (name:=cS "__getitem__") ht.typeIs bS
  (c6 bS ht.typeIs entry_tuple_getitem ?_ (args_tuple_getitem _ _)))
 show aV _ _ (gX (.ref t) >>= _) _ _ s
 refine ag (tupleItemsOf_ ht ?_)
 refine ag (g_ hTs ?_)
 rw [if_pos (by decide)]
 refine ag (sliceApplied_gen hs pl pu ?_)
 have hno:¬ ((((sIx items.size 0 lo:Nat):Int)==0&&(1:Int)==1&&(sIx items.size items.size hi - sIx items.size 0 lo)==items.size)=true):=by
  intro q
  rw [aA,aA] at q
  have q1:((sIx items.size 0 lo:Nat):Int)=0:=cJ q.1.1
  have q2:sIx items.size items.size hi - sIx items.size 0 lo=items.size:=cJ q.2
  exact hw ⟨by omega,by omega⟩
 show aV _ _ (if (((sIx items.size 0 lo:Nat):Int)==0&&(1:Int)==1&&(sIx items.size items.size hi - sIx items.size 0 lo)==items.size)=true then _ else _) _ _ s
 rw [if_neg hno,an0]
 first
  | exact ag (m:=dG _) (cr (ao ⟨_,rfl,ao h⟩) htake)
  | exact ag (m:=dG _) (cr (ag (ao (ao ⟨_,rfl,ao h⟩))) htake)
  | exact ag (ag (m:=dG _) (cr (ao (ao ⟨_,rfl,ao h⟩)) htake))
  | exact ag (ag (m:=dG _) (cr (ao ⟨_,rfl,ao h⟩) htake))
end
end HT
namespace L2
open PySem PySem.Spec PyProof.Rows
noncomputable abbrev TO:=St->Hp->(Option Int->Hp->Prop)->Prop
noncomputable def PO (X:Cx) (e:Option Expr) (t:TO):Prop:=
 ∀ (pins:List (Addr×Obj)) (s:al) (σ:St) (H:Hp) (Q:Option Int->Hp->Prop),Inv X pins σ H s->t σ H Q ->
  aV (model X.prog X.w) X.A (evalPart e X.env) (fun u s'=>∃ o H',Inv X pins σ H' s'/\ke u o/\Q o H') X.xe s
noncomputable def a44:TO:=fun _ H Q=>Q none H
section
variable {X:Cx} {e:Expr} {te:TE} {lo hi:Option Expr} {tl th:TO} {pos p2:Pos}
theorem a03:PO X none a44:=by
 intro pins s σ H Q I h
 rw [evalPart_none]
 exact ao ⟨none,H,I,.none,h⟩
noncomputable def SlR (X:Cx) (r:V->Option Int->Option Int->Hp->VK->Prop):Prop:=
 ∀ (pins:List (Addr×Obj)) (s:al) (σ:St) (H:Hp) (x:V) (v vl vu:Value) (lo hi:Option Int) (sl:Addr) (Q:VK),Inv X pins σ H s->RelV x v->s.heap.IsSliceOf sl vl vu .none->ke vl lo->ke vu hi->r x lo hi H Q ->
  ∃ T id,typeLookup (.type T) "__getitem__" = pure (some (.builtin id))/\s.TypeIs v T/\aV (model X.prog X.w) X.A (j8 v (.ref sl)) (EP X pins σ Q) X.xe s
noncomputable def Ds (xs:List V) (lo hi:Option Int):List V:=(xs.drop (HT.sIx xs.length 0 lo)).take (HT.sIx xs.length xs.length hi - HT.sIx xs.length 0 lo)
theorem Je (xs:List V) (lo hi:Option Int):(Ds xs lo hi).length<=xs.length:=by
 unfold Ds
 rw [aF,cg]
 omega
noncomputable def cj4 (K:ae):V->Option Int->Option Int->Hp->VK->Prop:=fun x lo hi H Q=>∃ a xs,x=.ref a/\SqT K H a xs /\
 ¬ (HT.sIx xs.length 0 lo=0/\HT.sIx xs.length xs.length hi=xs.length) /\ ∀ p,H p=none->Q (.ref p) (upd H p (.tup (Ds xs lo hi)))
theorem bt7:SlR X (cj4 X.K):=by
 intro pins s σ H x v vl vu lo hi sl Q I rx hs pl pu h
 obtain⟨a,xs,rfl,hx,hw,q⟩:=h
 cases rx
 obtain⟨its,r,ht,hz⟩:=I.tuple hx
 have hlen:its.toArray.size=xs.length:=by rw [av];exact r.length.symm
 refine⟨"tuple", _,PyProof.Rows.slot_tuple_getitem.lookup,ht.typeIs,?_⟩
 refine HT.getItem_tuple_cut ht hs pl pu (by rw [hlen];exact hw) ?_ (by rw [hlen];exact hz)
 rw [hlen]
 refine⟨.ref s.heap.objs.size,_,I.laid (t':=s.toks) (o:=.tup (Ds xs lo hi)) (fun b ob q=>aj _ q) (ak _) ?_,rfl,q _ (I.hok.fresh (ak _))⟩
 exact⟨ax (Je xs lo hi) hz,_,(r.drop (HT.sIx xs.length 0 lo)).take (HT.sIx xs.length xs.length hi - HT.sIx xs.length 0 lo),IsTup.new _ _⟩
noncomputable def a89 (K:ae):R2:=fun x y H Q=>∃ a b xs ys,x=.ref a/\y=.ref b/\SqT K H a xs/\SqT K H b ys/\xs≠[]/\xs.length+ys.length<=sizeLine /\
 (ys=[]->Q (.ref a) H)/\(ys≠[] -> ∀ p,H p=none->Q (.ref p) (upd H p (.tup (xs++ys))))
theorem Vals.nil_iff {xs:List V} {us:List Value} (r:Vals xs us):us=[] ↔ xs=[]:=by
 cases r with
 | nil=>simp
 | cons _ _=>simp
theorem op_catT:OpR X (dA .Add) (a89 X.K):=by
 intro pins s σ H x y v u Q I rx ry h
 obtain⟨a,b,xs,ys,rfl,rfl,ha,hb,hx,hz,q1,q2⟩:=h
 cases rx
 cases ry
 obtain⟨its,r1,p1,_⟩:=I.tuple ha
 obtain⟨its2,r2,p2,_⟩:=I.tuple hb
 refine HT.cat_tup p1 p2 (fun z=>hx (r1.nil_iff.mp z)) (fun z=>⟨.ref a,H,I,rfl,q1 (r2.nil_iff.mp z)⟩) (fun z=>?_) (by rw [<- r1.length,<- r2.length];exact hz)
 refine⟨.ref s.heap.objs.size,_,I.laid (t':=s.toks) (o:=.tup (xs++ys)) (fun b ob q=>aj _ q) (ak _) ?_,rfl,q2 (fun w=>z (r2.nil_iff.mpr w)) _ (I.hok.fresh (ak _))⟩
 exact⟨by rw [aJ];exact hz,_,r1.append r2,IsTup.new _ _⟩
end
noncomputable def ixN (n:Nat) (i:Int):Option Nat:=if 0<=i then (if i<n then some i.toNat else none) else if -(n:Int)<=i then some (i+n).toNat else none
noncomputable def atI {α:Type} (xs:List α) (i:Int):Option α:=(ixN xs.length i).bind fun j=>xs[j]?
theorem Xp {n:Nat} {i:Int} {j:Nat} (h:ixN n i=some j):seqIndex? i n=some j/\j<n /\ -(n:Int)<=i/\i<n:=by
 unfold ixN at h
 by_cases h0:0<=i
 ·rw [if_pos h0] at h
  by_cases h1:i<n
  ·rw [if_pos h1] at h
   have e:i.toNat=j:=aE h
   exact⟨by rw [ll h0 h1,e],by omega,by omega,h1⟩
  ·rw [if_neg h1] at h;cases h
 ·rw [if_neg h0] at h
  by_cases h1:-(n:Int)<=i
  ·rw [if_pos h1] at h
   have e:(i+n).toNat=j:=aE h
   exact⟨by rw [kW (by omega) h1,e],by omega,h1,by omega⟩
  ·rw [if_neg h1] at h;cases h
theorem Oo {α:Type} {xs:List α} {i:Int} {v:α} (h:atI xs i=some v):∃ j,seqIndex? i xs.length=some j/\xs[j]? = some v/\j<xs.length /\ -(xs.length:Int)<=i/\i<xs.length:=by
 unfold atI at h
 cases e:ixN xs.length i with
 | none=>rw [e] at h;cases h
 | some j=>
  rw [e] at h
  obtain⟨h1,h2,h3,h4⟩:=Xp e
  exact⟨j,h1,h,h2,h3,h4⟩
theorem Ar {α:Type} {xs:List α} {j:Nat} {v:α} (h:xs[j]? = some v):atI xs (j:Int)=some v:=by
 have hj:j<xs.length:=(List.getElem?_eq_some_iff.mp h).1
 have e:ixN xs.length (j:Int)=some j:=by
  unfold ixN
  rw [if_pos (by omega),if_pos (by omega)];simp
 unfold atI;rw [e];exact h
noncomputable def W5 (b:Expr):Prop:=∀ o i,subscripted b false o i=operate [o,i] (j8 o i)
noncomputable def IxR (X:Cx) (r:R2):Prop:=
 ∀ (value slice:Expr) (pins:List (Addr×Obj)) (s:al) (σ:St) (H:Hp) (x y:V) (v u:Value) (Q:VK),Inv X pins σ H s->RelV x v->RelV y u->r x y H Q ->
  subscripted slice false v u=operate [v,u] (j8 v u)->aV (model X.prog X.w) X.A (kG value slice v u) (EP X pins σ Q) X.xe s
noncomputable def MtR (X:Cx) (id:String) (r:V->List V->Hp->VK->Prop):Prop:=
 ∀ (pins:List (Addr×Obj)) (s:al) (σ:St) (H:Hp) (x:V) (xs:List V) (v:Value) (us:List Value) (Q:VK),Inv X pins σ H s->RelV x v->Vals xs us->r x xs H Q ->
  aV (model X.prog X.w) X.A (call (.builtin id) (v::us)) (EP X pins σ Q) X.xe s
section
variable {X:Cx} {a b:Expr} {ta tb:TE} {pos:Pos}
theorem b41 {r:R2} (hr:IxR X r) (ha:PE X a ta) (hb:PE X b tb) (hs:W5 b):PE X (.Subscript a b pos) (tOp r ta tb):=by
 intro pins s σ H Q I h
 exact Subscript_ (be2 ha hb I h fun v u s2 x y H2 I2 rx ry q=>hr a b pins s2 σ H2 x y v u Q I2 rx ry q (hs _ _))
noncomputable def ci8 (K:ae):R2:=fun x y H Q=>∃ p xs i v,x=.ref p/\y=.int i/\SqL K H p xs/\atI xs i=some v/\Q v H
noncomputable def cj0 (K:ae):R2:=fun x y H Q=>∃ p xs i v,x=.ref p/\y=.int i/\SqT K H p xs/\atI xs i=some v/\Q v H
noncomputable def ci9:R2:=fun x y H Q=>∃ z i c,x=.str z/\y=.int i/\z.length<=sizeLine/\atI z.cps.toList i=some c/\Q (.str ⟨#[c]⟩) H
theorem ax9:IxR X (ci8 X.K):=by
 intro value slice pins s σ H x y v u Q I rx ry h hs
 obtain⟨p,xs,i,z,rfl,rfl,hq,he,q⟩:=h
 cases rx
 obtain⟨t,rfl⟩:=ry
 obtain⟨its,r,pl,hz⟩:=I.list hq
 obtain⟨j,h1,h2,h3,h4,h5⟩:=Oo he
 obtain⟨w,ew,rw'⟩:=r.get h2
 have hl:=r.length
 have hn:=Gw
 have fin:EP X pins σ Q w s:=⟨z,H,I,rw',q⟩
 by_cases h0:0<=i
 ·have hj:i.toNat=j:=by
   rw [ll h0 h5] at h1
   exact aE h1
  exact item_listR pl.isList h0 (by omega) (by rw [hj];simpa using ew) fin hs
 ·have hj:(i+(its.toArray.size:Int)).toNat=j:=by
   rw [kW (by omega) h4] at h1
   rw [av,<- hl]
   exact aE h1
  exact jb (x:=w) pl.isList.typeIs slot_list_getitem.lookup
   (wpAny_getItem_list_neg (Q:=fun r s'=>r=w/\EP X pins σ Q r s') pl.isList (by omega) (by rw [av] <;> omega) (by omega) (by rw [hj];simpa using ew) ⟨rfl,fin⟩) hs
theorem bf7:IxR X (cj0 X.K):=by
 intro value slice pins s σ H x y v u Q I rx ry h hs
 obtain⟨p,xs,i,z,rfl,rfl,hq,he,q⟩:=h
 cases rx
 obtain⟨t,rfl⟩:=ry
 obtain⟨its,r,pl,hz⟩:=I.tuple hq
 obtain⟨j,h1,h2,h3,h4,h5⟩:=Oo he
 obtain⟨w,ew,rw'⟩:=r.get h2
 have hl:=r.length
 have hn:=Gw
 have fin:EP X pins σ Q w s:=⟨z,H,I,rw',q⟩
 exact jb (x:=w) pl.typeIs slot_tuple_getitem.lookup
  (getItem_tuple (j:=j) (Q:=fun r s'=>r=w/\EP X pins σ Q r s') pl (by omega) (by omega) (by rw [av,<- hl];exact h1) (by simpa using ew) ⟨rfl,fin⟩) hs
theorem bf6:IxR X ci9:=by
 intro value slice pins s σ H x y v u Q I rx ry h hs
 obtain⟨z,i,c,rfl,rfl,hz,he,q⟩:=h
 obtain⟨t,rfl⟩:=rx
 obtain⟨t',rfl⟩:=ry
 obtain⟨j,h1,h2,h3,h4,h5⟩:=Oo he
 have hl:z.cps.toList.length=z.length:=by simp [Str.length]
 rw [hl] at h1 h4 h5
 have hn:=Gw
 exact tail_any (typeIs_str s z t) slot_str_getitem.lookup (getItem_str (c:=c) (by
  have e1:decide (i < -(2 ^ 63:Int))=false:=decide_eq_false (by omega)
  have e2:decide (i ≥ 2 ^ 63)=false:=decide_eq_false (by omega)
  rw [e1,e2,iA]) (by rw [h1];simpa using h2) ⟨.str ⟨#[c]⟩,H,I.tok _,⟨_,rfl⟩,q⟩) hs
theorem Vc (its:List Value) (n j:Nat) (u:Value):bY (·.setIfInBounds j u) { cls:=.type "list", data:=.seq its.toArray n }={ cls:=.type "list", data:=.seq (its.set j u).toArray n }:=by
 simp [bY]
theorem Inv.lst {pins:List (Addr×Obj)} {σ:St} {H:Hp} {s:al} {p:Addr} {xs:List V} (I:Inv X pins σ H s) (h:H p=some (.lst xs)) :
  ∃ (its:List Value) (n:Nat),Vals xs its/\s.heap.get? p=some { cls:=.type "list", data:=.seq its.toArray n }/\xs.length<=sizeLine:=by
 obtain⟨z,its,n,r,e⟩:=I.hok p _ h
 exact⟨its,n,r,e,z⟩
theorem Inv.lstUpd {pins:List (Addr×Obj)} {σ:St} {H:Hp} {s:al} {p:Addr} {xs ys:List V} {its its':List Value} {n n':Nat} {f:Obj->Obj} (I:Inv X pins σ H s) (h:H p=some (.lst xs))
  (ho:s.heap.get? p=some { cls:=.type "list", data:=.seq its.toArray n }) (hf:f { cls:=.type "list", data:=.seq its.toArray n }={ cls:=.type "list", data:=.seq its'.toArray n' }) (r:Vals ys its') (hz:ys.length<=sizeLine) (t:Nat) (ht:s.toks<=t:=by first|exact ak _|exact aU _ _|assumption|omega|(dsimp only;omega)) :
  Inv X pins σ (upd H p (.lst ys)) { s with heap:=s.heap.update p f,toks:=t }:=by
 have e:(s.heap.update p f).get? p=some { cls:=.type "list", data:=.seq its'.toArray n' }:=by
  rw [b9 f ho (by rw [hf] <;> rfl),hf]
 refine I.write (x:=p) (e:=p) (by rw [h];trivial) (.inl rfl) (fun b u hb q=>(bJ _ _ (cA hb)).trans q) ⟨_,e⟩ ?_
 exact⟨hz,its',n',r,e⟩
noncomputable def b55:V->V->V->Hp->(Hp->Prop)->Prop:=fun o i v H Q=>∃ p xs k j,o=.ref p/\i=.int k/\H p=some (.lst xs)/\ixN xs.length k=some j/\Q (upd H p (.lst (xs.set j v)))
theorem aq3:bd6 X b55:=by
 intro pins s σ H o i v ov iv u Q I ro ri rv h
 obtain⟨p,xs,k,j,rfl,rfl,hp,hj,q⟩:=h
 cases ro
 obtain⟨t,rfl⟩:=ri
 obtain⟨its,n,r,ho,hz⟩:=I.lst hp
 obtain⟨h1,h2,h3,h4⟩:=Xp hj
 have hl:=r.length
 have hn:=Gw
 have I':Inv X pins σ (upd H p (.lst (xs.set j v))) { s with heap:=s.heap.update p (bY (·.setIfInBounds j u)) }:=
  I.lstUpd hp ho (Vc its n j u) (r.set rv j) (by rw [jm];exact hz) s.toks
 by_cases h0:0<=k
 ·have hk:k.toNat=j:=by
   rw [ll h0 h4] at h1
   exact aE h1
  exact PySem.W.ki_setAt ho h0 (by omega) (by rw [av,<- hl];exact h4) (by rw [hk];exact⟨_,I',q⟩)
 ·have hk:(k+(its.toArray.size:Int)).toNat=j:=by
   rw [kW (by omega) h3] at h1
   rw [av,<- hl]
   exact aE h1
  exact PySem.W.ki_setBack ho (by omega) (by rw [av,<- hl];exact h3) (by omega) (by rw [hk];exact⟨_,I',q⟩)
theorem Qe (lo hi:Option Int) (n:Nat):(f6 lo hi none n).1=((HT.sIx n 0 lo:Nat):Int)/\(f6 lo hi none n).2.1=((HT.sIx n n hi:Nat):Int)/\(f6 lo hi none n).2.2=1:=by
 refine⟨?_,?_,rfl⟩
 ·cases lo with
  | none=>simp [f6,HT.sIx]
  | some i=>
   simp only [f6,HT.sIx,Option.getD_none,show (1:Int) > 0 by decide,if_true]
   by_cases h:i<0
   ·simp only [h,if_true] <;> omega
   ·simp only [h,if_false] <;> omega
 ·cases hi with
  | none=>simp [f6,HT.sIx]
  | some i=>
   simp only [f6,HT.sIx,Option.getD_none,show (1:Int) > 0 by decide,if_true]
   by_cases h:i<0
   ·simp only [h,if_true] <;> omega
   ·simp only [h,if_false] <;> omega
theorem M2 (its:List Value) (lo hi:Option Int):slicePick its.toArray lo hi none=((its.drop (HT.sIx its.length 0 lo)).take (HT.sIx its.length its.length hi - HT.sIx its.length 0 lo)).toArray:=by
 obtain⟨h1,h2,h3⟩:=Qe lo hi its.toArray.size
 unfold slicePick
 rw [h1,h2,h3]
 simp only [sliceRange_one,pick_run,av] <;> rfl
noncomputable def cj3 (K:ae):V->Option Int->Option Int->Hp->VK->Prop:=fun x lo hi H Q=>∃ a xs,x=.ref a/\SqL K H a xs /\ ∀ p,H p=none->Q (.ref p) (upd H p (.lst (Ds xs lo hi)))
theorem a39:SlR X (cj3 X.K):=by
 intro pins s σ H x v vl vu lo hi sl Q I rx hs pl pu h
 obtain⟨a,xs,rfl,hx,q⟩:=h
 cases rx
 obtain⟨its,r,ht,hz⟩:=I.list hx
 have hlen:=r.length
 refine⟨"list", _,slot_list_getitem.lookup,ht.isList.typeIs,?_⟩
 refine wpAny_getItem_list_slice ht.isList hs pl pu .none (by simp) ?_ (by rw [av] <;> omega)
 rw [M2,<- hlen]
 refine⟨.ref s.heap.objs.size,_,I.laid (t':=s.toks) (o:=.lst (Ds xs lo hi)) (fun b ob q=>aj _ q) (ak _) ?_,rfl,q _ (I.hok.fresh (ak _))⟩
 exact⟨ax (Je xs lo hi) hz,_,0,(r.drop (HT.sIx xs.length 0 lo)).take (HT.sIx xs.length xs.length hi - HT.sIx xs.length 0 lo),aK _ rfl⟩
noncomputable def Bs:V->Bool
 | .non=>true
 | .bl _=>true
 | .int _=>true
 | .str _=>true
 | _=>false
noncomputable def eqV:V->V->Bool
 | .non,.non=>true
 | .bl a,.bl b=>a==b
 | .bl a,.int b=>(if a then 1 else 0)==b
 | .int a,.bl b=>a==(if b then 1 else 0)
 | .int a,.int b=>a==b
 | .str a,.str b=>a==b
 | _,_=>false
theorem Pf {A:bj} {s:al} {y x:V} {u v:Value} (ry:RelV y u) (rx:RelV x v) (fy:Bs y=true) (fx:Bs x=true):bi A s u v (eqV y x):=by
 cases y with
 | non=>
  cases ry
  cases x with
  | non=>cases rx;exact SeqAt.EqAt.same _
  | bl b=>cases rx;exact SeqAt.EqAt.none_bool b
  | int b=>obtain⟨t,rfl⟩:=rx;exact jZ b t
  | str b=>obtain⟨t,rfl⟩:=rx;exact j3 b t
  | _=>exact absurd (show false=true from fx) am
 | bl a=>
  cases ry
  cases x with
  | non=>cases rx;exact SeqAt.EqAt.bool_none a
  | bl b=>cases rx;exact SeqAt.EqAt.bool_bool a b
  | int b=>obtain⟨t,rfl⟩:=rx;exact SeqAt.EqAt.bool_int a b t
  | str b=>obtain⟨t,rfl⟩:=rx;exact SeqAt.EqAt.bool_str a b t
  | _=>exact absurd (show false=true from fx) am
 | int a=>
  obtain⟨t',rfl⟩:=ry
  cases x with
  | non=>cases rx;exact jY a t'
  | bl b=>cases rx;exact SeqAt.EqAt.int_bool a t' b
  | int b=>obtain⟨t,rfl⟩:=rx;exact kz a t' b t
  | str b=>obtain⟨t,rfl⟩:=rx;exact kA a t' b t
  | _=>exact absurd (show false=true from fx) am
 | str a=>
  obtain⟨t',rfl⟩:=ry
  cases x with
  | non=>cases rx;exact j5 a t'
  | bl b=>cases rx;exact SeqAt.EqAt.str_bool a t' b
  | int b=>obtain⟨t,rfl⟩:=rx;exact kB a t' b t
  | str b=>obtain⟨t,rfl⟩:=rx;exact SeqAt.EqAt.str_str a t' b t
  | _=>exact absurd (show false=true from fx) am
 | _=>exact absurd (show false=true from fy) am
noncomputable def eqU (x:V) (u:Value):Bool:=match u with
 | .none=>eqV .non x
 | .bool b=>eqV (.bl b) x
 | .int i _=>eqV (.int i) x
 | .str z _=>eqV (.str z) x
 | _=>false
theorem ai2 {x y:V} {u:Value} (r:RelV y u) (f:Bs y=true):eqU x u=eqV y x:=by
 cases y with
 | non=>cases r;rfl
 | bl b=>cases r;rfl
 | int i=>obtain⟨t,rfl⟩:=r;rfl
 | str z=>obtain⟨t,rfl⟩:=r;rfl
 | _=>exact absurd (show false=true from f) am
theorem G4 {x:V}:∀ {xs:List V} {us:List Value},Vals xs us->xs.all Bs=true->us.any (eqU x)=xs.any fun y=>eqV y x
 | _,_,.nil,_=>rfl
 | y::xs,u::us,.cons r t,f=>by
  rw [bt,aA] at f
  rw [dL,dL,ai2 r f.1,G4 t f.2]
theorem Fw {A:bj} {s:al} {x:V} {v:Value} (rx:RelV x v) (fx:Bs x=true):∀ {xs:List V} {us:List Value},Vals xs us->xs.all Bs=true -> ∀ u∈us,bi A s u v (eqU x u)
 | _,_,.nil,_=>fun u hu=>by cases hu
 | y::xs,u::us,.cons r t,f=>fun u' hu=>by
  rw [bt,aA] at f
  rcases List.mem_cons.mp hu with rfl|hu
  ·rw [ai2 r f.1];exact Pf r rx f.1 fx
  ·exact Fw rx fx t f.2 u' hu
noncomputable def inV (x:V) (xs:List V):Bool:=xs.any fun y=>eqV y x
noncomputable def rIn (K:ae) (neg:Bool):R2:=fun x y H Q=>∃ p xs,y=.ref p/\(SqL K H p xs\/SqT K H p xs)/\Bs x=true/\xs.all Bs=true/\Q (.bl (if neg then !inV x xs else inV x xs)) H
theorem N9:OpR X (cu .In) (rIn X.K false):=by
 intro pins s σ H x y v u Q I rx ry h
 obtain⟨p,xs,rfl,hq,fx,fs,q⟩:=h
 cases ry
 rcases hq with hq|hq
 ·obtain⟨its,r,pl,hz⟩:=I.list hq
  refine SeqAt.in_listAt (eqU x) pl.isList (fun w hw=>Fw rx fx r fs w (by simpa using hw)) ⟨.bl _,H,I,rfl,?_⟩
  rw [show its.toArray.any (eqU x)=its.any (eqU x) by simp,G4 r fs]
  exact q
 ·obtain⟨its,r,pl,hz⟩:=I.tuple hq
  refine SeqAt.in_tupleAt (eqU x) pl (fun w hw=>Fw rx fx r fs w (by simpa using hw)) ⟨.bl _,H,I,rfl,?_⟩
  rw [show its.toArray.any (eqU x)=its.any (eqU x) by simp,G4 r fs]
  exact q
theorem Hr:OpR X (cu .NotIn) (rIn X.K true):=by
 intro pins s σ H x y v u Q I rx ry h
 obtain⟨p,xs,rfl,hq,fx,fs,q⟩:=h
 cases ry
 rcases hq with hq|hq
 ·obtain⟨its,r,pl,hz⟩:=I.list hq
  refine SeqAt.notIn_listAt (eqU x) pl.isList (fun w hw=>Fw rx fx r fs w (by simpa using hw)) ⟨.bl _,H,I,rfl,?_⟩
  rw [show its.toArray.any (eqU x)=its.any (eqU x) by simp,G4 r fs]
  exact q
 ·obtain⟨its,r,pl,hz⟩:=I.tuple hq
  refine SeqAt.notIn_tupleAt (eqU x) pl (fun w hw=>Fw rx fx r fs w (by simpa using hw)) ⟨.bl _,H,I,rfl,?_⟩
  rw [show its.toArray.any (eqU x)=its.any (eqU x) by simp,G4 r fs]
  exact q
theorem Ou:C3 X (.builtin "len") (fun xs H Q=>∃ p ys,xs=[.ref p]/\(SqL X.K H p ys\/SqT X.K H p ys)/\Q (.int ys.length) H):=by
 intro pins s σ H xs us Q I r h
 obtain⟨p,ys,rfl,hq,q⟩:=h
 obtain⟨u,rfl,rx⟩:=F9 r
 cases rx
 have hn:=Gw
 rcases hq with hq|hq
 ·obtain⟨its,r',pl,hz⟩:=I.list hq
  have hlen:=r'.length
  exact Calls.call_len_list pl.isList (by simp only [av] <;> omega) ⟨.int ys.length,H,I.tok _,⟨s.toks+1,by rw [av,hlen]⟩,q⟩
 ·obtain⟨its,r',pl,hz⟩:=I.tuple hq
  have hlen:=r'.length
  exact len_tuple pl (by simp only [av] <;> omega) ⟨.int ys.length,H,I.tok _,⟨s.toks+1,by rw [av,hlen]⟩,q⟩
theorem Ov:C3 X (.builtin "len") (fun xs H Q=>∃ z,xs=[.str z]/\z.length<=sizeLine/\Q (.int z.length) H):=by
 intro pins s σ H xs us Q I r h
 obtain⟨z,rfl,hz,q⟩:=h
 obtain⟨u,rfl,t,rfl⟩:=F9 r
 have hn:=Gw
 exact len_str (by omega) ⟨.int z.length,H,I.tok _,⟨_,rfl⟩,q⟩
theorem Ow:C3 X (.type "list") (fun xs H Q=>∃ p ys,xs=[.ref p]/\(SqL X.K H p ys\/SqT X.K H p ys) /\ ∀ l,H l=none->Q (.ref l) (upd H l (.lst ys))):=by
 intro pins s σ H xs us Q I r h
 obtain⟨p,ys,rfl,hq,q⟩:=h
 obtain⟨u,rfl,rx⟩:=F9 r
 cases rx
 have fin:∀ (its:List Value),Vals ys its->ys.length<=sizeLine -> ∀ (h':Heap) (c':Nat),(∀ b o',s.heap.get? b=some o'->h'.get? b=some o') ->
   h'.get? s.heap.objs.size=some { cls:=.type "list", dict:=none,data:=.seq its.toArray c',slots:=#[] }->EP X pins σ Q (.ref s.heap.objs.size) { s with heap:=h' }:=fun its r' hz h' c' kp e=>
  ⟨.ref s.heap.objs.size,_,I.laid (t':=s.toks) kp (ak _) (show ObjOk X.prog X.w _ h' _ (.lst ys) from⟨hz,its,c',r',e⟩),rfl,q _ (I.hok.fresh (ak _))⟩
 rcases hq with hq|hq
 ·obtain⟨its,r',pl,hz⟩:=I.list hq
  have hlen:=r'.length
  obtain⟨o,ho,hc,n,hd⟩:=pl.isList
  exact call_list_seq p (.inl rfl) ho hc hd (fun h' c' kp e=>fin its r' hz h' c' kp e) (by simp only [av] <;> omega)
 ·obtain⟨its,r',pl,hz⟩:=I.tuple hq
  have hlen:=r'.length
  obtain⟨o,ho,hc,n,hd⟩:=pl
  exact call_list_seq p (.inr rfl) ho hc hd (fun h' c' kp e=>fin its r' hz h' c' kp e) (by simp only [av] <;> omega)
theorem Mu:C3 X (.type "tuple") (fun xs H Q=>∃ p ys,xs=[.ref p]/\((SqL X.K H p ys /\ ∀ l,H l=none->Q (.ref l) (upd H l (.tup ys)))\/(SqT X.K H p ys/\Q (.ref p) H))):=by
 intro pins s σ H xs us Q I r h
 obtain⟨p,ys,rfl,h⟩:=h
 obtain⟨u,rfl,rx⟩:=F9 r
 cases rx
 rcases h with ⟨hq,q⟩|⟨hq,q⟩
 ·obtain⟨its,r',pl,hz⟩:=I.list hq
  have hlen:=r'.length
  refine call_tuple_list pl.isList (fun h' kp=>?_) (by simp only [av] <;> omega)
  have I1:Inv X pins σ H { s with heap:=h' }:=I.kept (t':=s.toks) kp
  have I2:Inv X pins σ (upd H h'.objs.size (.tup ys)) { s with heap:=h'.push { cls:=.type "tuple", data:=.seq its.toArray } }:=
   I1.laid (t':=s.toks) (fun b o e=>aj _ e) (ak _) (show ObjOk X.prog X.w _ _ _ (.tup ys) from⟨hz,its,r',IsTup.new _ _⟩)
  exact⟨.ref h'.objs.size,_,I2,rfl,q _ (I1.hok.fresh (ak _))⟩
 ·obtain⟨its,r',pl,hz⟩:=I.tuple hq
  exact call_tuple_same pl ⟨.ref p,H,I,rfl,q⟩
noncomputable def tyV (K:ae) (T:String) (x:V) (H:Hp):Prop:=match x with
 | .str _=>T = "str"
 | .int _=>T = "int"
 | .ref p=>(T = "list" /\ ∃ xs,SqL K H p xs)\/(T = "tuple" /\ ∃ o,K.lookup p=some o/\o.cls=.type "tuple" /\ o.dict=none) \/
   (T = "dict" /\ ((∃ kvs,H p=some (.dK kvs)) \/ ∃ kvs,H p=some (.dT kvs)))\/(T = "set" /\ ∃ S n,H p=some (.set S n))
 | _=>False
theorem as8 {pins:List (Addr×Obj)} {σ:St} {H:Hp} {s:al} {T:String} {x:V} {v:Value} (I:Inv X pins σ H s) (r:RelV x v) (ty:tyV X.K T x H) :
  s.TypeIs v T /\ ∀ a,v=.ref a -> ∃ ob,s.heap.get? a=some ob/\ob.dict=none:=by
 cases x with
 | str z=>
  obtain⟨t,rfl⟩:=r
  cases (show T = "str" from ty)
  exact⟨typeIs_str s z t,fun _ e=>nomatch e⟩
 | int i=>
  obtain⟨t,rfl⟩:=r
  cases (show T = "int" from ty)
  exact⟨typeIs_int s i t,fun _ e=>nomatch e⟩
 | ref p=>
  cases r
  rcases ty with ⟨rfl,xs,hq⟩|⟨rfl,o,hk,hc,hd⟩|⟨rfl,hk⟩|⟨rfl,S,n,hk⟩
  ·obtain⟨its,_,pl,_⟩:=I.list hq
   refine⟨pl.isList.typeIs,fun a e=>?_⟩
   cases e
   obtain⟨o,n,e,c,hd,_⟩:=pl
   exact⟨o,e,hd⟩
  ·refine⟨⟨o,I.kIn p o hk,hc⟩,fun a e=>?_⟩
   cases e
   exact⟨o,I.kIn _ o hk,hd⟩
  ·have z:∃ o,s.heap.get? p=some o/\o.ExactDict:=by
    rcases hk with ⟨kvs,hk⟩|⟨kvs,hk⟩
    ·obtain⟨_,_,_,_,o,_,_,e,ex,_⟩:=I.hok p _ hk
     exact⟨o,e,ex⟩
    ·obtain⟨_,_,_,_,o,_,_,e,ex,_⟩:=I.hok p _ hk
     exact⟨o,e,ex⟩
   obtain⟨o,e,ex⟩:=z
   refine⟨⟨o,e,ex.1⟩,fun a e2=>?_⟩
   cases e2
   exact⟨o,e,ex.2.1⟩
  ·obtain⟨o,_,_,_,e,ex,_⟩:=I.hok p _ hk
   refine⟨⟨o,e,ex.1⟩,fun a e2=>?_⟩
   cases e2
   exact⟨o,e,ex.2.1⟩
 | _=>exact cL ty
variable {o e:Expr} {es:List Expr} {to:TE} {t:TA} {name:Str} {apos cpos:Pos} {T id:String} {r:V->List V->Hp->VK->Prop}
end
noncomputable def MtM (X:Cx) (id:String) (r:V->List V->Hp->VK->Prop):Prop:=
 ∀ (pins:List (Addr×Obj)) (s:al) (σ:St) (H:Hp) (x:V) (xs:List V) (v:Value) (us:List Value) (Q:VK),Inv X pins σ H s->RelV x v->Vals xs us->r x xs H Q ->
  aV (model X.prog X.w) X.A (call (.builtin id) (v::us)) (EP X pins σ Q) X.xe s
theorem Vals.one:∀ {x:V} {us:List Value},Vals [x] us -> ∃ u,us=[u]/\RelV x u
 | _,_,.cons r .nil=>⟨_,rfl,r⟩
theorem Vals.two:∀ {x y:V} {us:List Value},Vals [x,y] us -> ∃ u v,us=[u,v]/\RelV x u/\RelV y v
 | _,_,_,.cons r (.cons q .nil)=>⟨_,_,rfl,r,q⟩
theorem Vals.zero:∀ {us:List Value},Vals [] us->us=[]
 | _,.nil=>rfl
section
variable {X:Cx} {pins:List (Addr×Obj)} {σ:St} {H:Hp} {s:al} {l b:Addr} {xs ys zs:List V}
theorem Inv.lset {its its':List Value} {n:Nat} {f:Array Value->Array Value} {t':Nat} (I:Inv X pins σ H s) (hH:H l=some (.lst xs))
  (e:s.heap.get? l=some { cls:=.type "list", data:=.seq its.toArray n }) (hf:f its.toArray=its'.toArray) (hv:Vals ys its') (hz:ys.length<=sizeLine) (ht:s.toks<=t':=by first|exact ak _|exact aU _ _|assumption|omega|(dsimp only;omega)) :
  Inv X pins σ (upd H l (.lst ys)) { s with heap:=s.heap.update l (bY f),toks:=t' }:=by
 have q:=PySem.IsL.update e f
 rw [hf] at q
 refine I.write (x:=l) (e:=l) (by rw [hH];exact trivial) (.inl rfl) (fun b' u hb hu=>(bJ s.heap (bY f) (cA hb)).trans hu) ⟨_,q⟩ ?_
 exact⟨hz,its',_,hv,q⟩
theorem Inv.lnew {its:List Value} {t':Nat} (I:Inv X pins σ H s) (hv:Vals ys its) (hz:ys.length<=sizeLine) (ht:s.toks<=t':=by first|exact ak _|exact aU _ _|assumption|omega|(dsimp only;omega)) :
  Inv X pins σ (upd H s.heap.objs.size (.lst ys)) { s with heap:=s.heap.push { cls:=.type "list", data:=.seq its.toArray },toks:=t' }:=
 I.laid (fun _ _ q=>aj _ q) (ak _) ⟨hz,its,0,hv,aK _ rfl⟩ ht
theorem Inv.fresh (I:Inv X pins σ H s):H s.heap.objs.size=none:=I.hok.fresh (ak _)
theorem Inv.lstM (I:Inv X pins σ H s) (hH:H l=some (.lst xs)):xs.length<=sizeLine /\ ∃ (its:List Value) (n:Nat),Vals xs its/\xs.length=its.length/\s.heap.get? l=some { cls:=.type "list", data:=.seq its.toArray n }:=by
 obtain⟨z,its,n,r,e⟩:=I.hok l _ hH
 exact⟨z,its,n,r,r.length,e⟩
theorem am2 {n:Nat} (h:n<=sizeLine):eZ n=false:=by
 unfold eZ
 exact decide_eq_false (by omega)
end
section
variable {X:Cx}
noncomputable def Ch:V->List V->Hp->VK->Prop:=fun x vs H Q=>∃ l xs y,x=.ref l/\vs=[y]/\H l=some (.lst xs)/\xs.length<sizeLine/\Q .non (upd H l (.lst (xs++[y])))
theorem Nz:MtM X "list.append" Ch:=by
 intro pins s σ H x vs v us Q I rx rv h
 obtain⟨l,xs,y,rfl,rfl,hH,hz,q⟩:=h
 cases rx
 obtain⟨u,rfl,ru⟩:=rv.one
 obtain⟨z,its,n,r,hl,e⟩:=I.lstM hH
 refine kJ F.slot_list_append ⟨_,e,rfl⟩ F.entry_list_append (F.args_list_append_2 _ _) (PySem.list_append l its.toArray n u (by rw [av];omega)) ⟨e,?_⟩
 refine⟨.non,_,I.lset (its':=its++[u]) hH e (by simp) (r.append (.cons ru .nil)) ?_,rfl,q⟩
 rw [aJ,dw]
 omega
noncomputable def D4:V->List V->Hp->VK->Prop:=fun x vs H Q=>∃ l b xs zs,x=.ref l/\vs=[.ref b]/\H l=some (.lst xs)/\H b=some (.lst zs)/\xs.length+zs.length<=sizeLine/\Q .non (upd H l (.lst (xs++zs)))
theorem Zp:MtM X "list.extend" D4:=by
 intro pins s σ H x vs v us Q I rx rv h
 obtain⟨l,b,xs,zs,rfl,rfl,hH,hB,hz,q⟩:=h
 cases rx
 obtain⟨u,rfl,ru⟩:=rv.one
 cases ru
 obtain⟨z,its,n,r,hl,e⟩:=I.lstM hH
 obtain⟨z2,its2,n2,r2,hl2,e2⟩:=I.lstM hB
 have hsz:its.toArray.size+its2.toArray.size<=sizeLine:=by rw [av,av];omega
 have hlong:¬ (!its.toArray.isEmpty&&eZ (its.toArray.size+its2.toArray.size))=true:=by
  rw [am2 hsz,c_]
  exact am
 refine kJ F.slot_list_extend ⟨_,e,rfl⟩ F.entry_list_extend (F.args_list_extend_2 _ _)
  (AutoSeq1.list_extend_list_list_0 l its.toArray n b its2.toArray n2 hlong (by rw [av];omega) (by omega)) ⟨e,e2,?_⟩
 refine⟨.non,_,I.lset (its':=its++its2) hH e (by simp) (r.append r2) ?_,rfl,q⟩
 rw [aJ]
 omega
noncomputable def Vp:V->List V->Hp->VK->Prop:=fun x vs H Q=>∃ l xs,x=.ref l/\vs=[]/\H l=some (.lst xs)/\Q .non (upd H l (.lst []))
theorem al5:MtM X "list.clear" Vp:=by
 intro pins s σ H x vs v us Q I rx rv h
 obtain⟨l,xs,rfl,rfl,hH,q⟩:=h
 cases rx
 have hus:=rv.zero
 subst hus
 obtain⟨z,its,n,r,hl,e⟩:=I.lstM hH
 refine kJ F.slot_list_clear ⟨_,e,rfl⟩ F.entry_list_clear (F.args_list_clear_1 _) (AutoSeq1.list_clear_list_0 l its.toArray n (by rw [av];omega)) ⟨e,?_⟩
 exact⟨.non,_,I.lset (its':=[]) (ys:=[]) hH e rfl .nil (bR _),rfl,q⟩
noncomputable def b53:R2:=fun x y H Q=>∃ l b xs zs,x=.ref l/\y=.ref b/\H l=some (.lst xs)/\H b=some (.lst zs)/\xs.length+zs.length<=sizeLine /\ ∀ p,H p=none->Q (.ref p) (upd H p (.lst (xs++zs)))
theorem op_cat:OpR X (dA .Add) b53:=by
 intro pins s σ H x y v u Q I rx ry h
 obtain⟨l,b,xs,zs,rfl,rfl,hH,hB,hz,q⟩:=h
 cases rx
 cases ry
 obtain⟨z,its,n,r,hl,e⟩:=I.lstM hH
 obtain⟨z2,its2,n2,r2,hl2,e2⟩:=I.lstM hB
 refine PySem.P.add_list e e2 ?_ (by rw [av,av];omega)
 have ea:its.toArray++its2.toArray=(its++its2).toArray:=by simp
 rw [ea]
 exact⟨.ref _,_,I.lnew (t':=s.toks) (r.append r2) (by rw [aJ];omega),rfl,q _ I.fresh⟩
end
section
variable {prog:aW} {w:bE} {A:bj} {E:Value->al->Prop} {s:al}
set_option maxRecDepth 100000 in
end
section
variable {X:Cx}
end
end L2
namespace Att
open PySem PySem.W PySem.Calls PyProof.Rows
theorem Jv {P:Params} {h:Heap}:∀ (ns:List Int) (vs:List Value),WellAll P h vs (ns.map WData.int)->lD vs ns:=by
 intro ns
 induction ns with
 | nil=>
  intro vs w
  rw [gc] at w
  cases w
  exact .nil
 | cons n ns ih=>
  intro vs w
  rw [aQ] at w
  cases w with
  | cons a b=>
   cases a
   exact .cons _ _ (ih _ b)
theorem Z5 {l:OpenLaw} {n:Nat} (hn:l.most=some n) {P:Params} {h:Heap} {args:List WData} {vals:List Value}
  (hpre:l.row.toRowW.claim.pre args=true) (hwl:WellAll P h vals args) :
  ∃ a vs ns,vals=[bp a]/\args=[WData.list (ns.map WData.int)]/\h.get? a=some { cls:=.type "list", data:=.seq vs.toArray }/\lD vs ns/\ns.length<=n:=by
 have hsh:WShape.hasAll [] args [.list .int]=true:=(pre_splitW hpre).1
 have hc:l.pre.holds [] { args:=args }=true:=(pre_splitW hpre).2
 obtain⟨d,r,rfl,h1,h2⟩:=hasAllW_cons hsh
 obtain rfl:=hasAllW_nil h2
 obtain⟨xs,rfl,h3⟩:=hasW_list h1
 obtain⟨ns,rfl⟩:=items_int h3
 have hlen:ns.length<=n:=by
  unfold OpenLaw.pre at hc
  have h4:(WTm.not (.lt (.lit (.int (n:Int))) (.len (.arg 0)))).holds [] { args:=[.list (ns.map .int)] }=true:=by
   have h4:=(holds_andW hc).1
   rw [hn] at h4
   exact h4
  have h5:=condW_of h4 (w_not (w_lt w_lit (w_len_list (w_arg rfl))))
  rw [ac] at h5
  refine Nat.le_of_not_lt fun q=>?_
  have q':(n:Int)<((ns.length:Nat):Int):=by omega
  first
   | (rw [decide_eq_true q'] at h5;exact absurd h5 (by decide))
   | (simp at h5;omega)
 cases hwl with
 | cons w1 w2=>
  cases w2
  cases w1 with
  | list ho hall=>exact⟨_,_,ns,rfl,rfl,ho,Jv ns _ hall,hlen⟩
theorem Zz (l:OpenLaw) (args:List WData):l.row.toRowW.claim.post args (.bool true) args=true:=
 postW_of (r:=l.row.toRowW) (X:=(true==true))
  (show WShape.has [] (.bool true) .bool=true by first|rfl|decide|simp [WShape.has,WShape.arms,WShape.armsAll])
  (show (WTm.eq .res (.lit (.bool true))).value [] { args:=args,res:=some (.bool true),after:=args }=some (.bool (true==true)) from w_eq_bool (w_res rfl) w_lit) rfl
theorem attach_call {l:OpenLaw} {n:Nat} {q:aW} {loose:List Str} {XP:(Str->Option Value)->Heap->Prop} {YP:bE->Heap->Prop} {d:DefRec}
  (hn:l.most=some n) (hdf:d.params.defaults=[])
  (call:∀ (w:bE) (s₀ s₁:al) (mg mb:Str->Option Value) (fa:Addr) (o:Obj) (pm cd doc:Value) (a:Addr) (vs:List Value) (ns:List Int),
   Ground q loose [] XP w s₀ mg mb s₁.heap->YP w s₁.heap ->
   s₁.heap.get? fa=some o->o.data=.func (docDef d.name d.params d.body d.scope pm cd doc)->s₁.heap.CodeRec cd d.name->mg d.name=some (.ref fa) ->
   s₁.heap.get? a=some { cls:=.type "list", data:=.seq vs.toArray }->lD vs ns->ns.length<=n->s₁.gens = #[] ->
   fZ (model l.prog w) kK (.call (.ref fa) ⟨[.ref a],[]⟩) (fun r s'=>r=.ok (.ret (.bool true))/\OldK s₁.heap s'.heap/\s'.os=s₁.os/\jf s'.gens) s₁) :
  WalkO q loose XP YP l.row.toRowW d [] (fun f vs=>PySem.call f vs):=by
 intro w s₀ s₁ mg mb G Y fa o pm cd doc dV kV ho hd hcd hD hmg hg args vals as hpre hlay hrd hwl hlo
 obtain rfl:dV=.none:=Dflts.none hD hdf
 obtain rfl:kV=.none:=Dflts.noKw hD
 obtain⟨a,vs,ns,rfl,rfl,hobj,hints,hlen⟩:=Z5 hn hpre hwl
 refine enter_call (gk (call w s₀ s₁ mg mb fa o pm cd doc a vs ns G Y ho (fd_plain hd) hcd hmg hobj hints hlen hg) fun r s' hq=>?_)
 obtain⟨rfl,h2,h3,h4⟩:=hq
 exact⟨.inl ⟨.bool true,.bool true,[],rfl,fun _=>rfl,.bool true,Zz l _,fun _=>⟨List.Pairwise.nil,fun _ hm=>(nomatch hm)⟩⟩,h2,h3,h4⟩
section
variable {prog:aW} {w:bE} {A:bj} {E:Value->al->Prop} {s:al} {K:Frag}
end
end Att
namespace L2
open PySem PySem.Spec PyProof.Rows
theorem Oi:∀ {vs:List Value} {ns:List Int},lD vs ns->Vals (ns.map V.int) vs
 | _,_,.nil=>.nil
 | _,_,.cons n t h=>.cons ⟨t,rfl⟩ (Oi h)
noncomputable def bd4 (H:Hp):Prop:=∀ b,H b=none \/ ∃ o xs,H b=some (.frz o (.lst xs))
theorem ak2 {P:aW} {w:bE} {K:ae} {mg mb:Str->Option Value} {CX:CXT} {k:Nat} {fa a:Addr} {fd:aB} {x:Str} {sp:Sp} {s₁:al} {vs:List Value} {ns:List Int}
  (KX:K.In s₁.heap) (hns:s₁.heap.Ns bc mg) (hb:s₁.heap.Ns builtinsNs mb) (hbb:∀ x:Str,x ≠ "__name__" -> mb x=dj x) (htk:W6 K s₁.toks) (hlim:s₁.heap.NoLimit) (hg:s₁.gens = #[])
  (ha:s₁.heap.get? a=some { cls:=.type "list", data:=.seq vs.toArray }) (hi:lD vs ns) (hl:ns.length<=sizeLine) (hr:Room k kK)
  (F:∀ base:Heap,K.In base->base.Ns bc mg->FnOk P w K mg base CX k fa fd [x] sp) (hbind:∀ (s:al) (u:Value),kY s fd ⟨[u],[]⟩ [(x,u)])
  (hsp:∀ H:Hp,bd4 H->SqL K H a (ns.map V.int)->sp [.ref a] H (fun v _=>v=.bl true) fun _ _ _=>False)
  (hCX:∀ H e s',CX [] H s₁ (fun _ _ _=>False) e s'->False) :
  fZ (model P w) kK (.call (.ref fa) ⟨[.ref a],[]⟩) (fun r s'=>r=.ok (.ret (.bool true))/\OldK s₁.heap s'.heap/\s'.os=s₁.os/\jf s'.gens) s₁:=by
 have rv:=Oi hi
 have lenV:=hi.length
 have core:∀ H:Hp,bd4 H->SqL K H a (ns.map V.int)->HOk P w H s₁.heap->(∀ b,H b≠none->b=a)->(H a≠none->K.lookup a=none) ->
   fZ (model P w) kK (.call (.ref fa) ⟨[.ref a],[]⟩) (fun r s'=>r=.ok (.ret (.bool true))/\OldK s₁.heap s'.heap/\s'.os=s₁.os/\jf s'.gens) s₁:=by
  intro H hO hS hok hA hK
  have base_of:∀ {b:Addr} {o:Obj},s₁.heap.get? b=some o->H b=none->(Pj s₁.heap H).get? b=some o:=fun e n=>aj4 e n
  have noA:∀ {b:Addr} {o:Obj} {es:Array DictEntry} {ep:Nat},s₁.heap.get? b=some o->o.data=.dict es ep->H b=none:=fun {b o es ep} e d=>by
   cases q:H b with
   | none=>rfl
   | some u=>
    have e':b=a:=hA b (by rw [q];simp)
    subst e'
    rw [ha] at e;cases e
    have d':Data.seq vs.toArray _=Data.dict es ep:=d
    cases d'
  have nsK:∀ {b:Addr} {m:Str->Option Value},s₁.heap.Ns b m->(Pj s₁.heap H).Ns b m:=fun {b m} ⟨o,es,ep,e,d,r⟩=>⟨o,es,ep,base_of e (noA e d),d,r⟩
  have hKb:K.In (Pj s₁.heap H):=fun b o e=>base_of (KX b o e) (by
   cases q:H b with
   | none=>rfl
   | some u=>
    have e':b=a:=hA b (by rw [q];simp)
    subst e'
    rw [hK (by rw [q];simp)] at e;cases e)
  have hM:Mod K mg (Pj s₁.heap H):=⟨hKb,nsK hns,⟨mb,nsK hb,hbb⟩,let ⟨mc,h1,h2⟩:=hlim;⟨mc,nsK h1,h2⟩⟩
  have e0:Env0 P w K mg (Pj s₁.heap H) kK [] s₁ H:=⟨rfl,hM,fun b o e=>az0 e,jr (Zc _ _),trivial,fun b hb=>absurd (show b∈([]:List Addr) from hb) (by simp),hok,.of_eq hg,htk⟩
  refine gk ((F _ hKb (nsK hns)).run kK [] s₁ H ⟨[.ref a],[]⟩ [.ref a] [.ref a] _ _ hr e0 (hbind s₁ (.ref a)) (.cons rfl .nil) (hsp H hO hS)) fun r s' h=>?_
  cases r with
  | error e=>exact (hCX H e s' h).elim
  | ok fl=>
   cases fl with
   | next=>exact cL h
   | brk=>exact cL h
   | cont=>exact cL h
   | ret u=>
    obtain⟨v,H',os,bare,un,hok',r',q⟩:=h
    have q':v=.bl true:=q
    subst q'
    obtain rfl:u=jG true:=r'
    refine⟨rfl,OldK.of_keep fun b o e=>?_,os.1,bare⟩
    cases q:H b with
    | none=>exact un.keep b o e q (by intro z;exact absurd (show b∈([]:List Addr) from z) (by simp)) (by simp)
    | some u=>
     rcases hO b with z|⟨ob,xs,z⟩
     ·rw [q] at z;cases z
     ·have z2:=un.frzs b ob _ z
      obtain⟨e1,_⟩:=hok b _ z
      obtain⟨e2,_⟩:=hok' b _ z2
      rw [e] at e1;cases e1
      exact e2
 cases hk:K.lookup a with
 | some o=>
  have e:=KX a o hk
  rw [ha] at e
  cases e
  refine core (fun _=>none) (fun _=>.inl rfl) (.inr ⟨_,vs.toArray,_,hk,rfl,rfl,rfl,by rw [av,lenV];exact hl,by rw [aY];intro v hv;obtain⟨i,_,rfl⟩:=List.mem_map.mp hv;rfl,by simpa using rv⟩) (fun b u z=>by have z':(none:Option HO)=some u:=z;cases z') (fun b z=>absurd rfl z) fun z=>absurd rfl z
 | none=>
  refine core (fun b=>if b=a then some (.frz { cls:=.type "list", data:=.seq vs.toArray } (.lst (ns.map V.int))) else none) (fun b=>?_) (.inl (.inr ⟨{ cls:=.type "list", data:=.seq vs.toArray },if_pos rfl⟩)) (fun b u z=>?_) (fun b z=>?_) fun _=>hk
  ·by_cases hb:b=a
   ·exact .inr ⟨_,_,if_pos hb⟩
   ·exact .inl (if_neg hb)
  ·by_cases hb:b=a
   ·have z':=(if_pos hb).symm.trans z
    cases z'
    subst hb
    exact⟨ha,by rw [ac];exact hl,vs,_,rv,ha⟩
   ·have z':=(if_neg hb).symm.trans z
    cases z'
  ·by_cases hb:b=a
   ·exact hb
   ·exact absurd (if_neg hb) z
theorem walk_of {l:jx} {n k:Nat} {q:aW} {loose:List Str} {XP:(Str->Option Value)->Heap->Prop} {YP:bE->Heap->Prop} {d:DefRec} {K:Params->ae} {CX:bE->CXT} {sp:bE->Sp} {x:Str}
  (hT:∀ (w:bE) (m:Nat),W6 (K w.params) m) (hn:l.most=some n) (hn2:n<=sizeLine) (hdf:d.params.defaults=[]) (hr:Room k kK)
  (hY:∀ (w:bE) (h:Heap),YP w h->(K w.params).In h)
  (F:∀ (w:bE) (mg:Str->Option Value) (fa:Addr) (h:Heap),(K w.params).In h->h.Ns bc mg->mg d.name=some (.ref fa) ->
   ∃ fd:aB,(∀ (s:al) (u:Value),kY s fd ⟨[u],[]⟩ [(x,u)]) /\
    ∀ base:Heap,(K w.params).In base->base.Ns bc mg->FnOk l.prog w (K w.params) mg base (CX w) k fa fd [x] (sp w))
  (hsp:∀ (w:bE) (H:Hp) (a:Addr) (ns:List Int),ns.length<=n->bd4 H->SqL (K w.params) H a (ns.map V.int)->sp w [.ref a] H (fun v _=>v=.bl true) fun _ _ _=>False)
  (hCX:∀ (w:bE) (H:Hp) (s:al) (e:Value) (s':al),CX w [] H s (fun _ _ _=>False) e s'->False) :
  PySem.W.WalkO q loose XP YP l.row.toRowW d [] (fun f vs=>PySem.call f vs):=by
 refine Att.attach_call hn hdf fun w s₀ s₁ mg mb fa o pm cd doc a vs ns G Y ho hd hcd hmg hobj hints hlen hg=>?_
 have KX:=hY w _ Y
 obtain⟨fd,hb,hF⟩:=F w mg fa _ KX G.T.g hmg
 exact ak2 KX G.T.g G.T.b G.T.builtins (hT _ _) G.T.nolimit hg hobj hints (ax hlen hn2) hr hF hb (fun H hO hS=>hsp w H a ns hlen hO hS) fun H e s'=>hCX w H s₁ e s'
end L2
namespace L2
open PySem PySem.Spec PyProof.Rows
noncomputable def D0 (s:Stmt) (j:Nat):Stmt:=match s with
 | .ClassDef _ _ _ body _ _ _ _ _ _ _=>body.getD j (.Pass ⟨0,0,0,0⟩)
 | _=>.Pass ⟨0,0,0,0⟩
noncomputable def B6 (s:Stmt):Arguments:=match s with
 | .FunctionDef _ a _ _ _ _ _ _ _ _=>a
 | _=>{ posonlyargs:=[],args:=[],vararg:=none,kwonlyargs:=[],kw_defaults:=[],kwarg:=none,defaults:=[] }
noncomputable def Al (s:Stmt):List Stmt:=match s with
 | .FunctionDef _ _ b _ _ _ _ _ _ _=>b
 | _=>[]
noncomputable def Ab (s:Stmt):Scope:=match s with
 | .FunctionDef _ _ _ _ _ _ sc _ _ _=>sc
 | _=>{ kind:=.function,names:=[],isGenerator:=false,isCoroutine:=false }
noncomputable abbrev CX0:CXT:=fun _ _ _ _ _ _=>False
structure Fun (K:ae) (x qual:Str) (st:Stmt) (f:Addr) (fd:aB):Prop where
 ex:∃ (oc:Value) (od:Option Addr) (kV doc pm:Value) (an:Option Addr) (cdv ct:Value) (osl:Array (Option Value)),
  fd=b7 x qual (B6 st) (Al st) (Ab st) .none kV doc pm an cdv ct/\K.lookup f=some ⟨oc,od,.func fd,osl⟩/\dg K cdv qual=true
 kp:bu K (.ref f)=true
section
variable {P:aW} {w:bE} {K:ae} {mg:Str->Option Value} {base:Heap}
theorem Fun.binds {x qual:Str} {st:Stmt} {f:Addr} {fd:aB} {ps:List Str} (F:Fun K x qual st f fd)
  (h:∀ (kV doc pm:Value) (an:Option Addr) (cdv ct:Value) (us:List Value),us.length=ps.length->kE (b7 x qual (B6 st) (Al st) (Ab st) .none kV doc pm an cdv ct) ⟨us,[]⟩=pure (ps.zip us)):Binds K fd ps []:=by
 obtain⟨oc,od,kV,doc,pm,an,cdv,ct,osl,rfl,lk,hcd⟩:=F.ex
 exact .all (h kV doc pm an cdv ct)
theorem Uy {x qual:Str} {st:Stmt} {f:Addr} {oc:Value} {od an:Option Addr} {osl:Array (Option Value)} {kV doc pm cdv ct:Value} (l:K.lookup f=some ⟨oc,od,.func (b7 x qual (B6 st) (Al st) (Ab st) .none kV doc pm an cdv ct),osl⟩)
  (c:dg K cdv qual=true) (k:bu K (.ref f)=true):Fun K x qual st f (b7 x qual (B6 st) (Al st) (Ab st) .none kV doc pm an cdv ct):=⟨⟨oc,od,kV,doc,pm,an,cdv,ct,osl,rfl,l,c⟩,k⟩
end
section
variable {X:Cx}
end
theorem Dv {A B:Prop} (h:B):if false=true then A else B:=by
 rw [if_neg am]
 exact h
theorem Eb {A B:Prop} (h:A):if true=true then A else B:=by
 rw [if_pos rfl]
 exact h
theorem Er {c A B:Prop} [Decidable c] (h1:c->A) (h2:¬ c->B):if c then A else B:=by
 by_cases h:c
 ·rw [if_pos h]
  exact h1 h
 ·rw [if_neg h]
  exact h2 h
noncomputable def Same (H H':Hp):Prop:=∀ b o,H b=some o->H' b=some o
theorem Same.refl (H:Hp):Same H H:=fun _ _ h=>h
theorem Same.trans {H H1 H2:Hp} (a:Same H H1) (b:Same H1 H2):Same H H2:=fun c o h=>b c o (a c o h)
theorem Same.free {H H':Hp} (e:Same H H') {l:Addr} (h:H' l=Option.none):H l=Option.none:=by
 cases q:H l with
 | none=>rfl
 | some o=>
  rw [e l o q] at h
  cases h
noncomputable def Cx.comp (X:Cx) (N':List Str) (scope:Scope) (cl:List (Str×Addr)) (fp:List Addr) (C:Addr) (s:al) (H:Hp) (xe:Value->al->Prop):Cx:=
 {prog:=X.prog,w:=X.w,K:=X.K,mg:=X.mg,base:=X.base,A:=X.A,N:=N',s₀:=s,H₀:=H,env:=lI scope cl C X.env,outer:=X.stack,stack:=X.stack,
  ex:=fp,fn:=fun x=>(cl.lookup x).isNone,calm:=X.calm,pn:=[],xe:=xe }
noncomputable def Ul (srcs:List (Option Nat)) (σ:St):St:=srcs.map fun o=>o.bind fun j=>(σ[j]?).join
structure Ka (X:Cx) (N':List Str) (srcs:List (Option Nat)) (scope:Scope) (cl:List (Str×Addr)):Prop where
 clos:closureFor scope X.env=pure cl
 nocell:∀ y∈scope.names,y.2≠.cell
 kind:scope.kind=.function
 names:∀ y∈scope.names,y.2=.local->scope.names.lookup y.1=some .local
 sub:∀ x c,cl.lookup x=some c->X.env.cells.lookup x=some c
 has:∀ x,((ia scope X.env).names.lookup x=some .cell\/(ia scope X.env).names.lookup x=some .free) -> ∃ c,cl.lookup x=some c
 len:srcs.length=N'.length
 src:∀ (k j:Nat) (x:Str),N'[k]? = some x->srcs[k]? = some (some j)->X.N[j]? = some x/\(X.env.scope.names.lookup x=some .cell\/X.env.scope.names.lookup x=some .free) /\
  ((ia scope X.env).names.lookup x=some .cell\/(ia scope X.env).names.lookup x=some .free)
noncomputable def Yl (X:Cx) (ifs:List Expr) (t:TT):Prop:=
 ∀ (pins:List (Addr×Obj)) (s:al) (σ:St) (H:Hp) (Q:Bool->Hp->Prop),Inv X pins σ H s->t σ H Q ->
  aV (model X.prog X.w) X.A (forIn ifs true fun c r=>if r=true then do let ok <- isTrue c X.env (eval c X.env);pure (d7 ok) else pure (d7 r)) (TP X pins σ Q) X.xe s
noncomputable def ck6:TT:=fun _ H Q=>Q true H
theorem an2 {X:Cx}:Yl X [] ck6:=fun _ _ _ H _ I h=>wpAny_tests_nil ⟨H,I,h⟩
theorem an3 {X:Cx} {c:Expr} {t:TT} (h:PT X c t):Yl X [c] t:=fun pins s σ H Q I q=>wpAny_tests_one (h pins s σ H Q I q)
noncomputable def as4 (srcs:List (Option Nat)) (wi:TI) (g:TG) (tc:TT) (te:TE):TE:=fun σ H Q=>wi σ H fun J H1=>∀ D,H1 D=none ->
 ∃ W:Nat->Nat->St->Hp->Prop,(∃ m,W 0 m (Ul srcs σ) (upd H1 D (.lst []))) /\ ∀ i m σ' H',W i m σ' H' ->
  (J.stop i H'/\Q (.ref D) H')\/(J.go i H' /\ ∃ N:St->Hp->Prop,(∀ σ2 H2,N σ2 H2 -> ∃ m',m'<m/\W (i+1) m' σ2 H2) /\ ∀ x H2,J.yld i H' x H2->g x σ' H2 fun σ3 H3=>tc σ3 H3 fun b H4=>if b=true then
    te σ3 H4 fun v H5=>∃ ys,H5 D=some (.lst ys)/\ys.length<sizeLine/\N σ3 (upd H5 D (.lst (ys++[v])))
   else N σ3 H4)
section
variable {g:TG} {tc:TT} {te:TE} {D:Addr} {R:Hp->Prop} {σ:St} {H:Hp}
end
section
variable {prog:aW} {w:bE} {A:bj} {E:Value->al->Prop} {R:kP->al->Prop} {s:al}
theorem Oz {elt target iter:Expr} {ifs:List Expr} {scope:Scope} {pos:Pos} {it acc:Value} {env:Env} (I:Nat->al->Prop)
  (turn:∀ n s,I n s->aV (model prog w) A (gz it) (fun r s₁=>match r with
   | none=>R (.ok .next) s₁
   | some v=>aV (model prog w) A (gT target it v) (fun _ s₀=>aV (model prog w) A (kS target env v) (fun _ s₂=>
     aV (model prog w) A (forIn ifs true fun c r=>if r=true then do let ok <- isTrue c env (eval c env);pure (d7 ok) else pure (d7 r)) (fun ok s₃=>
      if ok=true then aV (model prog w) A (eval elt env) (fun x s₄=>
       aV (model prog w) A (call (.builtin "list.append") [acc,x]) (fun _ s₅=>∃ m,m<n/\I m s₅) (kL (model prog w) A env fun e s'=>R (.error e) s') s₄) (kL (model prog w) A env fun e s'=>R (.error e) s') s₃
      else ∃ m,m<n/\I m s₃) (kL (model prog w) A env fun e s'=>R (.error e) s') s₂) (kL (model prog w) A env fun e s'=>R (.error e) s') s₀) (kL (model prog w) A env fun e s'=>R (.error e) s') s₁) (kL (model prog w) A env fun e s'=>R (.error e) s') s)
  (n:Nat) (h:I n s) :
  fZ (model prog w) A (.compLoop (.ListComp elt [⟨target,iter,ifs,0⟩] scope pos) 0 it acc env) R s:=by
 refine codeAny_loop rfl I (fun n s hI=>?_) n h
 show aV _ A ((compTurn (.ListComp elt [⟨target,iter,ifs,0⟩] scope pos) 0 it acc env).onRaise (fun x=>do noteFrame x env;theTreesLotGoes x)) _ _ s
 refine wpAny_noted ?_
 rw [compTurn_list]
 refine ag (gI (ag (dn (turn n s hI) (fun r s₁ h₁=>?_) fun _ _ h'=>h')))
 cases r with
 | none=>exact ao h₁
 | some v=>
  refine ag (dn h₁ (fun _ s₀ h₀=>?_) fun _ _ h'=>h')
  refine ag (dn h₀ (fun _ s₂ h₂=>ag (dn h₂ (fun ok s₃ h₃=>?_) fun _ _ h'=>h')) fun _ _ h'=>h')
  cases ok with
  | false=>exact ao ⟨rfl,h₃⟩
  | true=>
   exact ag (ag (dn h₃ (fun x s₄ h₄=>ag (dn h₄ (fun _ s₅ h₅=>ao (ao ⟨rfl,h₅⟩)) fun _ _ h'=>h')) fun _ _ h'=>h'))
end
section
variable {X:Cx} {elt tg iter:Expr} {ifs:List Expr} {scope:Scope} {pos:Pos} {N':List Str} {srcs:List (Option Nat)} {cl:List (Str×Addr)} {wi:TI} {g:TG} {tc:TT} {te:TE}
theorem Um {xe:Value->al->Prop} {pins:List (Addr×Obj)} {σ:St} {H:Hp} {s:al} {fp:List Addr} {C D:Addr} {h₁:Heap} {tk:Nat} (S:Ka X N' srcs scope cl) (I:Inv X pins σ H s) (f:∀ b∈fp,Ek X pins H b) (fo:∀ b∈fp,b<s.heap.objs.size)
  (hD:s.heap.objs.size<=D) (hC:s.heap.objs.size<=C) (hDC:C≠D) (hns:∃ m,h₁.Ns C m) (old:∀ b o,s.heap.get? b=some o->h₁.get? b=some o) (hacc:∃ n,h₁.get? D=some { cls:=.type "list", data:=.seq ([]:List Value).toArray n }) (ht:s.toks<=tk:=by first|exact ak _|exact aU _ _|assumption|omega|(dsimp only;omega)) :
  Inv (X.comp N' scope cl fp C s H xe) [] (Ul srcs σ) (upd H D (.lst [])) { s with heap:=h₁,toks:=tk }:=by
 have hfD:=I.hok.fresh hD
 have ok:(X.comp N' scope cl fp C s H xe).Ok:=by
  refine⟨I.ok.mod,S.kind,I.ok.glob,I.ok.blt,hC,fun x y c a b=>I.ok.inj x y c (S.sub x c a) (S.sub y c b),S.has,fun x c hf hl=>?_,I.ok.hd,I.ok.frames,.inl rfl,fun b hb=>⟨?_,fun x c hl=>?_⟩,I.bs,ax I.ok.bsz I.sz,fun b o e hb=>?_,fun b hb hfs=>?_,I.stack,I.stkFree,bn⟩
  ·have hl':cl.lookup x=some c:=hl
   have hf':(cl.lookup x).isNone=true:=hf
   rw [hl'] at hf'
   cases hf'
  ·exact aT (aM (fo b hb) hC)
  ·exact (f b hb).2.2.2.2.1 x c (S.sub x c hl)
  ·rcases (f b hb).2.2.2.1 with z|z
   ·exact I.ok.noex b o e z
   ·exact absurd (aM (aN e) (ax I.ok.bsz z)) (fA _)
  ·rcases List.mem_cons.mp (I.stkSub b hfs) with z|z
   ·exact (f b hb).2.1 z
   ·exact (f b hb).2.2.1 z
 obtain⟨m0,hns⟩:=hns
 obtain⟨nn,hacc⟩:=hacc
 refine⟨ok,⟨rfl,ht⟩,I.bare,Un.laid old hD hfD,⟨m0,hns,fun k x v e1 e2 e3=>?_⟩,fun x c hl=>?_,?_,fun x c hl=>?_,fun p hp=>absurd (show p∈([]:List (Addr×Obj)) from hp) (by simp),I.hok.laid old hD ⟨bR _,[],nn,.nil,hacc⟩,?_⟩
 ·-- the captured names
  have e1:N'[k]? = some x:=e1
  have e2:(srcs.map fun o=>o.bind fun j=>(σ[j]?).join)[k]? = some (some v):=e2
  rw [ai] at e2
  cases hk:srcs[k]? with
  | none=>rw [hk] at e2;cases e2
  | some o=>
   rw [hk] at e2
   cases o with
   | none=>cases e2
   | some j=>
    have e2':(σ[j]?).join=some v:=aE e2
    have e3':σ[j]? = some (some v):=by
     cases hj:σ[j]? with
     | none=>rw [hj] at e2';cases e2'
     | some y=>rw [hj] at e2';exact congrArg some e2'
    obtain⟨a1,a2,a3⟩:=S.src k j x e1 hk
    obtain⟨m,hn,hl⟩:=I.loc
    obtain⟨u,r,l⟩:=hl j x v a1 e3' (a2.elim (fun z=>.inr (.inl z)) fun z=>.inr (.inr z))
    refine⟨u,r,.inr ⟨a3,?_⟩⟩
    obtain⟨c,hc⟩:=S.has x a3
    refine⟨c,hc,?_⟩
    rcases l with ⟨z,_⟩|⟨_,c',hc',o,ho,hd⟩
    ·have z':X.env.scope.names.lookup x=some .local:=z
     rcases a2 with q|q <;> rw [q] at z' <;> cases z'
    ·have e:=S.sub x c hc
     rw [hc'] at e
     cases e
     exact⟨o,old _ o ho,hd⟩
 ·obtain⟨v,o,ho,hd⟩:=I.cell x c (S.sub x c hl)
  exact⟨v,o,old _ o ho,hd⟩
 ·show upd H D (.lst []) C=none
  rw [Ak hDC]
  exact I.hok.fresh hC
 ·have hx:=S.sub x c hl
  obtain⟨v,o,ho,hd⟩:=I.cell x c hx
  rw [Ak (aT (aM (aN ho) hD))]
  exact I.freeC x c hx
 ·show (Ul srcs σ).length=N'.length
  unfold Ul
  rw [ac,S.len]
noncomputable def Br (X:Cx) (scope:Scope) (cl:List (Str×Addr)) (use:Option (Value->Sem Unit)) (Q2:Value->al->Prop) (D C:Addr):Value->al->Prop:=
 kL (model X.prog X.w) X.A (lI scope cl C X.env) fun e s'=>compPost (model X.prog X.w) X.A X.xe use Q2 (.ref D) C (.error e) s'
theorem Nd {pins:List (Addr×Obj)} {s:al} {σ:St} {H:Hp} {Q:VK} {use:Option (Value->Sem Unit)} {Q2:Value->al->Prop} (hc:X.calm=true) (S:Ka X N' srcs scope cl) (hi:PI X tg iter wi)
  (hb:∀ fp C D s2 H2,Inv X pins σ H2 s2->(∀ b∈fp,Ek X pins H2 b)->s2.heap.objs.size<=C->PG (X.comp N' scope cl fp C s2 H2 (Br X scope cl use Q2 D C)) tg g/\Yl (X.comp N' scope cl fp C s2 H2 (Br X scope cl use Q2 D C)) ifs tc/\PE (X.comp N' scope cl fp C s2 H2 (Br X scope cl use Q2 D C)) elt te)
  (I:Inv X pins σ H s) (h:as4 srcs wi g tc te σ H Q)
  (fin:∀ (D C:Addr) (H':Hp) (s':al),Inv X pins σ H' s'->(∃ m,s'.heap.Ns C m)->Ek X pins H' C->Q (.ref D) H'->compPost (model X.prog X.w) X.A X.xe use Q2 (.ref D) C (.ok .next) s')
  (hs:∀ x,eF iter X.env x=pure x) :
  aV (model X.prog X.w) X.A (comprehension (.ListComp elt [⟨tg,iter,ifs,0⟩] scope pos) scope X.env (firstIterPos [⟨tg,iter,ifs,0⟩] pos) (newList []) false (eval iter X.env) use) Q2 X.xe s:=by
 refine wpAny_comprehension_free rfl hs S.clos S.kind S.names (thn (hi pins s σ H _ I h) fun v s1 h1=>thn h1 fun itv s2 h2=>?_)
 obtain⟨it,fp,tn,J,H2,e,I2,T,st2,f2,q2⟩:=h2
 subst e
 refine cr (wpAny_newFunctionEnv S.nocell (by intro y hy;simp at hy) (fun h₁ hns₁ hsb₁=>?_) S.kind)
 dsimp only at hns₁ hsb₁ ⊢
 generalize hH2:s2.heap.push { cls:=.type "list", dict:=none,data:=.seq ([]:List Value).toArray }=G2 at hns₁ hsb₁ ⊢
 have hCe:G2.objs.size=s2.heap.objs.size+1:=by rw [<- hH2,df]
 have hDC:G2.objs.size≠s2.heap.objs.size:=by rw [hCe];exact d_ (cZ _)
 have hCle:s2.heap.objs.size<=G2.objs.size:=by rw [hCe];exact d9 _
 have old:∀ b o,s2.heap.get? b=some o->h₁.get? b=some o:=fun b o e=>
  hsb₁.extBut b o (aT (aM (aN e) hCle)) (aj _ (hH2▸aj _ e))
 have hacc:∃ n,h₁.get? s2.heap.objs.size=some { cls:=.type "list", data:=.seq ([]:List Value).toArray n }:=⟨_,hsb₁.extBut _ _ (cA hDC) (aj _ (hH2▸aK _ rfl))⟩
 have fo:∀ b∈fp,b<s2.heap.objs.size:=fun b hb=>by
  obtain⟨o,ho,_⟩:=T.obj _ _ st2 b hb
  exact aN ho
 have st3:tn 0 h₁:=T.keep _ _ _ st2 fun b _ o e=>old b o e
 obtain⟨hg,ht,he⟩:=hb fp G2.objs.size s2.heap.objs.size s2 H2 I2 f2 hCle
 obtain⟨W,⟨m0,w0⟩,turn⟩:=q2 s2.heap.objs.size (I2.hok.fresh (ak _))
 have loop:∀ s3:al,s3={ s2 with heap:=h₁,toks:=s2.toks+([]:List (Str×Value)).length } ->
   fZ (model X.prog X.w) X.A (.compLoop (.ListComp elt [⟨tg,iter,ifs,0⟩] scope pos) 0 (.ref it) (.ref s2.heap.objs.size) (lI scope cl G2.objs.size X.env))
    (compPost (model X.prog X.w) X.A X.xe use Q2 (.ref s2.heap.objs.size) G2.objs.size) s3:=by
  rintro s3 rfl
  have I3:Inv (X.comp N' scope cl fp G2.objs.size s2 H2 (Br X scope cl use Q2 s2.heap.objs.size G2.objs.size)) [] (Ul srcs σ) (upd H2 s2.heap.objs.size (.lst [])) { s2 with heap:=h₁,toks:=s2.toks+([]:List (Str×Value)).length }:=
   Um S I2 f2 fo (ak _) hCle hDC ⟨_,hns₁⟩ old hacc
  have stat:∀ {H':Hp},(∀ b∈fp,H' b=none) -> ∀ b∈fp,Ek (X.comp N' scope cl fp G2.objs.size s2 H2 (Br X scope cl use Q2 s2.heap.objs.size G2.objs.size)) [] H' b:=fun hn b hb=>
   ⟨hn b hb,aT (aM (fo b hb) hCle),(fun z=>(List.mem_cons.mp (I2.stkSub b z)).elim (f2 b hb).2.1 (f2 b hb).2.2.1),.inl hb,fun x c hl=>(f2 b hb).2.2.2.2.1 x c (S.sub x c hl),fun p hp=>absurd (show p∈([]:List (Addr×Obj)) from hp) (by simp)⟩
  refine Oz (fun n s'=>∃ i σ' H',Inv (X.comp N' scope cl fp G2.objs.size s2 H2 (Br X scope cl use Q2 s2.heap.objs.size G2.objs.size)) [] σ' H' s'/\tn i s'.heap/\(∀ b∈fp,H' b=none)/\W i n σ' H') ?_ m0
   ⟨0,_,_,I3,st3,fun b hb=>by rw [Ak (aT (fo b hb))];exact (f2 b hb).1,w0⟩
  rintro n s4 ⟨i,σ4,H4,I4,st4,fr4,w4⟩
  rcases turn i n σ4 H4 w4 with ⟨stop,qn⟩|⟨go,NN,hNN,step⟩
  ·refine thn (T.done (X.comp N' scope cl fp G2.objs.size s2 H2 (Br X scope cl use Q2 s2.heap.objs.size G2.objs.size)) rfl rfl rfl hc i [] s4 σ4 H4 _ I4 (stat fr4) st4 stop) fun r s5 ⟨hr,I5⟩=>?_
   subst hr
   obtain⟨m5,hn5,_⟩:=id I5.loc
   have I6:Inv X pins σ H4 s5:=I2.call' (ch:=fp) I5.os I5.base I5.hok I5.bare fun b hb=>⟨(f2 b hb).2.2.2.1,(f2 b hb).2.1,(f2 b hb).2.2.2.2.1,(f2 b hb).2.2.2.2.2⟩
   exact fin _ _ H4 s5 I6 ⟨m5,hn5⟩ (I2.fpOk hCle I5.free) qn
  ·refine thn (T.item (X.comp N' scope cl fp G2.objs.size s2 H2 (Br X scope cl use Q2 s2.heap.objs.size G2.objs.size)) rfl rfl rfl hc i [] s4 σ4 H4 _ I4 (stat fr4) st4 go) fun r s5 ⟨u,hr,h5⟩=>?_
   subst hr
   refine thn h5 fun _ s6 ⟨x,H6,I6,r6,y6,st6,fr6⟩=>?_
   have I6':=I6.pinned (stat fr6) (T.obj _ _ st6)
   refine thn (hg _ s6 σ4 H6 x u _ I6' r6 (step x H6 y6)) fun _ s7 ⟨σ7,H7,I7,q7⟩=>?_
   have again:∀ {s9:al} {H9:Hp},Inv (X.comp N' scope cl fp G2.objs.size s2 H2 (Br X scope cl use Q2 s2.heap.objs.size G2.objs.size)) ([]++Ix fp s6.heap) σ7 H9 s9->NN σ7 H9 ->
     ∃ m,m<n /\ ∃ i σ' H',Inv (X.comp N' scope cl fp G2.objs.size s2 H2 (Br X scope cl use Q2 s2.heap.objs.size G2.objs.size)) [] σ' H' s9/\tn i s9.heap/\(∀ b∈fp,H' b=none)/\W i m σ' H':=fun {s9 H9} I9 n9=>by
    obtain⟨m',hm,w9⟩:=hNN σ7 H9 n9
    refine⟨m',hm,i+1,σ7,H9,I9.unpinned,T.keep _ _ _ st6 fun b hb o e=>(I9.pin (b,o) (ba _ (ba _ (E6 hb e)))).1,fun b hb=>?_,w9⟩
    obtain⟨o,e,d⟩:=T.obj _ _ st6 b hb
    exact (I9.pin (b,o) (ba _ (ba _ (E6 hb e)))).2.1
   refine thn (ht _ s7 σ7 H7 _ I7 q7) fun b s8 ⟨H8,I8,q8⟩=>?_
   cases b with
   | false=>
    rw [if_neg am] at q8
    exact again I8 q8
   | true=>
    rw [if_pos rfl] at q8
    refine thn (he _ s8 σ7 H8 _ I8 q8) fun y s9 ⟨v9,H9,I9,r9,ys,hD,hlen,w9⟩=>?_
    refine thn (Nz (X:=X.comp N' scope cl fp G2.objs.size s2 H2 (Br X scope cl use Q2 s2.heap.objs.size G2.objs.size)) ([]++Ix fp s6.heap) s9 σ7 H9 (.ref s2.heap.objs.size) [v9] (.ref s2.heap.objs.size) [y] (fun _ H'=>H'=upd H9 s2.heap.objs.size (.lst (ys++[v9]))) I9 rfl (.cons r9 .nil)
     ⟨_,ys,v9,rfl,rfl,hD,hlen,rfl⟩) fun _ s10 ⟨_,H10,I10,_,e10⟩=>?_
    subst e10
    exact again I10 w9
 exact codeAny_compStart_list (loop _ rfl) (T.self X.A 0 _ _ _ st3 (loop _ rfl))
theorem ah3 {pins:List (Addr×Obj)} {s:al} {σ:St} {H:Hp} {Q:VK} (hc:X.calm=true) (S:Ka X N' srcs scope cl) (hi:PI X tg iter wi)
  (hb:∀ Q2 fp C D s2 H2,Inv X pins σ H2 s2->(∀ b∈fp,Ek X pins H2 b)->s2.heap.objs.size<=C->PG (X.comp N' scope cl fp C s2 H2 (Br X scope cl none Q2 D C)) tg g/\Yl (X.comp N' scope cl fp C s2 H2 (Br X scope cl none Q2 D C)) ifs tc/\PE (X.comp N' scope cl fp C s2 H2 (Br X scope cl none Q2 D C)) elt te)
  (I:Inv X pins σ H s) (h:as4 srcs wi g tc te σ H Q) (hs:∀ x,eF iter X.env x=pure x) :
  aV (model X.prog X.w) X.A (eval (.ListComp elt [⟨tg,iter,ifs,0⟩] scope pos) X.env) (EP X pins σ Q) X.xe s:=by
 rw [eval_ListComp]
 refine Nd (use:=none) hc S hi (fun fp C D s2 H2=>hb _ fp C D s2 H2) I h (fun D C H' s' I' ns fo q=>?_) hs
 obtain⟨m,hn⟩:=ns
 obtain⟨f0,f1,f2,f3,f4,f5⟩:=fo
 exact⟨m,hn,fun h' sb=>⟨.ref D,H',I'.turned (t':=s'.toks) (fun b o hb e=>(sb.2 b hb).trans e) f0 f1 f3 f4 f5,rfl,q⟩⟩
theorem ah2 {i:Nat} {x:Str} {pos' spos:Pos} {pins:List (Addr×Obj)} {s:al} {σ:St} {H:Hp} {D:Qo} (hc:X.calm=true) (hN:X.N.Nodup) (hx:X.N[i]? = some x) (hl:X.env.scope.names.lookup x=some .local) (S:Ka X N' srcs scope cl) (hi:PI X tg iter wi)
  (hb:∀ us Q2 fp C D s2 H2,Inv X pins σ H2 s2->(∀ b∈fp,Ek X pins H2 b)->s2.heap.objs.size<=C->PG (X.comp N' scope cl fp C s2 H2 (Br X scope cl us Q2 D C)) tg g/\Yl (X.comp N' scope cl fp C s2 H2 (Br X scope cl us Q2 D C)) ifs tc/\PE (X.comp N' scope cl fp C s2 H2 (Br X scope cl us Q2 D C)) elt te)
  (I:Inv X pins σ H s) (h:bt8 (as4 srcs wi g tc te) (ai7 i) D σ H)
  (hsw:iw (.ListComp elt [⟨tg,iter,ifs,0⟩] scope pos) (some (.Name x pos')) spos.line X.env=pure true) (hs:∀ x,eF iter X.env x=pure x) :
  aV (model X.prog X.w) X.A (exec (.Assign [.Name x pos'] (.ListComp elt [⟨tg,iter,ifs,0⟩] scope pos) spos) X.env) (SP X pins D) X.xe s:=by
 rw [exec_Assign_Name_used _ _ _ _ hsw]
 refine ag (gI (ag ?_))
 show aV _ X.A (do let _ <- comprehension (.ListComp elt [⟨tg,iter,ifs,0⟩] scope pos) scope X.env _ (newList []) false (eval iter X.env) (some (kS (.Name x pos') X.env))) _ _ s
 refine ag (thn (Nd (use:=some (kS (.Name x pos') X.env)) (Q:=fun v H'=>D.nx (σ.set i (some v)) H') (Q2:=fun _ s'=>SP X pins D .next s') hc S hi (fun fp C D s2 H2=>hb _ _ fp C D s2 H2) I h (fun L C H' s' I' ns fo q=>?_) hs) fun _ s' hq=>ao (ao hq))
 obtain⟨m,hn⟩:=ns
 obtain⟨f0,f1,f2,f3,f4,f5⟩:=fo
 obtain⟨oC,es,ep,hoC,hd,hr⟩:=id hn
 have I2:Inv X (pins++[(C,oC)]) σ H' s':=I'.pins_of fun p hp=>(List.mem_append.mp hp).elim (fun z=>I'.pin p (ba _ z)) fun z=>by
  have z':p=(C,oC):=by simpa using z
  subst z'
  exact⟨hoC,f0,f1,f2,fun v e=>by rw [hd] at e;cases e⟩
 refine wpAny_assign_Name (Mf (i:=i) (v:=.ref L) I2 hN hx (.inl hl) rfl (fun s2 I3=>?_) (.inr hl))
 have hoC':=(I3.pin (C,oC) (ba _ (ba _ (by simp)))).1
 refine⟨m,⟨oC,es,ep,hoC',hd,hr⟩,fun h' sb=>?_⟩
 exact⟨_,H',(I3.unpinned).turned (t':=s2.toks) (fun b o hb e=>(sb.2 b hb).trans e) f0 f1 f3 f4 f5,q⟩
end
noncomputable def Its (x:Str):It:=⟨fun i _=>i<x.cps.size,fun i H v H'=>H'=H /\ ∃ c,x.cps[i]? = some c/\v=.str ⟨#[c]⟩,fun i _=>i=x.cps.size⟩
theorem as7 {P:aW} {w:bE} {K:ae} {tg:Expr} (it:Addr) (x:Str) (t:Tok) (ty:String) (hty:ty = "str_ascii_iterator" \/ ty = "str_iterator") :
  Om P w K tg (Its x) [it] it (fun i h=>h.IsStrIter it ty x t i) where
 mem:=by simp
 obj:=fun i h st b hb=>by
  have e:b=it:=by simpa using hb
  subst e
  obtain⟨o,e,c,d⟩:=st
  exact⟨o,e,fun v z=>by rw [d] at z;cases z⟩
 keep:=fun i h h' st k=>by
  obtain⟨o,e,r⟩:=st
  exact⟨o,k it (by simp) o e,r⟩
 item:=by
  intro X hP hw hK hc i pins s σ H E I hf st hg
  subst hP hw hK
  obtain⟨f0,f1,f2,f3,f4,f5⟩:=hf it (by simp)
  have W:lG X.prog X.w X.A it [it] [it] x.cps.size (SignAt x) (fun i h=>h.IsStrIter it ty x t i):=by
   rcases hty with rfl|rfl
   ·exact Walks.strAscii (I.ok.hd hc) it x t
   ·exact Walks.strWide (I.ok.hd hc) it x t
  refine bI (ak _) (W.item i s _ _ hg st fun v h' tk hv st' kk htk=>?_)
  obtain⟨c,u,hcp,rfl⟩:=hv
  have I1:Inv X pins σ H { s with heap:=h',toks:=tk }:=I.turned (fun b o hb e=>kk b o (by simpa using hb) e) f0 f1 f3 f4 f5
  obtain⟨o,e,cc,d⟩:=id st'
  exact⟨_,rfl,Np (s:={ s with heap:=h',toks:=tk }) e cc d (by rcases hty with rfl|rfl <;> decide) ⟨.str ⟨#[c]⟩,H,I1,⟨_,rfl⟩,⟨rfl,c,hcp,rfl⟩,st',fun b hb=>(hf b hb).1⟩⟩
 done:=by
  intro X hP hw hK hc i pins s σ H E I hf st hg
  subst hP hw hK
  obtain⟨f0,f1,f2,f3,f4,f5⟩:=hf it (by simp)
  have hg:i=x.cps.size:=hg
  subst hg
  have W:lG X.prog X.w X.A it [it] [it] x.cps.size (SignAt x) (fun i h=>h.IsStrIter it ty x t i):=by
   rcases hty with rfl|rfl
   ·exact Walks.strAscii (I.ok.hd hc) it x t
   ·exact Walks.strWide (I.ok.hd hc) it x t
  exact bI (ak _) (W.done s _ _ st fun h' tk kk htk=>⟨rfl,I.turned (fun b o hb e=>kk b o (by simpa using hb) e) f0 f1 f3 f4 f5⟩)
 self:=by
  intro A i s Q E st h
  rcases hty with rfl|rfl
  ·exact wpAny_pyIter_striter_ascii st h
  ·exact wpAny_pyIter_striter_wide st h
section
variable {X:Cx} {tg:Expr}
end
section
variable {X:Cx} {pins:List (Addr×Obj)} {σ:St} {H:Hp} {s:al} {h':Heap} {ch:List Addr} {t':Nat}
theorem Inv.turnedL (I:Inv X pins σ H s) (hf:∀ b∈ch,Ek X pins H b) (k:∀ b o,b∉ch->s.heap.get? b=some o->h'.get? b=some o) (ht:s.toks<=t':=by first|exact ak _|exact aU _ _|assumption|omega|(dsimp only;omega)):Inv X pins σ H { s with heap:=h',toks:=t' }:=by
 have tr:∀ b ob,H b=some ob->b∉ch:=fun b ob e hb=>by rw [(hf b hb).1] at e;cases e
 refine I.step (g':=s.gens) (d':=s.drawn) (ch:=ch) (fun b hb=>⟨(hf b hb).2.2.2.1,(hf b hb).2.1,(hf b hb).2.2.2.2.1,(hf b hb).2.2.2.2.2⟩) (fun b o _ _ hb e _=>k b o hb e) (fun b o _ _ hb e _=>⟨o.slots,k b o hb e⟩) (fun _ _ _ _ n=>n) (fun b o hb e=>⟨o,k b o hb e⟩)
  (fun _ _ e=>e) (fun _ _ _ e=>e) (fun b ps e=>⟨#[],by rw [e];simp⟩) (fun m hm=>?_) (fun b ob e=>?_) I.bare
 ·obtain⟨o,es,ep,ho,r⟩:=hm
  exact⟨o,es,ep,k _ o (fun z=>(hf _ z).2.1 rfl) ho,r⟩
 ·refine (I.hok b ob e).stay (fun b' w' hc' q=>k b' w' ?_ q) (fun _ q=>q) fun _ _ q=>q
  rcases hc' with rfl|hc'
  ·exact tr _ _ e
  ·exact tr _ _ hc'
theorem Inv.turnedN {T:Addr} {o:HO} (I:Inv X pins σ H s) (hf:∀ b∈ch,Ek X pins H b) (k:∀ b o,b∉ch->s.heap.get? b=some o->h'.get? b=some o) (hT:s.heap.objs.size<=T) (new:ObjOk X.prog X.w (upd H T o) h' T o) (ht:s.toks<=t':=by first|exact ak _|exact aU _ _|assumption|omega|(dsimp only;omega)) :
  Inv X pins σ (upd H T o) { s with heap:=h',toks:=t' }:=by
 have tr:∀ b ob,H b=some ob->b∉ch:=fun b ob e hb=>by rw [(hf b hb).1] at e;cases e
 have hn:=I.hok.fresh hT
 have nT:∀ {b o},s.heap.get? b=some o->b≠T:=fun e=>aT (aM (aN e) hT)
 refine I.step (g':=s.gens) (d':=s.drawn) (ch:=ch) (fun b hb=>⟨(hf b hb).2.2.2.1,(hf b hb).2.1,(hf b hb).2.2.2.2.1,(hf b hb).2.2.2.2.2⟩) (fun b o _ _ hb e _=>k b o hb e) (fun b o _ _ hb e _=>⟨o.slots,k b o hb e⟩) (fun b o _ e n=>by rw [Ak (nT e)];exact n) (fun b o hb e=>⟨o,k b o hb e⟩)
  (fun b zs e=>by rw [Ak (Aj e hn)];exact e) (fun b o zs e=>by rw [Ak (Aj e hn)];exact e) (fun b ps e=>⟨#[],by rw [Ak (Aj e hn),e];simp⟩) (fun m hm=>?_) (fun b ob e=>?_) I.bare
 ·obtain⟨o,es,ep,ho,r⟩:=hm
  exact⟨o,es,ep,k _ o (fun z=>(hf _ z).2.1 rfl) ho,r⟩
 ·by_cases hb:b=T
  ·subst hb
   rw [Ad] at e
   cases e
   exact new
  ·rw [Ak hb] at e
   refine (I.hok b ob e).stay (fun b' w' hc' q=>k b' w' ?_ q) (fun b' q=>by rw [Ak (Aj q hn)];exact q) fun b' zs q=>by rw [Ak (Aj q hn)];exact q
   rcases hc' with rfl|hc'
   ·exact tr _ _ e
   ·exact tr _ _ hc'
end
section
variable {X:Cx}
end
theorem Z2 {bs:List Bool}:(aw bs.length).all (fun i=>bs.getD i true)=bs.all fun b=>b:=by
 rw [bH,aY,aY]
 constructor
 ·intro h b hb
  obtain⟨i,hi,e⟩:=List.mem_iff_getElem.mp hb
  have q:=h i (List.mem_range.mpr hi)
  rw [au,ah hi,e] at q
  exact q
 ·intro h i hi
  have hi:=List.mem_range.mp hi
  rw [au,ah hi]
  exact h _ (cf hi)
section
variable {X:Cx}
theorem ag9 (hc:X.calm=true):C3 X (.builtin "all") (fun xs H Q=>∃ (p:Addr) (bs:List Bool),xs=[.ref p]/\SqL X.K H p (bs.map V.bl)/\Q (.bl (bs.all fun b=>b)) H):=by
 intro pins s σ H xs us Q I r h
 obtain⟨p,bs,rfl,hq,q⟩:=h
 obtain⟨u,rfl,ru⟩:=r.one
 cases ru
 obtain⟨its,rv,pl,hz⟩:=I.list hq
 have hlen:=rv.length
 rw [ac] at hlen
 obtain⟨o,n,e,c,hd,ds⟩:=id pl
 have plt:=aN e
 refine bI (ak _) (call_all_walk (iy pl.isList ?_))
 refine⟨s.heap.objs.size,_,_,_,_,_,(fun i=>bs.getD i true),rfl,Walks.list (A:=X.A.in1) (show X.A.in1.handled=none from I.ok.hd hc) s.heap.objs.size p (aT plt) its.toArray,⟨⟨_,aK _ rfl,rfl,rfl⟩,pl.isList.push _⟩,?_,fun h' tk kk htk=>?_⟩
 ·intro i v s' Q' E' hv hq'
  have hv:its[i]? = some v:=by simpa using hv
  have hi:i<bs.length:=by rw [hlen];exact (List.getElem?_eq_some_iff.mp hv).1
  have e1:(bs.map V.bl)[i]? = some (.bl bs[i]):=by simp [hi]
  obtain⟨u',hu',ru'⟩:=rv.get e1
  rw [hv] at hu'
  cases hu'
  cases ru'
  have e2:bs.getD i true=bs[i]:=by simp [au,hi]
  have hq':Q' (bs.getD i true) s':=hq'
  rw [e2] at hq'
  exact dI hq'
 ·have e3:(aw its.toArray.size).all (fun i=>bs.getD i true)=bs.all fun b=>b:=by
   rw [av,<- hlen]
   exact Z2
  rw [e3]
  refine⟨.bl _,H,I.kept (t':=tk) fun b o' eb=>kk b o' ?_ (aj _ eb),rfl,q⟩
  have hb:b≠s.heap.objs.size:=aT (aN eb)
  simpa using hb
theorem ah0:C3 X (.builtin "isinstance") (fun xs H Q=>∃ x T t b,xs=[x,.ty T]/\TyOf X.K H x t/\eP X.K t (.type T)=some b/\Q (.bl b) H):=by
 intro pins s σ H xs us Q I r h
 obtain⟨x,T,t,b,rfl,ty,e,q⟩:=h
 obtain⟨u,v,rfl,ru,rv⟩:=r.two
 cases rv
 exact bI (ak _) (Nt I ru ty e fun tk htk=>⟨.bl b,H,I.tok tk htk,rfl,q⟩)
theorem Zv:OpR X (cu .LtE) (fun x y H Q=>∃ i j,x=.str i/\y=.str j/\Q (.bl (!decide (j.cps.toList<i.cps.toList))) H):=by
 intro pins s σ H x y v u Q I rx ry h
 obtain⟨i,j,rfl,rfl,q⟩:=h
 obtain⟨t,rfl⟩:=rx
 obtain⟨t',rfl⟩:=ry
 exact PySem.P.le_str ⟨.bl _,H,I,rfl,q⟩
end
noncomputable def Rz (xs ys:List V):Bool:=decide (xs.length=ys.length)&&(aw xs.length).all fun j=>eqV (xs.getD j .non) (ys.getD j .non)
theorem Hc {xs ys:List V} (h:xs.length≠ys.length):Rz xs ys=false:=by
 unfold Rz
 rw [decide_eq_false h]
 rfl
noncomputable def bo6 (K:ae) (neg:Bool):R2:=fun x y H Q=>∃ a b xs ys,x=.ref a/\y=.ref b/\SqL K H a xs/\SqL K H b ys/\xs.all Bs=true/\ys.all Bs=true/\Q (.bl (if neg then !Rz xs ys else Rz xs ys)) H
section
variable {X:Cx}
theorem Kx {A:bj} {s:al} {xs ys:List V} {us ws:List Value} (rx:Vals xs us) (ry:Vals ys ws) (fx:xs.all Bs=true) (fy:ys.all Bs=true) (j:Nat) (h1:j<us.toArray.size) (h2:j<ws.toArray.size) :
  bi A s us.toArray[j] ws.toArray[j] (eqV (xs.getD j .non) (ys.getD j .non)):=by
 have e1:=rx.length
 have e2:=ry.length
 have h1':j<us.length:=by simpa using h1
 have h2':j<ws.length:=by simpa using h2
 have a1:xs[j]? = some (xs[j]'(by omega)):=by simp
 have a2:ys[j]? = some (ys[j]'(by omega)):=by simp
 obtain⟨u,hu,ru⟩:=rx.get a1
 obtain⟨v,hv,rv⟩:=ry.get a2
 have b1:us.toArray[j]=u:=by
  have:us[j]? = some us[j]:=by simp
  rw [this] at hu
  simpa using aE hu
 have b2:ws.toArray[j]=v:=by
  have:ws[j]? = some ws[j]:=by simp
  rw [this] at hv
  simpa using aE hv
 have c1:xs.getD j .non=xs[j]'(by omega):=by rw [au,a1];rfl
 have c2:ys.getD j .non=ys[j]'(by omega):=by rw [au,a2];rfl
 rw [b1,b2,c1,c2]
 exact Pf ru rv (List.all_eq_true.mp fx _ (cf _)) (List.all_eq_true.mp fy _ (cf _))
theorem bj0 (hu:X.A.units<cLine):OpR X (cu .Eq) (bo6 X.K false):=by
 intro pins s σ H x y v u Q I rx ry h
 obtain⟨a,b,xs,ys,rfl,rfl,qa,qb,fx,fy,q⟩:=h
 cases rx
 cases ry
 obtain⟨its,r,pl,hz⟩:=I.list qa
 obtain⟨its2,r2,pl2,hz2⟩:=I.list qb
 have e1:=r.length
 have e2:=r2.length
 by_cases hl:xs.length=ys.length
 ·refine SeqAt.eq_listAt (e:=fun j=>eqV (xs.getD j .non) (ys.getD j .non)) pl.isList pl2.isList (by simp;omega) hu (fun j h1 h2=>Kx r r2 fx fy j h1 h2) ⟨.bl _,H,I,rfl,?_⟩
  have e:Rz xs ys=(aw its.toArray.size).all fun j=>eqV (xs.getD j .non) (ys.getD j .non):=by
   unfold Rz
   rw [decide_eq_true hl,av,<- e1]
   rfl
  rw [<- e]
  exact q
 ·refine SeqAt.eq_list_lengthsAt pl.isList pl2.isList (by simp;omega) hu ⟨.bl _,H,I,rfl,?_⟩
  rw [Hc hl] at q
  exact q
theorem bj4 (hu:X.A.units<cLine):OpR X (cu .NotEq) (bo6 X.K true):=by
 intro pins s σ H x y v u Q I rx ry h
 obtain⟨a,b,xs,ys,rfl,rfl,qa,qb,fx,fy,q⟩:=h
 cases rx
 cases ry
 obtain⟨its,r,pl,hz⟩:=I.list qa
 obtain⟨its2,r2,pl2,hz2⟩:=I.list qb
 have e1:=r.length
 have e2:=r2.length
 by_cases hl:xs.length=ys.length
 ·refine SeqAt.RcNeAt.lists (e:=fun j=>eqV (xs.getD j .non) (ys.getD j .non)) pl.isList pl2.isList (by simp;omega) hu (fun j h1 h2=>Kx r r2 fx fy j h1 h2) _ _ _ _ ⟨.bl _,H,I,rfl,?_⟩
  have e:Rz xs ys=(aw its.toArray.size).all fun j=>eqV (xs.getD j .non) (ys.getD j .non):=by
   unfold Rz
   rw [decide_eq_true hl,av,<- e1]
   rfl
  rw [<- e]
  exact q
 ·refine SeqAt.RcNeAt.lists_lengths pl.isList pl2.isList (by simp;omega) hu _ _ _ _ ⟨.bl _,H,I,rfl,?_⟩
  rw [Hc hl] at q
  exact q
end
theorem al1 {cl:List (Str×Addr)} {x:Str} (h:x∈cl.map (·.1)):∃ c,cl.lookup x=some c:=by
 induction cl with
 | nil=>simp at h
 | cons p r ih=>
  obtain⟨n,a⟩:=p
  rw [List.lookup_cons]
  cases e:x==n with
  | true=>exact⟨a,rfl⟩
  | false=>
   refine ih ?_
   rcases List.mem_cons.mp h with q|q
   ·rw [show x=n from q] at e;simp at e
   ·exact q
section
variable {X:Cx} {e:Expr} {te:TE} {lo hi:Option Expr} {tl th:TO} {pos p2:Pos}
theorem Mg {ys:List Str}:∀ {us:List Value},Vals (ys.map V.str) us->StrsAre us ys:=by
 induction ys with
 | nil=>intro us r;rw [gc] at r;cases r;exact .nil
 | cons y ys ih=>
  intro us r
  rw [aQ] at r
  cases r with
  | cons r1 r2=>
   obtain⟨t,e⟩:=r1
   subst e
   exact .cons y t (ih r2)
theorem ay7:MtR X "str.join" (fun x xs H Q=>∃ z p ys,x=.str z/\xs=[.ref p]/\SqL X.K H p (ys.map V.str)/\(ys.map (·.length)).sum+ys.length * z.length<=16777216/\Q (.str (gF z ys)) H):=by
 intro pins s σ H x xs v us Q I rx rs h
 obtain⟨z,p,ys,rfl,rfl,hq,hz,q⟩:=h
 obtain⟨t,rfl⟩:=rx
 obtain⟨u,rfl,ru⟩:=rs.one
 cases ru
 obtain⟨its,rv,pl,_⟩:=I.list hq
 exact bI (ak _) (PyProof.Rows.join_list pl.isList (by simpa using Mg rv) hz fun t' k htk=>⟨.str _,H,I.tok k htk,⟨_,rfl⟩,q⟩)
end
end L2
set_option maxHeartbeats 4000000
namespace L2
open PySem PySem.Spec PyProof.Rows
section
variable {κ:Type} [DecidableEq κ]
noncomputable def Bp (kvs:List (κ×V)) (k:κ):Option V:=(kvs.find? fun kv=>decide (kv.1=k)).map (·.2)
noncomputable def Dg (kvs:List (κ×V)) (k:κ) (v:V):List (κ×V):=
 if (kvs.any fun kv=>decide (kv.1=k))=true then kvs.map (fun kv=>if kv.1=k then (kv.1,v) else kv) else kvs++[(k,v)]
theorem Cb {p:κ×V} {r:List (κ×V)} {k:κ} (e:p.1=k):Bp (p::r) k=some p.2:=by simp [Bp,bD,e]
theorem By {p:κ×V} {r:List (κ×V)} {k:κ} (e:¬ p.1=k):Bp (p::r) k=Bp r k:=by simp [Bp,bD,e]
theorem F8 (k:κ):∀ kvs:List (κ×V),(kvs.any fun kv=>decide (kv.1=k))=(Bp kvs k).isSome
 | []=>rfl
 | p::r=>by
  rw [dL]
  by_cases e:p.1=k
  ·simp only [Cb e,decide_eq_true e,Bool.true_or,Option.isSome_some]
  ·rw [By e,decide_eq_false e,ka];exact F8 k r
theorem Tw (k j:κ) (y:V):∀ kvs:List (κ×V),Bp (kvs.map fun kv=>if kv.1=k then (kv.1,y) else kv) j=(Bp kvs j).map fun x=>if j=k then y else x
 | []=>rfl
 | p::r=>by
  have ih:=Tw k j y r
  rw [aQ]
  by_cases h:p.1=k
  ·rw [if_pos h]
   by_cases e:p.1=j
   ·rw [Cb (p:=(p.1,y)) e,Cb e,gP,if_pos (e.symm.trans h)]
   ·rw [By (p:=(p.1,y)) e,By e,ih]
  ·rw [if_neg h]
   by_cases e:p.1=j
   ·rw [Cb (p:=p) e,Cb e,gP,if_neg (fun z=>h (e.trans z))]
   ·rw [By (p:=p) e,By e,ih]
theorem Oh (k j:κ) (y:V):∀ kvs:List (κ×V),Bp kvs k=none->Bp (kvs++[(k,y)]) j=if j=k then some y else Bp kvs j
 | [],_=>by
  by_cases e:k=j
  ·rw [if_pos e.symm];exact Cb (p:=(k,y)) e
  ·rw [if_neg (fun z=>e z.symm)];exact By (p:=(k,y)) e
 | p::r,hn=>by
  rw [eR]
  have hk:¬ p.1=k:=fun z=>by rw [Cb z] at hn;cases hn
  rw [By hk] at hn
  have ih:=Oh k j y r hn
  by_cases e:p.1=j
  ·rw [Cb e,Cb e,if_neg (fun z=>hk (e.trans z))]
  ·rw [By e,By e,ih]
theorem as9 (kvs:List (κ×V)) (k j:κ) (y:V):Bp (Dg kvs k y) j=if j=k then some y else Bp kvs j:=by
 unfold Dg
 by_cases a:(kvs.any fun kv=>decide (kv.1=k))=true
 ·rw [if_pos a,Tw]
  rw [F8] at a
  by_cases e:j=k
  ·obtain⟨x,hx⟩:=Option.isSome_iff_exists.mp a
   rw [if_pos e,e,hx,gP,if_pos rfl]
  ·rw [if_neg e]
   cases Bp kvs j with
   | none=>rfl
   | some x=>rw [gP,if_neg e]
 ·rw [if_neg a]
  refine Oh k j y kvs ?_
  rw [F8] at a
  cases q:Bp kvs k with
  | none=>rfl
  | some x=>rw [q] at a;exact (a rfl).elim
theorem Dp (kvs:List (κ×V)) (k:κ) (v:V):(Dg kvs k v).length<=kvs.length+1:=by
 unfold Dg
 split
 ·rw [ac];omega
 ·rw [aJ,aI,jk];omega
theorem Hs {kvs:List (κ×V)} {k:κ} (v:V) (h:Bp kvs k=none):Dg kvs k v=kvs++[(k,v)]:=by
 unfold Dg
 rw [F8,h]
 exact if_neg (by decide)
theorem RelO.isSome_eq {o:Option V} {u:Option Value} (r:RelO o u):o.isSome=u.isSome:=by
 cases o with
 | none=>cases u with
  | none=>rfl
  | some _=>exact (show False from r).elim
 | some _=>cases u with
  | none=>exact (show False from r).elim
  | some _=>rfl
theorem KV.val {kvs:List (κ×V)} {vs:List (κ×Value)} (r:KV kvs vs) (k:κ):RelO (Bp kvs k) (jC vs k):=by
 unfold KV at r
 induction r with
 | nil=>exact bn
 | @cons p q ps qs h t ih=>
  obtain⟨h1,h2⟩:=h
  by_cases e:p.1=k
  ·have e':q.1=k:=h1.symm.trans e
   have b:jC (q::qs) k=some q.2:=by simp [jC,bD,e']
   rw [Cb e,b];exact h2
  ·have e':¬ q.1=k:=fun z=>e (h1.trans z)
   have b:jC (q::qs) k=jC qs k:=by simp [jC,bD,e']
   rw [By e,b];exact ih
theorem KV.any {kvs:List (κ×V)} {vs:List (κ×Value)} (r:KV kvs vs) (k:κ):(kvs.any fun kv=>decide (kv.1=k))=vs.any fun kv=>decide (kv.1=k):=by
 unfold KV at r
 induction r with
 | nil=>rfl
 | cons h t ih=>rw [dL,dL,ih,h.1]
theorem KV.repl {kvs:List (κ×V)} {vs:List (κ×Value)} (r:KV kvs vs) (k:κ) {y:V} {u:Value} (ry:RelV y u) :
  KV (kvs.map fun kv=>if kv.1=k then (kv.1,y) else kv) (vs.map fun kv=>if kv.1=k then (kv.1,u) else kv):=by
 unfold KV at r ⊢
 induction r with
 | nil=>exact .nil
 | @cons p q ps qs h t ih=>
  rw [aQ,aQ]
  refine .cons ?_ ih
  obtain⟨h1,h2⟩:=h
  by_cases e:p.1=k
  ·rw [if_pos e,if_pos (h1.symm.trans e)];exact⟨h1,ry⟩
  ·rw [if_neg e,if_neg (fun z=>e (h1.trans z))];exact⟨h1,h2⟩
theorem KV.put {kvs:List (κ×V)} {vs:List (κ×Value)} (r:KV kvs vs) (k:κ) {y:V} {u:Value} (ry:RelV y u):KV (Dg kvs k y) (stored vs k u):=by
 unfold Dg stored
 rw [r.any k]
 by_cases e:(vs.any fun kv=>decide (kv.1=k))=true
 ·rw [if_pos e,if_pos e];exact r.repl k ry
 ·rw [if_neg e,if_neg e];exact Paired.snoc r ⟨rfl,ry⟩
theorem KV.keys {kvs:List (κ×V)} {vs:List (κ×Value)} (r:KV kvs vs):kvs.map (·.1)=vs.map (·.1):=by
 unfold KV at r
 induction r with
 | nil=>rfl
 | cons h t ih=>rw [aQ,aQ,ih,h.1]
theorem KV.length {kvs:List (κ×V)} {vs:List (κ×Value)} (r:KV kvs vs):kvs.length=vs.length:=gC r
end
theorem Ky {P:aW} {w:bE} {k:Key} {u:Value} (r:RelV (kV k) u):(Av P w).is k u=true:=by
 cases k with
 | inl i=>obtain⟨t,e⟩:=(show ∃ t,u=kD i t from r);subst e;exact Se P w i t
 | inr x=>obtain⟨t,e⟩:=(show ∃ t,u=gS x t from r);subst e;exact Sf P w x t
theorem Nu {P:aW} {w:bE}:∀ {ks:List Key} {us:List Value},Vals (ks.map kV) us->ItemsAre (Av P w) ks us
 | [],_,r=>by rw [gc] at r;cases r;exact .nil
 | k::ks,_,r=>by
  rw [aQ] at r
  cases r with
  | cons h t=>exact .cons (Ky h) (Nu t)
noncomputable abbrev KT (H:Hp):List (List Key×V)->List (List Key×Addr×Value)->Prop:=ge fun p q=>p.1=q.1/\H q.2.1=some (.tup (p.1.map kV))/\RelV p.2 q.2.2
theorem KT.val {H:Hp} {kvs:List (List Key×V)} {xs:List (List Key×Addr×Value)} (r:KT H kvs xs) (k:List Key):RelO (Bp kvs k) ((kX xs k).map (·.2)):=by
 induction r with
 | nil=>exact bn
 | @cons p q ps qs h t ih=>
  obtain⟨h1,_,h2⟩:=h
  by_cases e:p.1=k
  ·have e':q.1=k:=h1.symm.trans e
   have b:kX (q::qs) k=some q.2:=by simp [kX,bD,e']
   rw [Cb e,b];exact h2
  ·have e':¬ q.1=k:=fun z=>e (h1.trans z)
   have b:kX (q::qs) k=kX qs k:=by simp [kX,bD,e']
   rw [By e,b];exact ih
theorem KT.repl {H:Hp} {kvs:List (List Key×V)} {xs:List (List Key×Addr×Value)} (r:KT H kvs xs) (k:List Key) {y:V} {u:Value} (ry:RelV y u) :
  KT H (kvs.map fun kv=>if kv.1=k then (kv.1,y) else kv) (xs.map (putAt k u)):=by
 induction r with
 | nil=>exact .nil
 | @cons p q ps qs h t ih=>
  rw [aQ,aQ]
  refine .cons ?_ ih
  obtain⟨h1,h2,h3⟩:=h
  unfold putAt
  by_cases e:p.1=k
  ·rw [if_pos e,if_pos (h1.symm.trans e)];exact⟨h1,h2,ry⟩
  ·rw [if_neg e,if_neg (fun z=>e (h1.trans z))];exact⟨h1,h2,h3⟩
theorem KT.put {H:Hp} {kvs:List (List Key×V)} {xs:List (List Key×Addr×Value)} (r:KT H kvs xs) (k:List Key) {b:Addr} {y:V} {u:Value} (hb:H b=some (.tup (k.map kV))) (ry:RelV y u) :
  KT H (Dg kvs k y) (storedH xs k b u):=by
 have e:(kvs.any fun kv=>decide (kv.1=k))=(kX xs k).isSome:=by
  rw [F8,(r.val k).isSome_eq,ij]
 unfold Dg storedH
 rw [e]
 by_cases q:(kX xs k).isSome=true
 ·rw [if_pos q,if_pos q];exact r.repl k ry
 ·rw [if_neg q,if_neg q];exact Paired.snoc r ⟨rfl,hb,ry⟩
theorem KT.keeps {H H':Hp} {kvs:List (List Key×V)} {xs:List (List Key×Addr×Value)} (r:KT H kvs xs) (ht:∀ b ys,H b=some (.tup ys)->H' b=some (.tup ys)):KT H' kvs xs:=
 Paired.mapP r fun _ _ z=>⟨z.1,ht _ _ z.2.1,z.2.2⟩
section
variable {P:aW} {w:bE} {H:Hp} {h:Heap} {a:Addr}
theorem a91 {u:HO} (ok:HOk P w H h) (e:Rd H a u):ObjOk P w H h a u:=e.ok ok
theorem Fr {kvs:List (Key×V)} (ok:HOk P w H h) (e:Rd H a (.dK kvs)):kvs.length<=sizeLine/\(a==cX)=false /\ ∃ vs,KV kvs vs/\h.DictOf (Av P w) a vs:=
 show ObjOk P w H h a (.dK kvs) from a91 ok e
theorem Xj {kvs:List (Key×V)} (ok:HOk P w H h) (e:H a=some (.dK kvs)):kvs.length<=sizeLine/\(a==cX)=false /\ ∃ vs,KV kvs vs/\h.DictOf (Av P w) a vs:=Fr ok (.inl e)
theorem Ij {ks:List Key} (ok:HOk P w H h) (e:H a=some (.tup (ks.map kV))):(jB (Av P w)).is h ks a:=by
 obtain⟨_,its,r,o,h1,h2,n,h3⟩:=(show ObjOk P w H h a (.tup (ks.map kV)) from ok a _ e)
 exact⟨o,its.toArray,n,h1,h2,h3,by simpa using Nu r⟩
theorem Ry {kvs:List (List Key×V)} (ok:HOk P w H h) (e:Rd H a (.dT kvs)):kvs.length<=sizeLine/\(a==cX)=false /\
  ∃ xs,KT H kvs xs/\h.DictOfH (jB (Av P w)) a xs:=by
 obtain⟨z,y,xs,r,o,es,ep,h1,h2,h3,h4,h5⟩:=(show ObjOk P w H h a (.dT kvs) from a91 ok e)
 refine⟨z,y,xs,r,o,es,ep,h1,h2,h3,h4,fun x hx=>?_,h5⟩
 have all:∀ {l:List (List Key×V)} {m:List (List Key×Addr×Value)},KT H l m -> ∀ x∈m,(jB (Av P w)).is h x.1 x.2.1:=by
  intro l m q
  induction q with
  | nil=>intro x hx;exact nomatch hx
  | @cons p q ps qs hq t ih=>
   intro x hx
   rcases List.mem_cons.mp hx with e|hx
   ·subst e
    exact Ij ok (by rw [<- hq.1];exact hq.2.1)
   ·exact ih x hx
 exact all r x hx
theorem a53 {kvs:List (List Key×V)} (ok:HOk P w H h) (e:H a=some (.dT kvs)):kvs.length<=sizeLine/\(a==cX)=false /\
  ∃ xs,KT H kvs xs/\h.DictOfH (jB (Av P w)) a xs:=Ry ok (.inl e)
end
noncomputable def DGet (H:Hp) (a:Addr) (y:V) (r:Option V):Prop:=
 (∃ kvs k,Rd H a (.dK kvs)/\y=kV k/\r=Bp kvs k) \/ ∃ kvs k b,Rd H a (.dT kvs)/\y=.ref b/\H b=some (.tup (k.map kV))/\r=Bp kvs k
noncomputable def DPut (H:Hp) (a:Addr) (y v:V) (H':Hp):Prop:=
 (∃ kvs k,H a=some (.dK kvs)/\y=kV k/\kvs.length<sizeLine/\H'=upd H a (.dK (Dg kvs k v))) \/
 ∃ kvs k b,H a=some (.dT kvs)/\y=.ref b/\H b=some (.tup (k.map kV))/\kvs.length<sizeLine/\H'=upd H a (.dT (Dg kvs k v))
theorem DGet.k {H:Hp} {a:Addr} {kvs:List (Key×V)} {k:Key} (e:H a=some (.dK kvs)):DGet H a (kV k) (Bp kvs k):=.inl ⟨kvs,k,.inl e,rfl,rfl⟩
theorem DGet.t {H:Hp} {a b:Addr} {kvs:List (List Key×V)} {k:List Key} (e:H a=some (.dT kvs)) (eb:H b=some (.tup (k.map kV))):DGet H a (.ref b) (Bp kvs k):=.inr ⟨kvs,k,b,.inl e,rfl,eb,rfl⟩
theorem DPut.k {H:Hp} {a:Addr} {kvs:List (Key×V)} {k:Key} {v:V} (e:H a=some (.dK kvs)) (hl:kvs.length<sizeLine):DPut H a (kV k) v (upd H a (.dK (Dg kvs k v))):=.inl ⟨kvs,k,e,rfl,hl,rfl⟩
theorem DPut.t {H:Hp} {a b:Addr} {kvs:List (List Key×V)} {k:List Key} {v:V} (e:H a=some (.dT kvs)) (eb:H b=some (.tup (k.map kV))) (hl:kvs.length<sizeLine) :
  DPut H a (.ref b) v (upd H a (.dT (Dg kvs k v))):=.inr ⟨kvs,k,b,e,rfl,eb,hl,rfl⟩
section
variable {X:Cx} {pins:List (Addr×Obj)} {σ:St} {H:Hp} {s:al} {a:Addr} {y v:V} {u r:Value} {o:Option V} {A:bj} {E:Value->al->Prop}
theorem Inv.big (I:Inv X pins σ H s):cX<s.heap.objs.size:=by
 have h:bc<s.heap.objs.size:=(I.mod.glob.keeps I.bk).lt
 exact Nat.lt_trans (by decide) h
theorem Yw {Q:Value->al->Prop} (hu:A.units+1<cLine) (I:Inv X pins σ H s) (g:DGet H a y (some v)) (ry:RelV y u) (h:∀ w' s',Inv X pins σ H s'->RelV v w'->Q w' s') :
  aV (model X.prog X.w) A (j8 (.ref a) u) Q E s:=by
 rcases g with ⟨kvs,k,e,ey,l⟩|⟨kvs,k,b,e,ey,eb,l⟩
 ·subst ey
  obtain⟨z,hd,vs,rel,dd⟩:=Fr I.hok e
  obtain⟨w',hw,rw'⟩:=RelO.some_of (v:=v) (o:=jC vs k) (by rw [l];exact rel.val k)
  exact wpAny_getItem_of (Ky ry) dd.mapOf hw (h w' _ (I.tok _) rw')
 ·subst ey
  cases (show u=bp b from ry)
  obtain⟨z,hd,xs,rel,dd⟩:=Ry I.hok e
  obtain⟨w',hw,rw'⟩:=RelO.some_of (v:=v) (o:=(kX xs k).map (·.2)) (by rw [l];exact rel.val k)
  obtain⟨p,hp,hp2⟩:=Option.map_eq_some_iff.mp hw
  refine wpAny_getItem_heap (dS hu) (Ij I.hok eb) dd hp ?_
  rw [hp2]
  exact h w' _ (I.tok _) rw'
theorem ch8 {Q:Value->al->Prop} (hu:A.units+1<cLine) (I:Inv X pins σ H s) (g:DGet H a y o) (ry:RelV y u) (h:∀ s',Inv X pins σ H s'->Q (.bool o.isSome) s') :
  aV (model X.prog X.w) A (cu .In u (.ref a)) Q E s:=by
 rcases g with ⟨kvs,k,e,ey,l⟩|⟨kvs,k,b,e,ey,eb,l⟩
 ·subst ey
  obtain⟨z,hd,vs,rel,dd⟩:=Fr I.hok e
  refine wpAny_in_of (Ky ry) hd dd.mapOf ?_
  rw [<- (rel.val k).isSome_eq,<- l]
  exact h _ (I.tok _)
 ·subst ey
  cases (show u=bp b from ry)
  obtain⟨z,hd,xs,rel,dd⟩:=Ry I.hok e
  refine wpAny_in_heap (dS hu) (Ij I.hok eb) hd dd ?_
  have q:=(rel.val k).isSome_eq
  rw [ij] at q
  rw [<- q,<- l]
  exact h _ (I.tok _)
theorem av7 {Q:Value->al->Prop} (hu:A.units+1<cLine) (I:Inv X pins σ H s) (g:DGet H a y o) (ry:RelV y u) (h:∀ s',Inv X pins σ H s'->Q (.bool (!o.isSome)) s') :
  aV (model X.prog X.w) A (cu .NotIn u (.ref a)) Q E s:=by
 rcases g with ⟨kvs,k,e,ey,l⟩|⟨kvs,k,b,e,ey,eb,l⟩
 ·subst ey
  obtain⟨z,hd,vs,rel,dd⟩:=Fr I.hok e
  refine wpAny_notIn_of (Ky ry) hd dd.mapOf ?_
  rw [<- (rel.val k).isSome_eq,<- l]
  exact h _ (I.tok _)
 ·subst ey
  cases (show u=bp b from ry)
  obtain⟨z,hd,xs,rel,dd⟩:=Ry I.hok e
  refine wpAny_notIn_heap (dS hu) (Ij I.hok eb) hd dd ?_
  have q:=(rel.val k).isSome_eq
  rw [ij] at q
  rw [<- q,<- l]
  exact h _ (I.tok _)
theorem Gc {h':Heap} {t':Nat} {ob:HO} (I:Inv X pins σ H s) (mu:Mut (H a)) (hs:bq a s.heap h') (he:∃ q,h'.get? a=some q) (new:ObjOk X.prog X.w (upd H a ob) h' a ob) (ht:s.toks<=t':=by first|exact ak _|exact aU _ _|assumption|omega|(dsimp only;omega)) :
  Inv X pins σ (upd H a ob) { s with heap:=h',toks:=t' }:=
 I.write (x:=a) (e:=a) mu (.inl rfl) (fun b q hb z=>(hs.2 b hb).trans z) he new
theorem Pd {P:aW} {w:bE} {H':Hp} {h':Heap} {kvs:List (Key×V)} {vs:List (Key×Value)} (z:kvs.length<=sizeLine) (hd:(a==cX)=false) (rel:KV kvs vs) (dd:h'.DictOf (Av P w) a vs) :
  ObjOk P w H' h' a (.dK kvs):=⟨z,hd,vs,rel,dd⟩
theorem Yx {H':Hp} {Q:Unit->al->Prop} (hu:A.units+1<cLine) (I:Inv X pins σ H s) (g:DPut H a y v H') (ry:RelV y u) (rv:RelV v r) (h:∀ s',Inv X pins σ H' s'->Q () s') :
  aV (model X.prog X.w) A (setItem (.ref a) u r) Q E s:=by
 rcases g with ⟨kvs,k,e,ey,l,eH⟩|⟨kvs,k,b,e,ey,eb,l,eH⟩
 ·subst ey eH
  obtain⟨z,hd,vs,rel,dd⟩:=Xj I.hok e
  have hz:vs.length<=sizeLine:=by rw [<- rel.length];exact z
  have hl:(Dg kvs k v).length<=sizeLine:=by have:=Dp kvs k v;omega
  refine wpAny_setItem_pairs (hsz:=hz) (Ky ry) dd fun h' dd' hs=>h _ ?_
  have he:∃ q,h'.get? a=some q:=let ⟨q,_,_,hq,_⟩:=dd';⟨q,hq⟩
  exact Gc I (by rw [e];exact bn) hs he (Pd hl hd (rel.put k rv) dd')
 ·subst ey eH
  cases (show u=bp b from ry)
  obtain⟨z,hd,xs,rel,dd⟩:=a53 I.hok e
  have hz:xs.length<=sizeLine:=by rw [<- gC rel];exact z
  have hl:(Dg kvs k v).length<=sizeLine:=by have:=Dp kvs k v;omega
  refine wpAny_setItem_heap (hsz:=hz) (dS hu) (Ij I.hok eb) dd fun h' dd' hs=>h _ ?_
  obtain⟨q,es,ep,hq,h2,h3,h4,_,h5⟩:=dd'
  refine Gc I (by rw [e];exact bn) hs ⟨q,hq⟩ ⟨hl,hd,_,(rel.put k eb rv).keeps fun c ys ec=>?_,q,es,ep,hq,h2,h3,h4,h5⟩
  rw [Ak (a83 ec e (fun z=>nomatch z))]
  exact ec
end
section
variable {X:Cx} {pins:List (Addr×Obj)} {σ:St} {H:Hp} {s:al} {a:Addr} {kvs:List (Key×V)} {k:Key} {u:Value} {A:bj} {E:Value->al->Prop}
theorem av6 {Q:Value->al->Prop} (I:Inv X pins σ H s) (e:H a=some (.dK kvs)) (h:∀ s',Inv X pins σ (upd H a (.dK [])) s'->Q .none s'):aV (model X.prog X.w) A (call (.builtin "dict.clear") [.ref a]) Q E s:=by
 obtain⟨z,hd,vs,rel,dd⟩:=Xj I.hok e
 refine jA iF dd.typeIs PySem.F.entry_dict_clear (PySem.F.args_dict_clear_1 _) (meets_dict_clear (Av X.prog X.w) a) ⟨vs,dd,by rw [<- rel.length];exact z,fun h' dd' hs=>h _ ?_⟩
 have he:∃ q,h'.get? a=some q:=let ⟨q,_,_,hq,_⟩:=dd';⟨q,hq⟩
 exact Gc (t':=s.toks) I (by rw [e];exact bn) hs he (Pd (bR _) hd .nil dd')
theorem bx7 {Q:Value->al->Prop} (I:Inv X pins σ H s) (e:Rd H a (.dK kvs)) (h:∀ t s',Inv X pins σ H s'->Q (.int kvs.length t) s'):aV (model X.prog X.w) A (call (.builtin "len") [.ref a]) Q E s:=by
 obtain⟨z,hd,vs,rel,dd⟩:=Fr I.hok e
 refine call_len_dict hd dd (by rw [<- rel.length];rw [c5] at z;omega) ?_
 rw [<- rel.length]
 exact h _ _ (I.tok _)
end
theorem Rw {X:Cx} {pins:List (Addr×Obj)} {σ:St} {H:Hp} {s:al} {a:Addr} {y:V} {o:Option V} (I:Inv X pins σ H s) (g:DGet H a y o):s.TypeIs (.ref a) "dict" := by
 rcases g with ⟨kvs,k,e,_,_⟩|⟨kvs,k,b,e,_,_,_⟩
 ·obtain⟨_,_,vs,_,dd⟩:=Fr I.hok e
  exact dd.typeIs
 ·obtain⟨_,_,xs,_,dd⟩:=Ry I.hok e
  exact dd.typeIs
section
variable {X:Cx} {o i e value:Expr} {pos pos' tpos:Pos} {td ty tv:TE}
end
theorem Rx {P:aW} {w:bE} {H:Hp} (h:Heap) (hb:cX<h.objs.size):ObjOk P w H (h.push { cls:=.type "dict", data:=.dict #[] }) h.objs.size (.dK []):=
 ⟨bR _,beq_eq_false_iff_ne.mpr (cA (aT hb)),[],.nil,Heap.DictOf.new h⟩
theorem ah9 {P:aW} {w:bE} {H:Hp} (h:Heap) (hb:cX<h.objs.size):ObjOk P w H (h.push { cls:=.type "dict", data:=.dict #[] }) h.objs.size (.dT []):=
 ⟨bR _,beq_eq_false_iff_ne.mpr (cA (aT hb)),[],.nil,_,#[],0,aK _ rfl,⟨rfl,rfl,rfl⟩,rfl,rfl,hX⟩
section
variable {X:Cx} {pos:Pos}
end
noncomputable def Ql:List (TE×TE)->St->Hp->(List (V×V)->Hp->Prop)->Prop
 | [],_,H,Q=>Q [] H
 | (tk,tv)::r,σ,H,Q=>tk σ H fun x H1=>tv σ H1 fun y H2=>Ql r σ H2 fun ps H3=>Q ((x,y)::ps) H3
noncomputable abbrev VV:List (V×V)->List (Value×Value)->Prop:=ge fun p q=>RelV p.1 q.1/\RelV p.2 q.2
noncomputable def PPs (X:Cx) (pos:Pos) (keys:List (Option Expr)) (values:List Expr) (trs:List (TE×TE)):Prop:=
 ∀ (pins:List (Addr×Obj)) (s:al) (σ:St) (H:Hp) (Q:List (V×V)->Hp->Prop),Inv X pins σ H s->Ql trs σ H Q ->
  aV (model X.prog X.w) X.A (evalPairs (pairTrees keys values X.env pos)) (fun vs s'=>∃ ps H',Inv X pins σ H' s'/\VV ps vs/\Q ps H') X.xe s
theorem a04 {X:Cx} {pos:Pos}:PPs X pos [] [] []:=fun pins s σ H Q I h=>pairTrees_nil_walk ⟨[],H,I,.nil,h⟩
theorem an5 {X:Cx} {pos:Pos} {k v:Expr} {ks:List (Option Expr)} {vs:List Expr} {tk tv:TE} {trs:List (TE×TE)} (hk:PE X k tk) (hv:PE X v tv) (hr:PPs X pos ks vs trs) :
  PPs X pos (some k::ks) (v::vs) ((tk,tv)::trs):=fun pins s σ H Q I h=>
 pairTrees_cons_walk (thn (hk pins s σ H _ I h) fun u s1 ⟨x,H1,I1,rx,q1⟩=>thn (hv pins s1 σ H1 _ I1 q1) fun w2 s2 ⟨y,H2,I2,ry,q2⟩=>
  thn (hr pins s2 σ H2 _ I2 q2) fun ws s3 ⟨ps,H3,I3,rel,q3⟩=>⟨(x,y)::ps,H3,I3,.cons ⟨rx,ry⟩ rel,q3⟩)
noncomputable def Ed (kvs more:List (Key×V)):List (Key×V):=more.foldl (fun acc kv=>Dg acc kv.1 kv.2) kvs
theorem KV.merge:∀ {more:List (Key×V)} {rs:List (Key×Value)} {kvs:List (Key×V)} {vs:List (Key×Value)},KV more rs->KV kvs vs->KV (Ed kvs more) (merged vs rs):=by
 intro more rs kvs vs r
 unfold KV at r
 induction r generalizing kvs vs with
 | nil=>intro q;exact q
 | @cons p q ps qs h t ih=>
  intro r0
  have e:KV (Dg kvs p.1 p.2) (stored vs q.1 q.2):=by
   have:=r0.put p.1 h.2
   rw [<- h.1];exact this
  exact ih e
theorem Gp:∀ (more kvs:List (Key×V)),(Ed kvs more).length<=kvs.length+more.length
 | [],kvs=>by show kvs.length<=kvs.length+0;omega
 | p::r,kvs=>by
  have h1:=Gp r (Dg kvs p.1 p.2)
  have h2:=Dp kvs p.1 p.2
  show (Ed (Dg kvs p.1 p.2) r).length<=_
  rw [aI];omega
theorem Kl {P:aW} {w:bE}:∀ {kvs:List (Key×V)} {ws:List (Value×Value)},VV (kvs.map fun kv=>(kV kv.1,kv.2)) ws -> ∃ rs,Carries (Av P w) ws rs/\KV kvs rs
 | [],_,r=>by rw [gc] at r;cases r;exact⟨[],bn,.nil⟩
 | p::kvs,_,r=>by
  rw [aQ] at r
  cases r with
  | @cons a b as bs h t=>
   obtain⟨rs,c,q⟩:=Kl (P:=P) (w:=w) t
   obtain⟨b1,b2⟩:=b
   exact⟨(p.1,b2)::rs,⟨Ky h.1,rfl,c⟩,.cons ⟨rfl,h.2⟩ q⟩
noncomputable def cb5 (trs:List (TE×TE)):TE:=fun σ H Q=>∀ p,H p=none->Ql trs σ (upd H p (.dK [])) fun ps H2=>H2 p=some (.dK []) /\ ∃ kvs:List (Key×V),ps=kvs.map (fun kv=>(kV kv.1,kv.2))/\kvs.length<=15/\Q (.ref p) (upd H2 p (.dK (Ed [] kvs)))
theorem a00 {X:Cx} {pos:Pos} {keys:List (Option Expr)} {values:List Expr} {trs:List (TE×TE)} (h:PPs X pos keys values trs) (hall:keys.all (·.isSome)=true) (hl:keys.length=values.length) (h0:keys≠[])
  (h15:keys.length<=15):PE X (.Dict keys values pos) (cb5 trs):=by
 intro pins s σ H Q I q
 have hn:=I.hok.fresh (ak s.heap.objs.size)
 have I1:=I.laid (a:=s.heap.objs.size) (o:=.dK []) (h':=s.heap.push { cls:=.type "dict", data:=.dict #[] }) (t':=s.toks) (fun _ _ q=>aj _ q) (ak _) (Rx s.heap I.big)
 refine wpAny_Dict_walk (knd:=Av X.prog X.w) hall hl h0 h15 (thn (h pins _ σ _ _ I1 (q _ hn)) fun ws s2 ⟨ps,H2,I2,rel,e,kvs,ep,lk,q2⟩=>?_)
 subst ep
 obtain⟨rs,c,rk⟩:=Kl (P:=X.prog) (w:=X.w) rel
 obtain⟨z,hd,vs0,r0,dd⟩:=Xj I2.hok e
 cases r0
 refine⟨rs,c,dd,fun h' dd' hs=>⟨.ref s.heap.objs.size,_,?_,rfl,q2⟩⟩
 have hz:(Ed [] kvs).length<=sizeLine:=by
  have h1:=Gp kvs []
  rw [jk] at h1
  rw [c5];omega
 have he:∃ q,h'.get? s.heap.objs.size=some q:=let ⟨q,_,_,hq,_⟩:=dd';⟨q,hq⟩
 exact Gc I2 (by rw [e];exact bn) hs he (Pd hz hd (rk.merge .nil) dd')
section
variable {X:Cx} {pins:List (Addr×Obj)} {σ:St} {H:Hp} {s:al} {a:Addr} {y d:V} {u r:Value} {o:Option V} {A:bj} {E:Value->al->Prop}
end
section
variable {X:Cx} {o e f:Expr} {apos cpos:Pos} {td ty tx:TE}
end
section
variable {X:Cx} {pins:List (Addr×Obj)} {σ:St} {H:Hp} {s:al} {a:Addr} {kvs:List (Key×V)} {A:bj} {E:Value->al->Prop}
end
section
variable {X:Cx} {pins:List (Addr×Obj)} {σ:St} {H:Hp} {s:al} {a:Addr} {y:V} {u:Value} {A:bj} {E:Value->al->Prop}
end
noncomputable abbrev EK:=Addr->Hp->Prop
noncomputable abbrev DE:=St->Hp->VK->EK->Prop
noncomputable abbrev DT:=St->Hp->(Bool->Hp->Prop)->EK->Prop
noncomputable abbrev DA:=St->Hp->(List V->Hp->Prop)->EK->Prop
structure Ol where
 nx:St->Hp->Prop
 rt:VK
 bk:St->Hp->Prop
 ct:St->Hp->Prop
 ex:St->EK
noncomputable abbrev DS:=Ol->St->Hp->Prop
noncomputable abbrev Bj (C:Addr) (dx:Option Addr) (vs:Array Value):Obj:={ cls:=.ref C,dict:=dx,data:=.fields vs }
noncomputable def aw9 (a C:Addr) (dx:Option Addr):HO:=.ext fun h=>∃ vs:Array Value,h.get? a=some (Bj C dx vs)/\vs.size=6/\vs[1]? = some .none/\vs[2]? = some .none
noncomputable def flO (a C:Addr) (dx:Option Addr):HO:=.ext fun h=>∃ vs:Array Value,h.get? a=some (Bj C dx vs)/\vs.size=6/\vs[2]? = some .none
noncomputable def fcO (a C:Addr) (dx:Option Addr):HO:=.ext fun h=>∃ vs:Array Value,h.get? a=some (Bj C dx vs)/\vs.size=6
noncomputable def FlO (H:Hp) (a C:Addr) (dx:Option Addr):Prop:=H a=some (flO a C dx)\/H a=some (fcO a C dx)
noncomputable def xdO (dx:Addr) (fs:List (Str×V)):HO:=.ext fun h=>fs.length<=1000 /\ ∃ mA,h.Ns1 dx mA/\(∀ f,RelO (fs.lookup f) (mA f))/\gj mA (fs.map (·.1))
noncomputable def aa8 (X:Cx) (pins:List (Addr×Obj)) (H:Hp) (a:Addr) (s:al):Prop:=
 ∃ (C:Addr) (dx:Option Addr) (vs:Array Value),FlO H a C dx/\s.heap.get? a=some (Bj C dx vs)/\vs.size=6 /\
  (vs[1]? = some .none \/ ∃ (T:Addr) (oT:Obj) (ts:Array Value),vs[1]? = some (.ref T)/\T≠a/\s.heap.get? T=some oT/\oT.data=.fields ts/\(∃ z,ts[3]? = some z)/\Ek X pins H T)
noncomputable def Meets (X:Cx) (Ex:St->EK):Prop:=
 ∀ (pins:List (Addr×Obj)) (σ:St) (H:Hp) (s:al) (a:Addr),Inv X pins σ H s->aa8 X pins H a s->Ex σ a H->X.xe (.ref a) s
noncomputable def QE (X:Cx) (e:Expr) (t:DE):Prop:=∀ Ex,Meets X Ex->PE X e (fun σ H Q=>t σ H Q (Ex σ))
noncomputable def QT (X:Cx) (e:Expr) (t:DT):Prop:=∀ Ex,Meets X Ex->PT X e (fun σ H Q=>t σ H Q (Ex σ))
noncomputable def QW (X:Cx) (e:Expr) (t:DT):Prop:=∀ Ex,Meets X Ex->PW X e (fun σ H Q=>t σ H Q (Ex σ))
noncomputable def QA (X:Cx) (es:List Expr) (t:DA):Prop:=∀ Ex,Meets X Ex->PA X es (fun σ H Q=>t σ H Q (Ex σ))
noncomputable def b39 (Ex:St->EK) (D:Qo):Ol:=⟨D.nx,D.rt,D.bk,D.ct,Ex⟩
noncomputable def QS (X:Cx) (st:Stmt) (t:DS):Prop:=∀ Ex,Meets X Ex->PS X st (fun D σ H=>t (b39 Ex D) σ H)
noncomputable def QSs (X:Cx) (st:List Stmt) (t:DS):Prop:=∀ Ex,Meets X Ex->PSs X st (fun D σ H=>t (b39 Ex D) σ H)
noncomputable def dNo:DE:=fun _ _ _ _=>False
noncomputable def Aa (i:Nat):DE:=fun σ H Q _=>match σ[i]? with
 | some (some v)=>Q v H
 | _=>False
noncomputable def dC (v:V):DE:=fun _ H Q _=>Q v H
noncomputable def Ae (r:R2) (a b:DE):DE:=fun σ H Q E=>a σ H (fun x H1=>b σ H1 (fun y H2=>r x y H2 Q) E) E
noncomputable def dUn (r:V->Hp->VK->Prop) (a:DE):DE:=fun σ H Q E=>a σ H (fun x H1=>r x H1 Q) E
noncomputable def Ep (r r':R2) (a b c:DE):DE:=fun σ H Q E=>a σ H (fun x H1=>b σ H1 (fun y H2=>r x y H2 fun z H3=>match z with
 | .bl k=>if k=true then c σ H3 (fun w H4=>r' y w H4 Q) E else Q (.bl false) H3
 | _=>False) E) E
noncomputable def Mw (a b:DT):DT:=fun σ H Q E=>a σ H (fun k H1=>if k=true then b σ H1 Q E else Q false H1) E
noncomputable def dOr (a b:DT):DT:=fun σ H Q E=>a σ H (fun k H1=>if k=true then Q true H1 else b σ H1 Q E) E
noncomputable def D6 (a:DT):DT:=fun σ H Q E=>a σ H (fun k H1=>Q (!k) H1) E
noncomputable def bx5 (t:DT) (a b:DE):DE:=fun σ H Q E=>t σ H (fun k H1=>if k=true then a σ H1 Q E else b σ H1 Q E) E
noncomputable def as6 (K:ae) (x:V) (H:Hp) (Q:Bool->Hp->Prop):Prop:=match x with
 | .bl k=>Q k H
 | .non=>Q false H
 | .int i=>Q (i != 0) H
 | .str y=>y.length<=sizeLine/\Q ((y.length:Int) != 0) H
 | .ref p=>∃ k,bx2 K (.ref p) H k/\Q k H
 | _=>False
noncomputable def Ng (K:ae) (a b:DE):DE:=fun σ H Q E=>a σ H (fun x H1=>as6 K x H1 fun k H2=>if k=true then b σ H2 Q E else Q x H2) E
noncomputable def bx6 (K:ae) (a b:DE):DE:=fun σ H Q E=>a σ H (fun x H1=>as6 K x H1 fun k H2=>if k=true then Q x H2 else b σ H2 Q E) E
noncomputable def a51 (K:ae) (a:DE):DE:=fun σ H Q E=>a σ H (fun x H1=>as6 K x H1 fun k H2=>Q (.bl (!k)) H2) E
noncomputable def Dy (K:ae) (a:DE):DT:=fun σ H Q E=>a σ H (fun x H1=>as6 K x H1 Q) E
noncomputable def Az (a:DE):DT:=fun σ H Q E=>a σ H (fun x H1=>match x with
 | .bl k=>Q k H1
 | _=>False) E
noncomputable def Ai:DA:=fun _ H Q _=>Q [] H
noncomputable def Ac (a:DE) (r:DA):DA:=fun σ H Q E=>a σ H (fun x H1=>r σ H1 (fun xs H2=>Q (x::xs) H2) E) E
noncomputable def Fj (t:DA):DE:=fun σ H Q E=>t σ H (fun xs H1=>xs.length<=sizeLine /\ ∀ p,H1 p=none->Q (.ref p) (upd H1 p (.tup xs))) E
noncomputable def Bl (t:DA):DE:=fun σ H Q E=>t σ H (fun xs H1=>xs.length<=sizeLine /\ ∀ p,H1 p=none->Q (.ref p) (upd H1 p (.lst xs))) E
noncomputable def dFn (r:List V->Hp->VK->EK->Prop) (t:DA):DE:=fun σ H Q E=>t σ H (fun vs H1=>r vs H1 Q E) E
noncomputable def dMt (r:V->Hp->(Hp->(List V->Hp->Prop)->Prop)->VK->Prop) (o:DE) (t:DA):DE:=fun σ H Q E=>o σ H (fun x H1=>r x H1 (fun H2 R=>t σ H2 R E) Q) E
noncomputable def Ag:DS:=fun D σ H=>D.nx σ H
noncomputable def Bo:DS:=fun _ _ _=>False
noncomputable def Ah (t u:DS):DS:=fun D σ H=>t { D with nx:=u D } σ H
noncomputable def Aw (e:DE):DS:=fun D σ H=>e σ H D.rt (D.ex σ)
noncomputable def ah5:DS:=fun D _ H=>D.rt .non H
noncomputable def Cp (e:DE):DS:=fun D σ H=>e σ H (fun _ H1=>D.nx σ H1) (D.ex σ)
noncomputable def dIf (c:DT) (t u:DS):DS:=fun D σ H=>c σ H (fun b H1=>if b=true then t D σ H1 else u D σ H1) (D.ex σ)
noncomputable def bx3:DS:=fun D σ H=>D.bk σ H
noncomputable def bx4:DS:=fun D σ H=>D.ct σ H
noncomputable def Ap (i:Nat) (e:DE):DS:=fun D σ H=>e σ H (fun v H1=>D.nx (σ.set i (some v)) H1) (D.ex σ)
noncomputable abbrev DG:=TG
noncomputable def Mx (e:DE) (g:DG):DS:=fun D σ H=>e σ H (fun v H1=>g v σ H1 D.nx) (D.ex σ)
noncomputable abbrev DI:=St->Hp->(It->Hp->Prop)->EK->Prop
noncomputable def aa9 (J:It) (g:DG) (tb:DS) (D:Ol) (σ:St) (H:Hp):Prop:=∃ W:Nat->Nat->St->Hp->Prop,(∃ m,W 0 m σ H) /\ ∀ i m σ H,W i m σ H ->
 (J.stop i H/\D.nx σ H)\/(J.go i H /\ ∃ N:St->Hp->Prop,(∀ σ' H',N σ' H' -> ∃ m',m'<m/\W (i+1) m' σ' H') /\ ∀ x H',J.yld i H x H'->g x σ H' (fun σ2 H2=>tb { D with nx:=N,ct:=N,bk:=D.nx } σ2 H2))
noncomputable def Thaw (H0 H:Hp) (P:Hp->Prop):Prop:=P H \/ ∃ p o kvs,H0 p=some (.dK kvs)/\H p=some (.frz o (.dK kvs))/\P (upd H p (.dK kvs))
noncomputable def B4 (wi:DI) (g:DG) (tb:DS):DS:=fun D σ H=>wi σ H (fun J H1=>aa9 J g tb { D with nx:=fun σ' H'=>Thaw H H' (D.nx σ') } σ H1) (D.ex σ)
noncomputable def E3 (J:It) (g:DG) (tc:DT) (te:DE) (D:Addr) (R:Hp->Prop) (σ:St) (H:Hp) (E:EK):Prop:=
 ∃ W:Nat->Nat->St->Hp->Prop,(∃ m,W 0 m σ H) /\ ∀ i m σ' H',W i m σ' H' ->
  (J.stop i H'/\R H')\/(J.go i H' /\ ∃ N:St->Hp->Prop,(∀ σ2 H2,N σ2 H2 -> ∃ m',m'<m/\W (i+1) m' σ2 H2) /\ ∀ x H2,J.yld i H' x H2->g x σ' H2 (fun σ3 H3=>tc σ3 H3 (fun b H4=>if b=true then
    te σ3 H4 (fun v H5=>∃ ys,H5 D=some (.lst ys)/\ys.length<sizeLine/\N σ3 (upd H5 D (.lst (ys++[v])))) E
   else N σ3 H4) E))
noncomputable def Bf (srcs:List (Option Nat)) (wi:DI) (g:DG) (tc:DT) (te:DE):DE:=fun σ H Q E=>wi σ H (fun J H1=>∀ D,H1 D=none->E3 J g tc te D (fun H'=>Q (.ref D) H') (Ul srcs σ) (upd H1 D (.lst [])) E) E
noncomputable def Bw:DT:=fun _ H Q _=>Q true H
noncomputable def gdN (i:Nat):DG:=fun v σ H Q=>Q (σ.set i (some v)) H
end L2
namespace L2
open PySem PySem.Spec PyProof.Rows PySem.W
section
variable {prog:aW} {w:bE} {A:bj} {E:Value->al->Prop} {s:al} {K:ae} {x C:Addr} {ox:Obj} {od:Option Obj} {name:Str} {expr:Bool} {Q:Value->al->Prop}
theorem ag2 (self:Value):lg (.builtin "BaseException.__getattribute__") self=pure (.builtin "BaseException.__getattribute__", [self]):=by
 have hop:withoutEnding? "BaseException.__getattribute__" "#opaque" = none:=by decide +kernel
 have hdat:withoutEnding? "BaseException.__getattribute__" "#data" = none:=by decide +kernel
 have hk:builtinKind "BaseException.__getattribute__" = some .slot:=by decide +kernel
 simp only [lg,typeOf,builtinType,hop,hdat,hk];rfl
end
end L2
namespace L2
open PySem PySem.Spec PyProof.Rows PySem.W Builtin Builtin.ObjectAttr
noncomputable def Dk:List Value->Bool
 | [.type a,.type b,.type c,.type d]=>a == "ValueError" && b == "Exception" && c == "BaseException" && d == "object"
 | .ref _::r=>Dk r
 | _=>false
noncomputable def valTail:List Value:=[.type "ValueError", .type "Exception", .type "BaseException", .type "object"]
theorem Gr:∀ {l:List Value},Dk l=true -> ∃ rs:List Addr,l=rs.map bp++valTail
 | [.type a,.type b,.type c,.type d],e=>by
  have e:(a == "ValueError" && b == "Exception" && c == "BaseException" && d == "object")=true:=e
  simp only [aA,beq_iff_eq] at e
  obtain⟨⟨⟨rfl,rfl⟩,rfl⟩,rfl⟩:=e
  exact⟨[],rfl⟩
 | .ref a::r,e=>by
  have e:Dk r=true:=by cases r <;> first|exact e|cases e
  obtain⟨rs,h⟩:=Gr e
  exact⟨a::rs,by rw [h];rfl⟩
theorem as5 (rs:List Addr) {T:String} (h:valTail.contains (.type T)=true):(rs.map bp++valTail).contains (.type T)=true:=by
 induction rs with
 | nil=>exact h
 | cons a r ih=>rw [aQ,eR,List.contains_cons,ih,Bool.or_true]
section
variable {prog:aW} {w:bE} {A:bj} {s:al} {K:ae} {x C:Addr} {R:kP->al->Prop}
end
section
variable {prog:aW} {w:bE} {A:bj} {E:Value->al->Prop} {s:al} {K:ae} {x dx C f:Addr} {mA:Str->Option Value} {name:Str} {v:Value} {vs:Array Value}
end
end L2
namespace L2
open PySem PySem.Spec PySem.W Builtin Builtin.ObjectAttr
open Sem (wp)
structure ECls (K:ae) (C:Addr):Prop where
 obj:∃ nm q N bs bm hdct sn sub ab col dd k0 k1 k2 k3 k5,K.lookup C=some (excClassObj nm q C N bs bm hdct sn sub ab col dd k0 k1 k2 k3 k5 "ValueError.__new__")/\Dk bm=true/\hdct=true
 sa:findIn K (.ref C) "__setattr__" = some (some (.builtin "object.__setattr__"))
 ga:findIn K (.ref C) "__getattribute__" = some (some (.builtin "BaseException.__getattribute__"))
 gt:findIn K (.ref C) "__getattr__" = some none
 ca:findIn K (.ref C) "__class__" = some (some (.builtin "object.__class__"))
 hn:specialIn K (.builtin "object.__class__") "__get__" = some (some (.builtin "getset_descriptor.__get__"))
 htk:takesIn K (.builtin "object.__class__")=some true
section
variable {M:Model} {A:bj} {E:Value->al->Prop} {h:Heap} {g:Array kc} {d:Drawn} {t:Nat} {os:OsState}
variable {nm q:Str} {C N:Addr} {bs bm:List Value} {hdct:Bool} {sn:List Str} {sub:List Value} {ab:Bool} {col:Option Bool} {dd:Option Addr} {k0 k1 k2 k3 k5:Option Value}
end
section
variable {prog:aW} {w:bE} {A:bj} {R:kP->al->Prop} {h:Heap} {g:Array kc} {d:Drawn} {t:Nat} {os:OsState}
variable {nm q:Str} {C N:Addr} {bs bm:List Value} {hdct:Bool} {sn:List Str} {sub:List Value} {ab:Bool} {col:Option Bool} {dd:Option Addr} {k0 k1 k2 k3 k5:Option Value}
end
end L2
namespace L2
open PySem PySem.Spec PySem.W PyProof.Rows
theorem ECls.cls {K:ae} {C:Addr} (c:ECls K C):∃ cd,clsIn K C=some cd/\Dk cd.mro=true/\cd.hasDict=true:=by
 obtain⟨nm,q,N,bs,bm,hdct,sn,sub,ab,col,dd,k0,k1,k2,k3,k5,hl,ht,hd⟩:=c.obj
 refine⟨_,by unfold clsIn;rw [hl],?_,hd⟩
 obtain⟨rs,e⟩:=Gr ht
 show Dk (bp C::bm)=true
 rw [e]
 clear e
 show Dk (fz bp (C::rs)++valTail)=true
 have:∀ l:List Addr,Dk (fz bp l++valTail)=true:=fun l=>by
  induction l with
  | nil=>decide +kernel
  | cons a r ih=>cases r <;> exact ih
 exact this _
theorem ECls.sub {K:ae} {C:Addr} (c:ECls K C) {T:String} (h:valTail.contains (.type T)=true):mroIn K C (.type T)=some true:=by
 obtain⟨cd,h1,h2,_⟩:=c.cls
 obtain⟨rs,e⟩:=Gr h2
 unfold mroIn
 rw [h1,iO,e,as5 rs h,if_neg]
 cases rs <;> exact am
section
variable {prog:aW} {w:bE} {A:bj} {E:Value->al->Prop} {s:al} {K:ae} {x C:Addr} {ox:Obj} {od:Option Obj} {name:Str}
theorem ai9 {g a v:Value} {Q:Option Value->al->Prop} (X:K.In s.heap) (I:PySem.W.InstAt s.heap x ox C od) (hga:aP K (.ref C) "__getattribute__" = some (some (.builtin "BaseException.__getattribute__"))) (hgt:aP K (.ref C) "__getattr__" = some none)
  (hB:PySem.W.mroIn K C (.type "BaseException")=some true) (hf:PySem.W.findObj K C od name=some (.bind g a)) (hh:iQ v=true)
  (h:∀ {A':bj} {R:kP->al->Prop},R (.ok (.ret v)) { s with toks:=s.toks+1 }->fZ (model prog w) A' (.call g ⟨[a,.ref x,.ref C],[]⟩) R { s with toks:=s.toks+1 }) (hq:Q (some v) { s with toks:=s.toks+1 }) :
  aV (model prog w) A (getAttr? (.ref x) name) Q E s:=by
 obtain⟨hp,gg,d,t,os⟩:=s
 have L0:=I.type (M:=model prog w)
 have L1:=eK (M:=model prog w) X hga
 have L2:=eK (M:=model prog w) X hgt
 have L3:=PySem.W.looks_find (M:=model prog w) X I hf
 have L4:=PySem.W.looks_mroIn (M:=model prog w) X hB
 unfold getAttr? getAttrBy? getAttrBy
 refine ag (wpAny_mkText (ag (fJ (bO (ag (L0.at (ag (L1.at ?_))))))))
 have hx2:(gG "BaseException.__getattribute__" == gG "object.__getattribute__")=false:=by decide +kernel
 have hx1:(onTheHeap (bp C)&&gG "BaseException.__getattribute__" == gG "object.__getattribute__")=false:=by rw [hx2];rfl
 dsimp only
 rw [hx1,if_neg am]
 unfold getAttrByItsOwn
 refine ag (show aV _ _ (typeLookup (.ref C) "__getattr__") _ _ _ from L2.at ?_)
 refine ag (fJ (bO ?_))
 have hx0:(false&&onTheHeap (gG "BaseException.__getattribute__"))=false:=rfl
 unfold callGetattribute
 rw [hx0,if_neg am]
 unfold boundAndCalled
 rw [ag2]
 refine ag (ao ?_)
 refine ix (gy (by decide +kernel) F.entry_bexc_ga (check_slot (i := "BaseException.__getattribute__") (owner := "BaseException") (n := "__getattribute__") (by decide +kernel) (by decide +kernel) (L0.andThen L4) (F.args_bexc_ga _ _) ?_))
 unfold ay.«object.__getattribute__»
 refine ag (ao (ag (ao (ag (L0.at (ag (L3.at ?_)))))))
 refine ag (bO (ix (h ?_)))
 refine ao ?_
 show aV _ _ (handedOut v) _ _ _
 rw [PySem.W.handedOut_of hh]
 exact ao (ao hq)
theorem Mz {a g:Value} (hc:(clsIn K C).isSome=true) (ha:findIn K (.ref C) name=some (some a)) (hg:specialIn K a "__get__" = some (some g)) (ht:takesIn K a=some true):findObj K C od name=some (.bind g a):=by
 obtain⟨cd,hc⟩:=Option.isSome_iff_exists.mp hc
 unfold findObj
 rw [hc,iO,ha,iO]
 simp [hg,ht]
theorem Y2 {Q:Option Value->al->Prop} (c:ECls K C) (X:K.In s.heap) (I:InstAt s.heap x ox C od) (h:Q (some (.ref C)) { s with toks:=s.toks+1 }):aV (model prog w) A (getAttr? (.ref x) "__class__") Q E s:=by
 have hf:findObj K C od "__class__" = some (.bind (.builtin "getset_descriptor.__get__") (.builtin "object.__class__")):=Mz (by obtain⟨cd,hc,_⟩:=c.cls;rw [hc];rfl) c.ca c.hn c.htk
 exact ai9 (v:=.ref C) X I c.ga c.gt (c.sub (by decide +kernel)) hf rfl (fun q=>class_get (s:={ s with toks:=s.toks+1 }) (ox:=ox) (od:=od) X I (c.sub (by decide +kernel)) q) h
end
theorem ak1 {K:ae} {x D:Addr} (c:ECls K D):KitX K (.ref x) (.ref D) (fun h=>∃ ox od,InstAt h x ox D od) where
 ty:=fun _ _ _ ⟨_,_,I⟩=>I.type
 it:=fun _ _ X _=>by
  obtain⟨cdD,hcD,_⟩:=c.cls
  unfold clsIn at hcD
  split at hcD
  ·rename_i c' d' cd' sl' ho
   intro A' Q' E' s' k q
   unfold isType loadHead
   exact ag (wpAny_loadPart (k _ _ (X _ _ ho)) (ao q))
  ·cases hcD
 ne:=fun h tp dd its n sl X htp=>by
  obtain⟨cdD,hcD,_⟩:=c.cls
  refine Bool.eq_false_iff.mpr fun q=>?_
  have e:D=tp:=Value.ref.inj (beq_iff_eq.mp q)
  subst e
  unfold clsIn at hcD
  split at hcD
  ·rename_i c' d' cd' sl' ho
   have z:=(X _ _ ho).symm.trans htp
   cases z
  ·cases hcD
 ca:=fun X ⟨_,_,I⟩ k=>Y2 c X I k
noncomputable def ExcAt (H:Hp) (a C:Addr) (fs:List (Str×V)):Prop:=(fs=[]/\(H a=some (aw9 a C none)\/FlO H a C none)) \/ ∃ dx,dx≠a/\(H a=some (aw9 a C (some dx))\/FlO H a C (some dx))/\H dx=some (xdO dx fs)
inductive TyX (K:ae) (H:Hp) (x:V) (t:Value):Prop where
 | of (h:TyOf K H x t)
 | exc {a C:Addr} {fs:List (Str×V)} (ex:x=.ref a) (e:ExcAt H a C fs) (c:ECls K C) (et:t=.ref C)
 | sqT {a:Addr} {xs:List V} (ex:x=.ref a) (e:SqT K H a xs) (et:t=.type "tuple")
 | sqL {a:Addr} {xs:List V} (ex:x=.ref a) (e:SqL K H a xs) (et:t=.type "list")
section
variable {X:Cx} {pins:List (Addr×Obj)} {σ:St} {H:Hp} {s:al} {A:bj} {E:Value->al->Prop} {a C:Addr} {fs:List (Str×V)}
theorem be5 {dx:Option Addr} (I:Inv X pins σ H s) (e:H a=some (aw9 a C dx)):∃ vs:Array Value,s.heap.get? a=some (Bj C dx vs)/\vs.size=6/\vs[1]? = some .none/\vs[2]? = some .none:=(I.hok a _ e).1
theorem a55 {dx:Option Addr} (I:Inv X pins σ H s) (e:H a=some (flO a C dx)):∃ vs:Array Value,s.heap.get? a=some (Bj C dx vs)/\vs.size=6/\vs[2]? = some .none:=(I.hok a _ e).1
theorem a54 {dx:Option Addr} (I:Inv X pins σ H s) (e:H a=some (aw9 a C dx)\/FlO H a C dx):∃ vs:Array Value,s.heap.get? a=some (Bj C dx vs)/\vs.size=6:=by
 rcases e with e|e|e
 ·obtain⟨vs,h1,h2,_⟩:=be5 I e;exact⟨vs,h1,h2⟩
 ·obtain⟨vs,h1,h2,_⟩:=a55 I e;exact⟨vs,h1,h2⟩
 ·exact (I.hok a _ e).1
theorem ch3 {dx:Addr} (I:Inv X pins σ H s) (e:H dx=some (xdO dx fs)):fs.length<=1000 /\ ∃ mA,s.heap.Ns1 dx mA/\(∀ f,RelO (fs.lookup f) (mA f))/\gj mA (fs.map (·.1)):=(I.hok dx _ e).1
theorem ExcAt.inst (I:Inv X pins σ H s) (e:ExcAt H a C fs):∃ vs dx od,InstAt s.heap a (Bj C dx vs) C od/\(∀ o,od=some o -> ∀ name,∃ v,lookIn name o=some v/\RelO (fs.lookup name) v)/\(od=none->fs=[]):=by
 rcases e with ⟨rfl,e⟩|⟨dx,ne,e,ed⟩
 ·obtain⟨vs,h1,_⟩:=a54 I e
  exact⟨vs,none,none,⟨h1,rfl,rfl,bn⟩,fun o z=>(nomatch z),fun _=>rfl⟩
 ·obtain⟨vs,h1,_⟩:=a54 I e
  obtain⟨_,mA,hn,hr,_⟩:=ch3 I ed
  obtain⟨od,ho,hl⟩:=Nx hn
  refine⟨vs,some dx,some od,⟨h1,rfl,rfl,ho⟩,fun o z name=>?_,fun z=>nomatch z⟩
  cases z
  exact⟨_,hl name,hr name⟩
theorem Kw {Q:Value->al->Prop} {c:Value} {b:Bool} {x:V} {u t:Value} (I:Inv X pins σ H s) (rx:RelV x u) (ty:TyX X.K H x t) (e:eP X.K t c=some b) (h:∀ tk,Q (.bool b) { s with toks:=tk }) :
  aV (model X.prog X.w) A (call (.builtin "isinstance") [u,c]) Q E s:=by
 cases ty with
 | of ty=>exact Nt I rx ty e h
 | @exc a C fs ex ea cl et=>
  subst ex et
  cases (show u=bp a from rx)
  obtain⟨vs,dx,od,J,_⟩:=ea.inst I
  exact bU (ak1 cl) I.kIn ⟨_,_,J⟩ e (fun z=>nomatch z) h
 | @sqT a xs ex q et=>
  subst ex et
  cases (show u=bp a from rx)
  obtain⟨_,_,⟨o,h1,h2,_⟩,_⟩:=I.tuple q
  exact bU ky I.kIn ⟨o,h1,h2⟩ e (fun z=>nomatch z) h
 | @sqL a xs ex q et=>
  subst ex et
  cases (show u=bp a from rx)
  obtain⟨_,_,⟨o,_,h1,h2,_⟩,_⟩:=I.list q
  exact bU im I.kIn ⟨o,h1,h2⟩ e (fun z=>nomatch z) h
theorem be7 {P:aW} {w:bE} {H:Hp} {h:Heap} {dx:Option Addr} {vs:Array Value} (h1:h.get? a=some (Bj C dx vs)) (h2:vs.size=6) (h4:vs[2]? = some .none):ObjOk P w H h a (flO a C dx):=
 ⟨⟨vs,h1,h2,h4⟩,⟨_,h1⟩,fun _ _ ⟨vs',q1,q2⟩ k=>⟨vs',k _ q1,q2⟩⟩
theorem be6 {P:aW} {w:bE} {H:Hp} {h:Heap} {dx:Option Addr} {vs:Array Value} (h1:h.get? a=some (Bj C dx vs)) (h2:vs.size=6):ObjOk P w H h a (fcO a C dx):=
 ⟨⟨vs,h1,h2⟩,⟨_,h1⟩,fun _ _ ⟨vs',q1,q2⟩ k=>⟨vs',k _ q1,q2⟩⟩
variable {CX:CXT} {k:Nat} {f:Addr} {fd:aB} {ps:List Str} {sp:Sp} {dvs:List V} {ds us:List Value} {vs:List V} {Q:VK}
end
end L2
namespace L2
open PySem PySem.Spec PyProof.Rows
noncomputable def Ite (K:ae) (l:Addr):It:=
  ⟨fun i H=>∃ xs x,SqL K H l xs/\xs[i]? = some x,
   fun i H v H'=>∃ T x,H T=none/\v=.ref T/\(∀ xs,SqL K H l xs->xs[i]? = some x)/\H'=upd H T (.tup [.int i,x]),
   fun i H=>∃ xs,SqL K H l xs/\xs.length<=i⟩
theorem aa3 {P:aW} {w:bE} {K:ae} {elts:List Expr} {kt:Nat} {pt:Pos} {e it l:Addr} (ne:e≠it) :
  Om P w K (.Tuple elts kt pt) (Ite K l) [e,it] e (fun i h=>(∃ old,jh h e it (i:Int) old)/\h.IsListIter it l i) where
 mem:=by simp
 obj:=fun i h st b hb=>by
  obtain⟨⟨old,he⟩,⟨o1,e1,c1,d1⟩⟩:=st
  have hb:b=e\/b=it:=by simpa using hb
  rcases hb with rfl|rfl
  ·exact⟨_,he,fun v q=>nomatch q⟩
  ·exact⟨o1,e1,fun v q=>by rw [d1] at q;cases q⟩
 keep:=fun i h h' st k=>by
  obtain⟨⟨old,he⟩,h1⟩:=st
  exact⟨⟨old,k e (by simp) _ he⟩,h1.at fun o q=>k it (by simp) o q⟩
 item:=by
  intro X hP hw hK hc i pins s σ H E I hf st hg
  subst hP hw hK
  obtain⟨xs,x,q1,hx⟩:=hg
  obtain⟨its1,r1,p1,z1⟩:=I.list q1
  obtain⟨u,hu,ru⟩:=r1.get hx
  obtain⟨⟨old,he⟩,h1⟩:=st
  refine wpAny_pyNext_enum_item he h1 p1.isList (x:=u) (by simpa using hu) ne fun h' a1 a2 a3 a4 hk=>?_
  refine⟨_,rfl,g7 a1 fun h'' hz' hs'=>?_⟩
  have hT:=I.hok.fresh (ak s.heap.objs.size)
  have up':∀ b o,b∉[e,it]->s.heap.get? b=some o->h''.get? b=some o:=fun b o hb q=>by
   have b1:b≠e:=by rintro rfl;exact hb (by simp)
   have b2:b≠it:=by rintro rfl;exact hb (by simp)
   exact hs'.extBut b o b1 (hk b o b1 b2 q)
  have nT:∀ {b o},s.heap.get? b=some o->b≠s.heap.objs.size:=fun q=>aT (aN q)
  have Tnew:h''.get? s.heap.objs.size=some { cls:=.type "tuple", data:=.seq #[.int i s.toks,u] }:=hs'.extBut _ _ (cA (nT he)) a3
  have I1:Inv X pins σ (upd H s.heap.objs.size (.tup [.int i,x])) { s with heap:=h'',toks:=s.toks+1 }:=
   I.turnedN (t':=s.toks+1) (ch:=[e,it]) (fun b hb=>hf b hb) up' (ak _) ⟨by show 2<=sizeLine;decide,[.int i s.toks,u],.cons ⟨_,rfl⟩ (.cons ru .nil),⟨_,Tnew,rfl,_,rfl⟩⟩
  refine⟨.ref s.heap.objs.size,_,I1,rfl,⟨s.heap.objs.size,x,hT,rfl,fun xs' h'=>by rw [I.list_inj h' q1];exact hx,rfl⟩,⟨⟨_,hz'⟩,a2.at fun o q=>hs'.extBut _ o (cA ne) q⟩,fun b hb=>?_⟩
  have q:=(hf b hb).1
  rw [Ak ?_]
  ·exact q
  ·have hb:b=e\/b=it:=by simpa using hb
   rcases hb with rfl|rfl
   ·exact nT he
   ·obtain⟨_,q,_⟩:=h1;exact nT q
 done:=by
  intro X hP hw hK hc i pins s σ H E I hf st hg
  subst hP hw hK
  obtain⟨xs,q1,hx⟩:=hg
  obtain⟨its1,r1,p1,z1⟩:=I.list q1
  have e1:=r1.length
  obtain⟨⟨old,he⟩,h1⟩:=st
  refine wpAny_pyNext_enum_end (I.ok.hd hc) he h1 p1.isList (by simp;omega) fun h' hk=>⟨rfl,?_⟩
  refine I.turnedL (t':=s.toks) (ch:=[e,it]) (fun b hb=>hf b hb) fun b o hb q=>?_
  have b2:b≠it:=by rintro rfl;exact hb (by simp)
  exact hk b o b2 q
 self:=fun A i s Q E st h=>let ⟨_,he⟩:=st.1;f8 he h
section
variable {X:Cx} {pins:List (Addr×Obj)} {σ σ0:St} {H H0:Hp} {s s0:al} {p:Addr} {kvs:List (Key×V)} {o:Obj}
noncomputable def Yk (o:Obj) (ep:Nat):Prop:=∃ es,o.data=.dict es ep
theorem Inv.froze (I:Inv X pins σ H s) (h:H p=some (.dK kvs)):∃ ob ep,s.heap.get? p=some ob/\Yk ob ep/\Inv X pins σ (upd H p (.frz ob (.dK kvs))) s:=by
 have K:=I.hok p _ h
 obtain⟨z,y,vs,r,ob,es,ep,e,c,d,q⟩:=id K
 refine⟨ob,ep,e,⟨es,d⟩,?_⟩
 exact I.write (x:=p) (e:=p) (t':=s.toks) (h':=s.heap) (by rw [h];trivial) (.inl rfl) (fun b u _ q=>q) ⟨ob,e⟩ ⟨e,K⟩
theorem Inv.thaw (I0:Inv X pins σ0 H0 s0) (h0:H0 p=some (.dK kvs)) (I:Inv X pins σ H s) (h:H p=some (.frz o (.dK kvs))):Inv X pins σ (upd H p (.dK kvs)) s:=by
 have ne:∀ b,H b=none->b≠p:=fun b e z=>by rw [z,h] at e;cases e
 have ntup:∀ b xs,H b=some (.tup xs)->b≠p:=fun b xs e z=>by rw [z,h] at e;cases e
 have nown:∀ b c,H b=some (.own c)->b≠p:=fun b c e z=>by rw [z,h] at e;cases e
 refine⟨I.ok,I.os,I.bare,⟨I.base.keep,I.base.slot,fun b ob e n hx=>?_,I.base.there,fun b xs e=>?_,fun b ob u e=>?_,fun b ps e=>?_⟩,I.loc,I.cell,?_,fun x c e=>?_,fun q hq=>?_,fun b u e=>?_,I.len⟩
 ·have q:=I.base.free b ob e n hx
  rw [Ak (ne b q)];exact q
 ·have q:=I.base.tups b xs e
  rw [Ak (ntup b xs q)];exact q
 ·have q:=I.base.frzs b ob u e
  have n:b≠p:=fun z=>by
   have q0:=I0.base.frzs b ob u e
   rw [z,h0] at q0;cases q0
  rw [Ak n];exact q
 ·obtain⟨more,q⟩:=I.base.tbls b ps e
  have n:b≠p:=fun z=>by rw [z,h] at q;cases q
  exact⟨more,by rw [Ak n];exact q⟩
 ·rw [Ak (ne _ I.free)];exact I.free
 ·have q:=I.freeC x c e
  rw [Ak (ne _ q)];exact q
 ·obtain⟨a,b,c⟩:=I.pin q hq
  exact⟨a,by rw [Ak (ne _ b)];exact b,c⟩
 ·by_cases z:b=p
  ·subst z
   rw [Ad] at e
   cases e
   exact (I.hok b _ h).2
  ·rw [Ak z] at e
   exact (I.hok b u e).stay (fun _ _ _ q=>q) (fun c q=>by rw [Ak (nown c b q)];exact q) fun c xs q=>by rw [Ak (ntup c xs q)];exact q
theorem Thaw.inv {P:Hp->Prop} (I0:Inv X pins σ0 H0 s0) (I:Inv X pins σ H s) (t:Thaw H0 H P):∃ H',Inv X pins σ H' s/\P H':=by
 rcases t with t|⟨p,o,kvs,h0,h,t⟩
 ·exact⟨H,I,t⟩
 ·exact⟨_,I0.thaw h0 I h,t⟩
theorem Inv.kdict (I:Inv X pins σ H s) (h:H p=some (.frz o (.dK kvs))) {ep:Nat} (he:Yk o ep):∃ vs,KV kvs vs/\s.heap.DictAt (Av X.prog X.w) p vs ep/\(p==cX)=false:=by
 obtain⟨e1,z,y,vs,r,ob,es,ep',e,c,d,q⟩:=I.hok p _ h
 obtain⟨es',d'⟩:=he
 rw [e1] at e
 cases e
 have d2:=d
 rw [d'] at d2
 cases d2
 exact⟨vs,r,⟨o,_,e1,c,d,q⟩,y⟩
end
noncomputable def Itd (p:Addr) (o:Obj) (kvs:List (Key×V)):It:=
 ⟨fun i H=>H p=some (.frz o (.dK kvs))/\i<kvs.length,fun i H x H'=>H'=H /\ ∃ k v,kvs[i]? = some (k,v)/\x=kV k,fun i H=>H p=some (.frz o (.dK kvs))/\kvs.length<=i⟩
theorem Xt:∀ {kvs:List (Key×V)} {vs:List (Key×Value)} {i:Nat} {k:Key} {v:V},KV kvs vs->kvs[i]? = some (k,v) -> ∃ u,vs[i]? = some (k,u)/\RelV v u
 | _,_,0,k,v,.cons (b:=q) r _,e=>by
  simp only [c9,il] at e
  subst e
  exact⟨q.2,congrArg some (Prod.ext r.1.symm rfl),r.2⟩
 | _,_,i+1,k,v,.cons r t,e=>by
  simp only [bZ] at e ⊢
  exact Xt t e
theorem aj9 {P:aW} {w:bE} {k:Key} {u:Value} (h:(Av P w).is k u=true):RelV (kV k) u:=by
 cases k with
 | inl i=>obtain⟨t,rfl⟩:=Value.isInt_shape (show lf i u=true from h);exact⟨t,rfl⟩
 | inr z=>obtain⟨t,rfl⟩:=j7 (show gH z u=true from h);exact⟨t,rfl⟩
theorem aa2 {P:aW} {w:bE} {K:ae} {tg:Expr} (p it:Addr) (o:Obj) (kvs:List (Key×V)) {ep:Nat} (he:Yk o ep):Om P w K tg (Itd p o kvs) [it] it (fun i h=>h.IsKeyIter it p i kvs.length ep) where
 mem:=by simp
 obj:=fun i h st b hb=>by
  have e:b=it:=by simpa using hb
  subst e
  obtain⟨o,e,c,d⟩:=st
  exact⟨o,e,fun v z=>by rw [d] at z;cases z⟩
 keep:=fun i h h' st k=>st.at fun o e=>k it (by simp) o e
 item:=by
  intro X hP hw hK hc i pins s σ H E I hf st hg
  subst hP hw hK
  obtain⟨hH,hi⟩:=hg
  obtain⟨vs,rel,hd,hm⟩:=I.kdict hH he
  obtain⟨f0,f1,f2,f3,f4,f5⟩:=hf it (by simp)
  obtain⟨⟨k,v⟩,hx⟩:∃ q,kvs[i]? = some q:=⟨kvs[i],by simp [hi]⟩
  obtain⟨u,hu,_⟩:=Xt rel hx
  have hl:kvs.length=vs.length:=rel.length
  rw [hl] at st
  refine jd st hd hu fun key h' hk st' sb=>?_
  have I1:Inv X pins σ H { s with heap:=h' }:=I.turned (t':=s.toks) (fun b o hb e=>sb.extBut b o hb e) f0 f1 f3 f4 f5
  obtain⟨o1,e,c,d⟩:=id st'
  exact⟨key,rfl,Np (s:={ s with heap:=h' }) e c d (by decide) ⟨kV k,H,I1,aj9 hk,⟨rfl,k,v,hx,rfl⟩,by rw [hl];exact st',fun b hb=>(hf b hb).1⟩⟩
 done:=by
  intro X hP hw hK hc i pins s σ H E I hf st hg
  subst hP hw hK
  obtain⟨hH,hi⟩:=hg
  obtain⟨vs,rel,hd,hm⟩:=I.kdict hH he
  obtain⟨f0,f1,f2,f3,f4,f5⟩:=hf it (by simp)
  have hl:kvs.length=vs.length:=rel.length
  rw [hl] at st
  exact wpAny_pyNext_dict_end (I.ok.hd hc) st hd (by simp;omega) fun h' eb=>⟨rfl,I.turned (t':=s.toks) (fun b o hb e=>eb b o hb e) f0 f1 f3 f4 f5⟩
 self:=fun _ _ _ _ _ st h=>wpAny_pyIter_keyiter st h
theorem aw1 {X:Cx} {tg:Expr} {pins:List (Addr×Obj)} {σ:St} {H:Hp} {s:al} {R:It->Hp->Prop} {E:Value->al->Prop} {p:Addr} {o:Obj} {kvs:List (Key×V)} (I:Inv X pins σ H s) (h:H p=some (.frz o (.dK kvs)))
  (q:R (Itd p o kvs) H):aV (model X.prog X.w) X.A (lB (.ref p)) (PIE X pins σ tg R) E s:=by
 have he:∃ ep,Yk o ep:=by
  obtain⟨e1,z,y,vs,r,ob,es,ep,e,c,d,_⟩:=I.hok p _ h
  rw [e1] at e;cases e
  exact⟨ep,es,d⟩
 obtain⟨ep,he⟩:=he
 obtain⟨vs,rel,hd,hm⟩:=I.kdict h he
 refine eG hm hd ?_
 refine⟨s.heap.objs.size,[s.heap.objs.size],_,_,H,rfl,I.kept (t':=s.toks) fun b o e=>aj _ e,aa2 p _ o kvs he,⟨_,aK _ rfl,rfl,by rw [rel.length];rfl⟩,fun b hb=>?_,q⟩
 have e:b=s.heap.objs.size:=by simpa using hb
 subst e
 exact I.fpOk (ak _) (I.hok.fresh (ak _))
end L2
namespace PySem
theorem Sem.wp_never {α:Type} (M:Model) (Γ:Ctx):∀ (t:Sem α) (p:Pos) (s:al),Sem.wp M Γ t (fun _ _ _=>False) (fun _ _ _=>False) p s->False:=by
 intro t
 induction t with
 | pure a=>intro p s h;exact h
 | raise e=>intro p s h;exact h
 | unsupported w=>intro p s h;exact h
 | finish e=>intro p s h;exact h
 | rule tag k ih=>intro p s h;exact ih () p s h
 | «at» q k ih=>intro p s h;exact ih () q s h
 | load a part k ih=>intro p s h;obtain⟨o,_,h⟩:=h;exact ih o p s h
 | update a part f k ih=>intro p s h;exact ih () p _ h.2
 | alloc o k ih=>intro p s h;exact ih _ p _ h
 | loadIfAlive a k ih=>intro p s h;exact ih _ p s h
 | point l k ih=>intro p s h;exact ih () p s h
 | register a k ih=>intro p s h;exact h
 | fresh k ih=>intro p s h;exact ih _ p _ h
 | ask k ih=>intro p s h;exact ih _ p s h
 | choose src n k ih=>intro p s h;exact ih _ p _ h.2
 | os q l k ih=>intro p s h;exact ih _ p _ h
 | call c hd g l k ih=>intro p s h;obtain⟨r,s',_,h⟩:=h;exact ih r p s' h
 | handled own k ih=>intro p s h;exact ih _ p s h
 | newGen c k ih=>intro p s h;exact ih _ p _ h
 | genState g k ih=>intro p s h;obtain⟨st,_,h⟩:=h;exact ih _ p s h
 | resume g r l k ih=>intro p s h;obtain⟨res,s',_,h⟩:=h;exact ih res p s' h
 | yield v g l k ih=>intro p s h;exact h
 | stack k ih=>intro p s h;exact ih _ p s h
 | fork c k ih=>intro p s h;exact h
 | thread k ih=>intro p s h;first|exact ih _ p s h|exact h
 | await a tk d l k ih=>intro p s h;first|exact h|exact ih _ p s h
section
variable {prog:aW} {w:bE} {A:bj} {E:Value->al->Prop} {s:al}
theorem Zs {v:Value} {P:Value->al->Prop} (h:aV (model prog w) A (gz v) (fun r s'=>∃ u,r=some u/\P u s') (fun _ _=>False) s):aV (model prog w) A (bF v) P E s:=by
 intro Γ p hΓ
 have h:=h Γ p hΓ
 unfold gz Sem.attempt at h
 unfold bF
 rw [kQ,Sem.wp_tryCatch,Sem.wp_bind] at h
 rw [kQ]
 refine Sem.wp_mono _ _ _ (fun o p' s' q=>?_) (fun e p' s' q=>?_) p s h
 ·cases o with
  | none=>exact (show False from q).elim
  | some u=>
   obtain⟨u',e,q⟩:=q
   cases e
   exact q
 ·refine (Sem.wp_never (model prog w) Γ (isInstance e (.type "StopIteration")) p' s' ?_).elim
  have q:Sem.wp (model prog w) Γ (isInstance e (.type "StopIteration") >>= fun b=>if b=true then pure none else throw e) (fun r _ s'=>∃ u,r=some u/\P u s') (fun _ _ _=>False) p' s':=q
  rw [kQ] at q
  refine Sem.wp_mono _ _ _ (fun b p2 s2 q=>?_) (fun _ _ _ z=>z) p' s' q
  cases b with
  | true=>obtain⟨u,z,_⟩:=q;cases z
  | false=>exact q
variable {κ:Type} [DecidableEq κ] {knd:KeyKind prog w κ} {d it:Addr} {ep i:Nat} {kvs:List (κ×Value)}
theorem Jw {Q:Value->al->Prop} (hh:A.handled=none) (hit:s.heap.IsKeyIter it d i kvs.length ep) (hm:s.heap.DictAt knd d kvs ep) (hx:kvs[i]? = none)
  (hE:∀ h' x,kZ it s.heap h'->(∃ o,h'.get? x=some o/\o.cls=.type "StopIteration")->E (.ref x) { s with heap:=h' }):aV (model prog w) A (bF (.ref it)) Q E s:=by
 have ⟨oi,ei,ci,di⟩:=hit
 have ⟨od,es,ed,_,dd,_,pr,_⟩:=hm
 have size:es.size=kvs.length:=pr.length▸(by simp)
 have past:es.size<=i:=by rw [size];simpa using hx
 have own:dQ "dict_keyiterator" = false:=by decide
 have nx:¬ ((i:Int)<0):=by omega
 have noNone:¬ ((bp d==bz)=true):=am
 unfold bF
 refine ag (cq (name:=cS "__next__") hit.typeIs gB (c6 gB hit.typeIs F.entry_dict_keyiterator_next ?_ (F.args_dict_keyiterator_next_1 _)))
 refine ag (ao (ag (ag ?_)))
 first|refine ag (gu hit.typeIs (ao (ag (eQ ei di ?_))))|refine ag (iz hit.typeIs (ao (ag (eQ ei di ?_))))
 simp only [own,cU,if_false]
 show aV _ _ (if (bp d==bz)=true then _ else _) _ _ s
 rw [if_neg noNone]
 refine ag (ao (ag (f7 ed dd ?_)))
 rw [if_neg (show ¬ _ by rw [size];simp)]
 refine ag (ao (ag (jD ed dd ?_)))
 rw [if_neg (show ¬ _ by simp)]
 refine ao ?_
 simp only [nx,if_false,aG,iW past]
 refine ag ?_
 first|refine ag (gu hit.typeIs (ao ?_))|refine ag (iz hit.typeIs (ao ?_))
 show aV _ _ (jH (.ref it) 0 .none >>= fun _=>newExc (.type "StopIteration") [] >>= _) _ _ s
 refine ag (f9 ei di (by simp) (ag ?_))
 simp only [newExc,newTuple]
 refine ag (cr (ag (m:=h_ _ _) (wpAny_of_eq (a:=bz) (by first|rfl|(simp only [h_];rfl)) (cr ?_ (by size_fits)))) (by size_fits))
 simp only [raiseNew]
 refine ag (wpAny_handled ?_)
 rw [show A.in1.handled=none from hh]
 refine ag (ao (lA ?_))
 exact hE _ _ (((cz ..).extBut.push _).push _) ⟨_,aK _ rfl,rfl⟩
theorem Iq {k:κ} {v:Value} {Q:Value->al->Prop} (hit:s.heap.IsKeyIter it d i kvs.length ep) (hm:s.heap.DictAt knd d kvs ep) (hx:kvs[i]? = some (k,v))
  (hQ:∀ key h',knd.is k key=true->h'.IsKeyIter it d (i+1) kvs.length ep->bq it s.heap h'->Q key { s with heap:=h' }):aV (model prog w) A (bF (.ref it)) Q E s:=
 Zs (jd hit hm hx fun key h' a b c=>⟨key,rfl,hQ key h' a b c⟩)
theorem Y1 {e:Addr} {old:Value} {J:Value->Heap->Prop} {Q:Value->al->Prop} (he:jh s.heap e it i old) (hne:e≠it)
  (nx:∀ (A:bj) (P:Value->al->Prop) (E:Value->al->Prop),(∀ x h1,J x h1->bq it s.heap h1->P x { s with heap:=h1 })->aV (model prog w) A (bF (.ref it)) P E s)
  (hJ:∀ x h1 h2,J x h1->(∀ o,h1.get? it=some o->h2.get? it=some o)->J x h2)
  (hQ:∀ x h',IsEnumOut h' e it ((i:Int)+1) x s.heap.objs.size->J x h'->h'.get? s.heap.objs.size=some { cls:=.type "tuple", data:=.seq #[.int i s.toks,x] } ->
   (∀ b o,b≠e->b≠it->s.heap.get? b=some o->h'.get? b=some o)->Q (.ref s.heap.objs.size) { s with heap:=h',toks:=s.toks+1 }) :
  aV (model prog w) A (ay.«enumerate.__next__» ⟨[.ref e],[]⟩) (fun fin s'=>∃ v,fin=.done (.ret v)/\Q v s') E s:=by
 have lt:e<s.heap.objs.size:=aN he
 obtain⟨h0,gs,dr,tk,ops⟩:=s
 show aV _ _ (field (.ref e) 2 >>= fun z=>bF z >>= _) _ _ _
 refine ag (ce he rfl (x:=.ref it) rfl (ag (nx _ _ _ fun x h1 j1 s1=>?_)))
 have k1:bq it h0 h1:=s1
 have e1:jh h1 e it i old:=(k1.2 e hne).trans he
 refine ag (ce (s:=⟨h1,gs,dr,tk,ops⟩) e1 rfl (x:=fQ i) rfl ?_)
 refine ag (m:=field (.ref e) 4) (ce (s:=⟨h1,gs,dr,tk,ops⟩) e1 rfl (x:=.none) rfl ?_)
 show aV _ _ (mkInt i >>= _) _ _ ⟨h1,gs,dr,tk,ops⟩
 refine ag (wpAny_mkInt ?_)
 show aV _ _ (jH (.ref e) 3 (fQ ((i:Int)+1)) >>= fun _=>jH (.ref e) 4 .none >>= _) _ _ ⟨h1,gs,dr,tk+1,ops⟩
 refine ag (bX e1 (by simp) fun h2 e2 s2=>ag (bX (s:=⟨h2,gs,dr,tk+1,ops⟩) (show jh h2 e it ((i:Int)+1) old from e2) (by simp) fun h3 e3 s3=>?_))
 have k2:bq e h1 h2:=s2
 have k3:bq e h2 h3:=s3
 have e3:jh h3 e it ((i:Int)+1) old:=e3
 show aV _ _ (newTuple [.int i tk,x] >>= _) _ _ ⟨h3,gs,dr,tk+1,ops⟩
 refine ag (jR ?_)
 have size:h3.objs.size=h0.objs.size:=by rw [k3.1,k2.1,k1.1]
 have up:∃ h4:Heap,h4=h3.push { cls:=.type "tuple", data:=.seq #[.int i tk,x] }:=⟨_,rfl⟩
 obtain⟨h4,eh4⟩:=up
 rw [<- eh4]
 have e4:jh h4 e it ((i:Int)+1) old:=by rw [eh4];exact aj _ e3
 have t4:h4.get? h0.objs.size=some { cls:=.type "tuple", data:=.seq #[.int i tk,x] }:=by rw [eh4,<- size];exact aK _ rfl
 have j4:J x h4:=hJ x h1 h4 j1 fun o q=>by rw [eh4];exact aj _ (k3.extBut it o (cA hne) (k2.extBut it o (cA hne) q))
 have all4:∀ b o,b≠e->b≠it->h0.get? b=some o->h4.get? b=some o:=fun b o b1 b2 q=>by
  rw [eh4]
  exact aj _ (k3.extBut b o b1 (k2.extBut b o b1 (k1.extBut b o b2 q)))
 show aV _ _ (eY (.ref e) >>= _) _ _ ⟨h4,gs,dr,tk+1,ops⟩
 rw [size]
 refine ag ?_
 unfold eY
 refine ag (ce e4 rfl (x:=.none) rfl (ao ?_))
 simp only [if_true]
 refine ag (jI (ag (ce e4 rfl (x:=old) rfl (ag (bX e4 (by simp) fun h5 e5 s5=>?_)))))
 have e5:jh h5 e it ((i:Int)+1) x:=e5
 have k5:bq e h4 h5:=s5
 show aV _ _ (eN (.ref e) (.ref h0.objs.size) >>= _) _ _ ⟨h5,gs,dr,tk+1,ops⟩
 refine ag ?_
 unfold eN
 refine ag (bX e5 (by simp) fun h6 e6 s6=>bX (s:=⟨h6,gs,dr,tk+1,ops⟩) (show IsEnumOut h6 e it ((i:Int)+1) x h0.objs.size from e6) (by simp) fun h7 e7 s7=>?_)
 have k6:bq e h5 h6:=s6
 have k7:bq e h6 h7:=s7
 have on:∀ b o,b≠e->h4.get? b=some o->h7.get? b=some o:=fun b o n q=>k7.extBut b o n (k6.extBut b o n (k5.extBut b o n q))
 exact ag (lz (ao ⟨_,rfl,hQ x h7 e7 (hJ x h4 h7 j4 fun o q=>on it o (cA hne) q) (on _ _ (d_ lt) t4) fun b o b1 b2 q=>on b o b1 (all4 b o b1 b2 q)⟩))
theorem La {e:Addr} {old:Value} {J:Value->Heap->Prop} {Q:Option Value->al->Prop} (he:jh s.heap e it i old) (hne:e≠it)
  (nx:∀ (A:bj) (P:Value->al->Prop) (E:Value->al->Prop),(∀ x h1,J x h1->bq it s.heap h1->P x { s with heap:=h1 })->aV (model prog w) A (bF (.ref it)) P E s)
  (hJ:∀ x h1 h2,J x h1->(∀ o,h1.get? it=some o->h2.get? it=some o)->J x h2)
  (hQ:∀ x h',IsEnumOut h' e it ((i:Int)+1) x s.heap.objs.size->J x h'->h'.get? s.heap.objs.size=some { cls:=.type "tuple", data:=.seq #[.int i s.toks,x] } ->
   (∀ b o,b≠e->b≠it->s.heap.get? b=some o->h'.get? b=some o)->Q (some (.ref s.heap.objs.size)) { s with heap:=h',toks:=s.toks+1 }):aV (model prog w) A (gz (.ref e)) Q E s:=by
 have ty:s.TypeIs (.ref e) "enumerate" := ⟨_,he,rfl⟩
 unfold gz
 exact ag (fJ (cq (name:=cS "__next__") ty d6 (c6 d6 ty iY (Y1 he hne nx hJ fun x h' a b c d=>ao (hQ x h' a b c d)) (iB _))))
theorem Iy {e:Addr} {old:Value} {Q:Option Value->al->Prop} (hh:A.handled=none) (he:jh s.heap e it i old) (hit:s.heap.IsKeyIter it d i kvs.length ep) (hm:s.heap.DictAt knd d kvs ep) (hx:kvs[i]? = none)
  (hQ:∀ h',kZ it s.heap h'->Q none { s with heap:=h' }):aV (model prog w) A (gz (.ref e)) Q E s:=by
 have ty:s.TypeIs (.ref e) "enumerate" := ⟨_,he,rfl⟩
 unfold gz
 refine ag (fJ (cq (name:=cS "__next__") ty d6 (c6 d6 ty iY ?_ (iB _))))
 show aV _ _ (field (.ref e) 2 >>= fun z=>bF z >>= _) _ _ _
 refine ag (ce he rfl (x:=.ref it) rfl (ag (Jw hh hit hm hx fun h' x hk ⟨o,ho,hc⟩=>?_)))
 exact ag (iV (T := "StopIteration") (b:=true) ⟨o,ho,hc⟩ isSubtype_stop (ao (hQ _ hk)))
theorem Ui {Q:Value->al->Prop} (hd:(d==cX)=false) (hm:s.heap.DictAt knd d kvs ep)
  (h:∀ h',jh h' (s.heap.objs.size+1) s.heap.objs.size 0 .none->h'.IsKeyIter s.heap.objs.size d 0 kvs.length ep->(∀ b o,s.heap.get? b=some o->h'.get? b=some o)->Q (.ref (s.heap.objs.size+1)) { s with heap:=h' }) :
  aV (model prog w) A (call (.type "enumerate") [.ref d]) Q E s:=by
 have g:MeetsIn prog w (ay.«enumerate.__new__» ⟨[.type "enumerate", .ref d],[]⟩) (fun _ R s=>s.heap.DictAt knd d kvs ep /\
   R (.ok (.ret (.ref (s.heap.objs.size+1)))) { s with heap:=(s.heap.push { cls:=.type "dict_keyiterator", data:=.fields #[.ref d,.int 0 0,.int kvs.length 0,.int ep 0] }).push { cls:=.type "enumerate", data:=.fields #[.none,.bool false,.ref s.heap.objs.size,fQ 0,.none,.none] } }):=by
  refine .of_wp fun A R s h=>?_
  obtain⟨hp,g,d',tk,os⟩:=s
  obtain⟨hm,h⟩:=h
  have hsub:=sub_enumerate
  obtain⟨o,es,ho,hcl,hdat,q⟩:=id hm
  have hz:(hp.push { cls:=.type "dict_keyiterator", data:=.fields #[.ref d,.int 0 0,.int kvs.length 0,.int ep 0] }).objs.size=hp.objs.size+1:=df ..
  wp_walk using eG hd hm
  refine wpAny_stack_any fun st=>ao ?_
  have h2:R (.ok (.ret (.ref (hp.push { cls:=.type "dict_keyiterator", data:=.fields #[.ref d,.int 0 0,.int kvs.length 0,.int ep 0] }).objs.size))) ⟨(hp.push { cls:=.type "dict_keyiterator", data:=.fields #[.ref d,.int 0 0,.int kvs.length 0,.int ep 0] }).push { cls:=.type "enumerate", data:=.fields #[.none,.bool false,.ref hp.objs.size,fQ 0,.none,.none] },g,d',tk,os⟩:=by rw [hz];exact h
  split
  ·rename_i c _ _ _ _ _
   cases (c==ff "enumerate")
   ·wp_walk using eG hd hm
    exact⟨_,rfl,h2⟩
   ·wp_walk using eG hd hm
    exact⟨_,rfl,h2⟩
  ·wp_walk using eG hd hm
   exact⟨_,rfl,h2⟩
 refine callType_newIn F.called_enumerate (by decide) (F.typeCall_enumerate_1 _) (F.newCall_enumerate_1 _) (fun obj=>F.args_object_init_2 obj _) F.entry_enumerate_new g ⟨hm,?_⟩
 have hz:(s.heap.push { cls:=.type "dict_keyiterator", data:=.fields #[.ref d,.int 0 0,.int kvs.length 0,.int ep 0] }).objs.size=s.heap.objs.size+1:=df ..
 have he:jh ((s.heap.push { cls:=.type "dict_keyiterator", data:=.fields #[.ref d,.int 0 0,.int kvs.length 0,.int ep 0] }).push { cls:=.type "enumerate", data:=.fields #[.none,.bool false,.ref s.heap.objs.size,fQ 0,.none,.none] }) (s.heap.objs.size+1) s.heap.objs.size 0 .none:=hz▸aK _ rfl
 exact⟨⟨_,he,rfl⟩,h _ he ⟨_,aj _ (aK _ rfl),rfl,rfl⟩ fun b o x=>aj _ (aj _ x)⟩
end
end PySem
namespace L2
open PySem PySem.Spec PyProof.Rows
noncomputable def ab0 (p:Addr) (o:Obj) (kvs:List (Key×V)):It:=
  ⟨fun i H=>H p=some (.frz o (.dK kvs))/\i<kvs.length,
   fun i H x H'=>∃ T k v,H T=none/\x=.ref T/\kvs[i]? = some (k,v)/\H'=upd H T (.tup [.int i,kV k]),
   fun i H=>H p=some (.frz o (.dK kvs))/\kvs.length<=i⟩
theorem Wx {P:aW} {w:bE} {K:ae} {elts:List Expr} {kt:Nat} {pt:Pos} {e it p:Addr} {o:Obj} {kvs:List (Key×V)} {ep:Nat} (ne:e≠it) (he:Yk o ep) :
  Om P w K (.Tuple elts kt pt) (ab0 p o kvs) [e,it] e (fun i h=>(∃ old,jh h e it (i:Int) old)/\h.IsKeyIter it p i kvs.length ep) where
 mem:=by simp
 obj:=fun i h st b hb=>by
  obtain⟨⟨old,he⟩,⟨o1,e1,c1,d1⟩⟩:=st
  rcases List.mem_cons.mp hb with rfl|hb
  ·exact⟨_,he,fun v q=>nomatch q⟩
  ·rw [List.mem_singleton.mp hb];exact⟨o1,e1,fun v q=>by rw [d1] at q;cases q⟩
 keep:=fun i h h' st k=>let ⟨⟨old,he⟩,h1⟩:=st;⟨⟨old,k e (by simp) _ he⟩,h1.at fun o q=>k it (by simp) o q⟩
 item:=by
  intro X hP hw hK hc i pins s σ H E I hf st hg
  subst hP hw hK
  obtain⟨hH,hi⟩:=hg
  obtain⟨vs,rel,hd,hm⟩:=I.kdict hH he
  obtain⟨⟨k,v⟩,hx⟩:∃ q,kvs[i]? = some q:=⟨kvs[i],by simp [hi]⟩
  obtain⟨u,hu,_⟩:=Xt rel hx
  have hl:kvs.length=vs.length:=rel.length
  obtain⟨⟨old,en⟩,h1⟩:=st
  rw [hl] at h1
  refine La en ne (J:=fun x h=>(Av X.prog X.w).is k x=true/\h.IsKeyIter it p (i+1) vs.length ep) (fun A P E hQ=>Iq h1 hd hu fun key h' a b c=>hQ key h' ⟨a,b⟩ c) (fun x h1 h2 j k=>⟨j.1,j.2.at k⟩) fun key h' a1 ⟨hk,a2⟩ a3 hk'=>?_
  refine⟨_,rfl,g7 a1 fun h'' hz' hs'=>?_⟩
  have hT:=I.hok.fresh (ak s.heap.objs.size)
  have nT:∀ {b ob},s.heap.get? b=some ob->b≠s.heap.objs.size:=fun q=>aT (aN q)
  have up:∀ b ob,b∉[e,it]->s.heap.get? b=some ob->h''.get? b=some ob:=fun b ob hb q=>by
   have b1:b≠e:=by rintro rfl;exact hb (by simp)
   have b2:b≠it:=by rintro rfl;exact hb (by simp)
   exact hs'.extBut b ob b1 (hk' b ob b1 b2 q)
  have Tnew:h''.get? s.heap.objs.size=some { cls:=.type "tuple", data:=.seq #[.int i s.toks,key] }:=hs'.extBut _ _ (cA (nT en)) a3
  have I1:Inv X pins σ (upd H s.heap.objs.size (.tup [.int i,kV k])) { s with heap:=h'',toks:=s.toks+1 }:=
   I.turnedN (t':=s.toks+1) (ch:=[e,it]) (fun b hb=>hf b hb) up (ak _) ⟨by show 2<=sizeLine;decide,[.int i s.toks,key],.cons ⟨_,rfl⟩ (.cons (aj9 hk) .nil),⟨_,Tnew,rfl,_,rfl⟩⟩
  refine⟨.ref s.heap.objs.size,_,I1,rfl,⟨s.heap.objs.size,k,v,hT,rfl,hx,rfl⟩,⟨⟨_,hz'⟩,by rw [hl];exact a2.at fun o q=>hs'.extBut _ o (cA ne) q⟩,fun b hb=>?_⟩
  have q:=(hf b hb).1
  rw [Ak ?_]
  ·exact q
  ·rcases List.mem_cons.mp hb with rfl|hb
   ·exact nT en
   ·rw [List.mem_singleton.mp hb];obtain⟨_,q,_⟩:=h1;exact nT q
 done:=by
  intro X hP hw hK hc i pins s σ H E I hf st hg
  subst hP hw hK
  obtain⟨hH,hi⟩:=hg
  obtain⟨vs,rel,hd,hm⟩:=I.kdict hH he
  have hl:kvs.length=vs.length:=rel.length
  obtain⟨⟨old,en⟩,h1⟩:=st
  rw [hl] at h1
  refine Iy (I.ok.hd hc) en h1 hd (by simp;omega) fun h' hk=>⟨rfl,?_⟩
  refine I.turnedL (t':=s.toks) (ch:=[e,it]) (fun b hb=>hf b hb) fun b o hb q=>hk b o (by rintro rfl;exact hb (by simp)) q
 self:=fun A i s Q E st h=>let ⟨_,he⟩:=st.1;f8 he h
theorem ai0 {X:Cx} {elts:List Expr} {kt:Nat} {pt:Pos} {pins:List (Addr×Obj)} {σ:St} {H:Hp} {s:al} {R:It->Hp->Prop} {E:Value->al->Prop} {p:Addr} {o:Obj} {kvs:List (Key×V)} (I:Inv X pins σ H s) (h:H p=some (.frz o (.dK kvs)))
  (q:R (ab0 p o kvs) H):aV (model X.prog X.w) X.A (call (.type "enumerate") [.ref p]) (fun v s1=>aV (model X.prog X.w) X.A (lB v) (PIE X pins σ (.Tuple elts kt pt) R) E s1) E s:=by
 have he:∃ ep,Yk o ep:=by
  obtain⟨e1,z,y,vs,r,ob,es,ep,e,c,d,_⟩:=I.hok p _ h
  rw [e1] at e;cases e
  exact⟨ep,es,d⟩
 obtain⟨ep,he⟩:=he
 obtain⟨vs,rel,hd,hm⟩:=I.kdict h he
 refine Ui hm hd fun h' en hit hk=>f8 en ?_
 refine⟨_,_,_,_,H,rfl,I.kept (t':=s.toks) hk,Wx (Nat.succ_ne_self _) he,⟨⟨_,en⟩,by rw [rel.length];exact hit⟩,fun b hb=>?_,q⟩
 have hb:b=s.heap.objs.size+1\/b=s.heap.objs.size:=by simpa using hb
 have le:s.heap.objs.size<=b:=hb.elim (fun e=>e▸aU _ 1) fun e=>e▸ak _
 exact I.fpOk le (I.hok.fresh le)
end L2
namespace PySem
open PyProof.Rows
section
variable {κ:Type} [DecidableEq κ]
noncomputable def Ez (xs:List κ):List κ:=xs.foldl (fun σ k=>if σ.any (fun j=>decide (j=k)) then σ else σ++[k]) []
theorem Ny (xs:List κ) (k:κ):Ez (xs++[k])=if (Ez xs).any (fun j=>decide (j=k)) then Ez xs else Ez xs++[k]:=by
 unfold Ez
 rw [eC]
 rfl
theorem al2 (xs:List κ) (k j:κ):(Ez (xs++[k])).any (fun i=>decide (i=j))=((Ez xs).any (fun i=>decide (i=j))||decide (j=k)):=by
 rw [Ny]
 by_cases h:(Ez xs).any (fun i=>decide (i=k))=true
 ·rw [if_pos h]
  by_cases e:j=k
  ·subst e;rw [h];rfl
  ·simp [e]
 ·rw [if_neg h,List.any_append]
  congr 1
  simp [eq_comm]
theorem Sc (xs:List κ):(Ez xs).length<=xs.length:=by
 have:∀ (ys acc:List κ),(ys.foldl (fun σ k=>if σ.any (fun j=>decide (j=k)) then σ else σ++[k]) acc).length<=acc.length+ys.length:=by
  intro ys
  induction ys with
  | nil=>intro acc;exact ak _
  | cons y ys ih=>
   intro acc
   refine ax (ih _) ?_
   rw [aI]
   dsimp only
   split
   ·omega
   ·rw [aJ,dw];omega
 exact ax (this xs []) (by simp)
end
section
variable {prog:aW} {w:bE} {A:bj} {R:kP->al->Prop} {I:Addr} {fp wr:List Addr} {G:Array kc->Array kc->Prop} {P:Nat->Value->Prop} {St:Nat->al->Prop} {κ:Type} [DecidableEq κ] {knd:KeyKind prog w κ} {ks:List κ}
noncomputable abbrev Fk (knd:KeyKind prog w κ) (h:Heap) (S:Addr) (ks:List κ):Prop:=h.SetOf knd S (fun k=>(Ez ks).any (fun j=>decide (j=k))) (Ez ks).length
theorem Nj {h h':Heap} {S:Addr} (x:Fk knd h S ks) (k:∀ o,h.get? S=some o->h'.get? S=some o):Fk knd h' S ks:=
 let ⟨o,es,ep,t,ho,r⟩:=x;⟨o,es,ep,t,k o ho,r⟩
theorem Tm (W:WalksS prog w A.in1 I fp wr G ks.length P St) (S:Addr) (out:S∉fp) (hv:∀ i v,P i v -> ∃ k,ks[i]? = some k/\knd.is k v=true/\v.scannable=true) (few:ks.length+1<scanBound) (left:Nat) :
  ∀ (i:Nat) (s:al),i+left=ks.length->St i s->Fk knd s.heap S (ks.take i)->(∀ s',Moved (S::wr) G s s'->Fk knd s'.heap S ks->R (.ok (.ret .none)) s') ->
   fZ (model prog w) A (.builtin "set.update.loop" ⟨[.ref S,.ref I],[]⟩) R s:=by
 have outw:S∉wr:=fun z=>out (W.sub _ z)
 have into:∀ b∈wr,b∈S::wr:=fun b z=>.tail _ z
 induction left with
 | zero=>
  intro i s hi st fl hR
  have ei:i=ks.length:=hi
  subst ei
  rw [aL] at fl
  refine dH iC (c7 fj _ ▸ ?_)
  show aV _ A.in1 (gz (.ref I) >>= _) _ _ s
  exact ag (W.done s _ _ st fun s' mv=>ao (hR s' (mv.mono into) (Nj fl fun o e=>mv.heap S o outw e)))
 | succ left ih=>
  intro i s hi st fl hR
  have lt:i<ks.length:=by omega
  refine dH iC (c7 fj _ ▸ ?_)
  show aV _ A.in1 (gz (.ref I) >>= _) _ _ s
  refine ag (W.item i s _ _ lt st fun v s1 pv st1 mv=>?_)
  obtain⟨k,ek,ik,sk⟩:=hv i v pv
  have fl1:Fk knd s1.heap S (ks.take i):=Nj fl fun o e=>mv.heap S o outw e
  have tk:ks.take (i+1)=ks.take i++[k]:=by rw [List.take_succ,ek];rfl
  show aV _ A.in1 (lh [v] (setAdd S v) >>= _) _ _ s1
  refine ag (bO ?_)
  unfold setAdd
  refine bO (ag (knd.pyHash (k:=k) ik ?_))
  have room:(Ez (ks.take i)).length+1<scanBound:=by
   have:=Sc (ks.take i)
   rw [aF] at this
   omega
  refine wpAny_setAddHashed_of (knd:=knd) (s:={ s1 with toks:=s1.toks+1 }) ik sk fl1 room fun h' sb fl2=>?_
  have fl3:Fk knd h' S (ks.take (i+1)):=by
   have eS:(fun j=>(Ez (ks.take i)).any (fun m=>decide (m=j))||decide (j=k))=fun j=>(Ez (ks.take i++[k])).any (fun m=>decide (m=j)):=funext fun j=>(al2 (ks.take i) k j).symm
   have en:(if (Ez (ks.take i)).any (fun m=>decide (m=k))=true then (Ez (ks.take i)).length else (Ez (ks.take i)).length+1)=(Ez (ks.take i++[k])).length:=by
    rw [Ny];split <;> simp
   rw [tk]
   show h'.SetOf knd S _ _
   rw [<- eS,<- en]
   exact fl2
  refine ao ⟨fH fj _,ih (i+1) _ (by omega) (W.frame _ s1 _ _ st1 (d9 _) fun b hb o e=>?_) fl3 fun s2 mv2 fl4=>?_⟩
  ·exact (sb.2 b fun z=>out (z▸hb)).trans e
  ·exact hR s2 (Moved.trans W.gtrans ((mv.mono into).then_heap (d9 _) fun b o hb e=>(sb.2 b fun z=>hb (z▸az)).trans e) mv2) fl4
end
section
variable {prog:aW} {w:bE} {A:bj} {E:Value->al->Prop} {s:al} {κ:Type} [DecidableEq κ] {knd:KeyKind prog w κ} {ks:List κ}
noncomputable abbrev Dj (led:Bool):Obj:={ cls:=.type "set", dict:=none,data:=.set #[] 0 (.fresh 0 0 led) }
theorem Tn {l:Addr} {items:Array Value} {Q:Value->al->Prop} (hh:A.handled=none) (hl:s.heap.IsList l items) (hv:∀ (i:Nat) (v:Value),items[i]? = some v -> ∃ k,ks[i]? = some k/\knd.is k v=true/\v.scannable=true) (hs:items.size=ks.length) (few:ks.length+1<scanBound)
  (h:∀ (h':Heap) (tk:Nat),Fk knd h' s.heap.objs.size ks->(∀ b o,b<s.heap.objs.size->s.heap.get? b=some o->h'.get? b=some o)->Q (.ref s.heap.objs.size) { s with heap:=h',toks:=tk }) :
  aV (model prog w) A (call (.type "set") [.ref l]) Q E s:=by
 obtain⟨c,tl,hmro⟩:=F.called_set.mro
 have m1:=F.called_set.made
 have m2:=F.called_set.sub
 have m3:=F.called_set.notType
 have m4:=F.called_set.canCreate
 have m5:=F.typeCall_set_1 (.ref l)
 refine ix (codeAny_of_tree (show aV _ _ (callAny (.type "set") _) _ _ _ from ao ⟨Code.quiet_builtin _ (by decide +kernel),dH F.entry_type_call ?_⟩))
 rw [Around.under_plain (weight_type_call_type "set" [.ref l] []) rfl]
 repeat (any_goals (first|assumption|wp_step))
 refine gk (code_set_new_1 (.ref l) (E:=E) (Q₁:=fun obj s₁=>∃ led:Bool,obj=.ref s.heap.objs.size/\s₁={ s with heap:=s.heap.push (Dj led) }) fun led=>⟨led,rfl,rfl⟩) fun r s₁ hr=>?_
 cases r with
 | error e=>exact hr
 | ok fl=>
  cases fl with
  | ret obj=>
   obtain⟨led,rfl,rfl⟩:=hr
   have new:(s.heap.push (Dj led)).get? s.heap.objs.size=some (Dj led):=aK _ rfl
   have ty:kC { s with heap:=s.heap.push (Dj led) } (.ref s.heap.objs.size) "set" := ⟨_,new,rfl⟩
   have m6:=F.called_set.init.lookup
   have m7:=F.called_set.init.bind (.ref s.heap.objs.size)
   repeat (any_goals (first|assumption|wp_step))
   refine gk (gy (R:=wants (fun r s₂=>r=.none /\ ∃ h' tk,s₂={ s with heap:=h',toks:=tk }/\Fk knd h' s.heap.objs.size ks/\(∀ b o,b<s.heap.objs.size->s.heap.get? b=some o->h'.get? b=some o)) E) F.called_set.init.plain F.entry_set_init (check_set_init_1 ty ?_)) fun r2 s2 hr2=>?_
   ·obtain⟨⟨oc,odict,od,osl⟩,ol,hc,n,hd⟩:=hl
    simp only at hc hd
    subst hc;subst hd
    have lt:l<s.heap.objs.size:=aN ol
    have ol2:(s.heap.push (Dj led)).get? l=some { cls:=.type "list", dict:=odict,data:=.seq items n,slots:=osl }:=aj _ ol
    have m8:=F.sub_list_set
    have m9:=F.sub_list_frozenset
    have m10:(ff "list" == ff "dict")=false:=by decide
    have isl:(s.heap.push (Dj led)).IsList l items:=⟨_,ol2,rfl,n,rfl⟩
    have size:(s.heap.push (Dj led)).objs.size=s.heap.objs.size+1:=df ..
    unfold ay.«set.__init__» noKeywords Builtin.Frozenset.updateFrom
    generalize hPI:lB=PI
    wp_walk
    subst hPI
    refine iy isl (ag (wpAny_runValue ?_))
    have quiet:A.in1.in1.in1.handled=none:=by simp [hh]
    have ne1:l≠(s.heap.push (Dj led)).objs.size:=size▸aT (cM lt)
    have out:s.heap.objs.size∉[(s.heap.push (Dj led)).objs.size,l]:=by
     simp only [size,aX,eU,or_false,not_or]
     exact⟨aT (cZ _),d_ lt⟩
    have W:=(Walks.list (prog:=prog) (w:=w) quiet (s.heap.push (Dj led)).objs.size l ne1 items).toS
    rw [hs] at W
    refine Tm (ks:=ks) W s.heap.objs.size out hv few ks.length 0 _ (cB _) ⟨⟨_,aK _ rfl,rfl,rfl⟩,isl.push _⟩ ?_ fun s' mv fl=>?_
    ·exact (setObjOf_fresh (knd:=knd) led).setOf (aj _ new) (by unfold scanBound;omega)
    ·obtain⟨h',g',d',tk',os'⟩:=s'
     have e1:g'=s.gens:=mv.gens
     have e2:d'=s.drawn:=mv.drawn
     have e3:os'=s.os:=mv.os
     subst e1;subst e2;subst e3
     refine (show aV _ _ _ _ _ _ from ao (show aV _ _ (ret bz) _ _ _ from ao ⟨rfl,h',tk',rfl,fl,fun b o hb e=>?_⟩))
     refine mv.heap b o ?_ (aj _ (aj _ e))
     simp only [size,aX,eU,or_false,not_or]
     exact⟨aT hb,aT (cM hb)⟩
   ·cases r2 with
    | error e=>exact hr2
    | ok f2=>
     cases f2 with
     | ret r=>
      obtain⟨rfl,h',tk,rfl,fl,kept⟩:=hr2
      repeat (any_goals (first|assumption|wp_step))
      exact h _ _ fl kept
     | _=>exact hr2.elim
  | _=>exact hr.elim
end
end PySem
namespace L2
open PySem PySem.Spec PyProof.Rows
section
variable {X:Cx} {e:Expr} {de:DE} {p p2 pos pos2:Pos}
noncomputable def J6 (K:ae):V->Hp->VK->Prop:=fun x H Q=>match x with
 | .ref l=>∃ ys:List Str,SqL K H l (ys.map V.str)/\ys.length<30/\Q (.int (Ez ys).length) H
 | _=>False
theorem Yd:∀ {ys:List Str} {us:List Value} {i:Nat} {v:Value},Vals (ys.map V.str) us->us[i]? = some v -> ∃ k t,ys[i]? = some k/\v=.str k t
 | [],_,i,v,r,e=>by rw [gc] at r;cases r;simp at e
 | y::ys,_,i,v,r,e=>by
  rw [aQ] at r
  cases r with
  | cons r1 r2=>
   obtain⟨t,rfl⟩:=r1
   cases i with
   | zero=>simp only [c9,il] at e;exact⟨y,t,rfl,e.symm⟩
   | succ i=>simp only [bZ] at e ⊢;exact Yd r2 e
theorem ay4 {pins:List (Addr×Obj)} {σ:St} {H:Hp} {s:al} {x:V} {u:Value} {Q:VK} (hc:X.calm=true) (I:Inv X pins σ H s) (rx:RelV x u) (h:J6 X.K x H Q) :
  aV (model X.prog X.w) X.A (call (.type "set") [u]) (fun v s1=>aV (model X.prog X.w) X.A (call (.builtin "len") [v]) (EP X pins σ Q) X.xe s1) X.xe s:=by
 cases x with
 | ref l=>
  cases rx
  obtain⟨ys,hq,few,q⟩:=h
  obtain⟨its,rv,pl,hz⟩:=I.list hq
  have hl:its.length=ys.length:=by rw [<- rv.length,ac]
  refine bI (ak _) (Tn (knd:=PySem.strKind X.prog X.w) (ks:=ys) (I.ok.hd hc) pl.isList (fun i v e=>?_) (by simpa using hl) (by unfold scanBound;omega) fun h' tk fl kept htk=>?_)
  ·obtain⟨k,t,ek,rfl⟩:=Yd rv (by simpa using e)
   exact⟨k,ek,by show gH k (.str k t)=true;simp [gH],rfl⟩
  ·have I1:Inv X pins σ H { s with heap:=h',toks:=tk }:=I.kept (t':=tk) fun b o e=>kept b o (aN e) e
   obtain⟨o,es,ep,t,ho,hex,hd,hel,hmem,hb,hf,hn⟩:=fl
   refine call_len_set ho hex hd hf ?_ ?_
   ·have:=Sc ys
    rw [hn];omega
   ·rw [hn]
    exact⟨.int _,H,I1.tok _,⟨_,rfl⟩,q⟩
 | _=>exact (show False from h).elim
end
end L2
namespace PySem
open PyProof.Rows
section
variable {prog:aW} {w:bE} {A:bj} {E:Value->al->Prop} {s:al} {κ:Type} [DecidableEq κ] {knd:KeyKind prog w κ} {d it:Addr} {ep i:Nat} {kvs:List (κ×Value)}
noncomputable def ItemsAt (h:Heap) (it d:Addr) (i n ep:Nat):Prop:=
 ∃ f0 f1 k v,h.get? it=some { cls:=.type "dict_itemiterator", dict:=none,data:=.fields #[f0,f1,.ref d,.int i 0,.int n 0,.int ep 0,k,v],slots:=#[] }/\(f0=.none \/ ∃ a:Nat,f0=fQ a/\a≠it /\ ∃ o,h.get? a=some o)
theorem ItemsAt.on {h h':Heap} {n:Nat} (x:ItemsAt h it d i n ep) (k:∀ o,h.get? it=some o->h'.get? it=some o) (t:∀ b o,h.get? b=some o -> ∃ o',h'.get? b=some o'):ItemsAt h' it d i n ep:=
 let ⟨f0,f1,a,b,e,r⟩:=x;⟨f0,f1,a,b,k _ e,r.imp id fun⟨c,e,n,o,q⟩=>⟨c,e,n,t c o q⟩⟩
theorem U4 {k:κ} {v:Value} {Q:Option Value->al->Prop} (hit:ItemsAt s.heap it d i kvs.length ep) (hm:s.heap.DictAt knd d kvs ep) (hx:kvs[i]? = some (k,v))
  (hQ:∀ key h',knd.is k key=true->ItemsAt h' it d (i+1) kvs.length ep->h'.get? s.heap.objs.size=some { cls:=.type "tuple", data:=.seq #[key,v] } ->
   (∀ b o,b≠it->s.heap.get? b=some o->h'.get? b=some o)->Q (some (.ref s.heap.objs.size)) { s with heap:=h' }):aV (model prog w) A (gz (.ref it)) Q E s:=by
 obtain⟨f0,f1,ok,ov,ei,hf0⟩:=hit
 obtain⟨h0,gs,dr,tk,ops⟩:=s
 obtain⟨od,es,ed,_,dd,_,pr,_⟩:=id hm
 have lt:i<kvs.length:=by
  rcases dy i kvs.length with h|h
  ·exact h
  ·simp [dv h] at hx
 have size:es.size=kvs.length:=pr.length▸(by simp)
 have lt2:i<es.size:=size▸lt
 obtain⟨isk,isv⟩:=pr.get? (e:=es[i]) (by simp [lt2]) hx
 have ty:kC ⟨h0,gs,dr,tk,ops⟩ (.ref it) "dict_itemiterator" := ⟨_,ei,rfl⟩
 have own:dQ "dict_itemiterator" = true:=by decide
 have noNone:¬ ((bp d==bz)=true):=am
 have nx:¬ ((i:Int)<0):=by omega
 unfold gz
 refine ag (fJ (cq (name:=cS "__next__") ty cY (c6 cY ty f_ ?_ (fS _))))
 refine ag (ao (ag (ag ?_)))
 first|refine ag (cT ty (ao (ag (eQ ei rfl ?_))))|refine ag (dD ty (ao (ag (eQ ei rfl ?_))))
 simp only [own,if_true]
 show aV _ _ (if (bp d==bz)=true then _ else _) _ _ _
 rw [if_neg noNone]
 refine ag (ao (ag (f7 ed dd ?_)))
 rw [if_neg (show ¬ _ by rw [size];simp)]
 refine ag (ao (ag (jD ed dd ?_)))
 rw [if_neg (show ¬ _ by simp)]
 refine ao ?_
 simp only [nx,if_false,aG,hU lt2]
 refine ag ?_
 first|refine ag (cT ty (ao (ag (dP ty ?_))))|refine ag (dD ty (ao (ag (dP ty ?_))))
 show aV _ _ (jH (.ref it) 3 (fQ ((i:Int)+1)) >>= _) _ _ ⟨h0,gs,dr,tk,ops⟩
 refine ag (bX ei (by simp) fun h1 e1 s1=>?_)
 have k1:bq it h0 h1:=s1
 have e1:h1.get? it=some { cls:=.type "dict_itemiterator", dict:=none,data:=.fields #[f0,f1,.ref d,.int (i+1:Nat) 0,.int kvs.length 0,.int ep 0,ok,ov],slots:=#[] }:=by
  have e:((i+1:Nat):Int)=(i:Int)+1:=by omega
  rw [e];simpa [fQ] using e1
 have ty1:kC ⟨h1,gs,dr,tk,ops⟩ (.ref it) "dict_itemiterator" := ⟨_,e1,rfl⟩
 refine ag (bO (ag (dP (s:=⟨h1,gs,dr,tk,ops⟩) ty1 (ag (dP (s:=⟨h1,gs,dr,tk,ops⟩) ty1 ?_)))))
 show aV _ _ (fM (.ref it) 6 es[i].key es[i].val) _ _ ⟨h1,gs,dr,tk,ops⟩
 unfold fM
 refine ag (jR ?_)
 have up:∃ h2:Heap,h2=h1.push { cls:=.type "tuple", data:=.seq #[es[i].key,es[i].val] }:=⟨_,rfl⟩
 obtain⟨h2,eh2⟩:=up
 rw [<- eh2,show h1.objs.size=h0.objs.size from k1.1]
 have e2:=aj { cls:=.type "tuple", data:=.seq #[es[i].key,es[i].val] } e1
 have t2:h2.get? h0.objs.size=some { cls:=.type "tuple", data:=.seq #[es[i].key,v] }:=by rw [eh2,<- isv,<- show h1.objs.size=h0.objs.size from k1.1];exact aK _ rfl
 have all2:∀ b o,b≠it->h0.get? b=some o->h2.get? b=some o:=fun b o hb e=>by rw [eh2];exact aj _ (k1.extBut b o hb e)
 rw [<- eh2] at e2
 have lti:it<h0.objs.size:=aN ei
 have ne:h0.objs.size≠it:=d_ lti
 refine ag ?_
 unfold Builtin.Dict_items.ownedTupleIsFree
 refine ag (ce (s:=⟨h2,gs,dr,tk,ops⟩) e2 rfl (x:=f0) rfl ?_)
 rcases hf0 with rfl|⟨a,rfl,na,oa,ea⟩
 ·refine ao ?_
  simp only [if_true]
  refine ag (ce (s:=⟨h2,gs,dr,tk,ops⟩) e2 rfl (x:=ok) rfl (ag (ce (s:=⟨h2,gs,dr,tk,ops⟩) e2 rfl (x:=ov) rfl ?_)))
  refine ag (bX (s:=⟨h2,gs,dr,tk,ops⟩) e2 (by simp) fun h3 e3 s3=>ag (bX (s:=⟨h3,gs,dr,tk,ops⟩) e3 (by simp) fun h4 e4 s4=>?_))
  refine ag (bX (s:=⟨h4,gs,dr,tk,ops⟩) e4 (by simp) fun h5 e5 s5=>ag (bX (s:=⟨h5,gs,dr,tk,ops⟩) e5 (by simp) fun h6 e6 s6=>?_))
  have on:∀ b o,b≠it->h2.get? b=some o->h6.get? b=some o:=fun b o n q=>s6.extBut b o n (s5.extBut b o n (s4.extBut b o n (s3.extBut b o n q)))
  refine ag (lz (ao (ao ⟨_,rfl,ao (hQ es[i].key h6 isk ?_ (on _ _ ne t2) fun b o n q=>on b o n (all2 b o n q))⟩)))
  exact⟨fQ h0.objs.size,_,_,_,e6,.inr ⟨_,rfl,ne,_,on _ _ ne t2⟩⟩
 ·show aV _ _ (loadIfAlive (a:Int).toNat >>= _) _ _ ⟨h2,gs,dr,tk,ops⟩
  have a2:h2.get? a=some oa:=all2 a oa na ea
  have la:∀ {α:Type} {k:Option Obj->Sem α} {Q':α->al->Prop} {E':Value->al->Prop},aV (model prog w) A.in1 (k (some oa)) Q' E' ⟨h2,gs,dr,tk,ops⟩->aV (model prog w) A.in1 (loadIfAlive (a:Int).toNat >>= k) Q' E' ⟨h2,gs,dr,tk,ops⟩:=fun {α k Q' E'} h Γ p hΓ=>by
   have z:=h Γ p hΓ
   show Sem.wp _ _ (Sem.loadIfAlive (a:Int).toNat fun x=>k x) _ _ _ _
   rw [Sem.wp_loadIfAlive]
   rw [aG]
   rw [show (Shared.heap ⟨h2,gs,dr,tk,ops⟩).get? a=some oa from a2]
   exact z
  refine la ?_
  simp only [Option.isNone_some,cU,if_false]
  refine ag (ce (s:=⟨h2,gs,dr,tk,ops⟩) e2 rfl (x:=f1) rfl ?_)
  have fin:∀ h3:Heap,(∀ b o,b≠it->h2.get? b=some o->h3.get? b=some o)->ItemsAt h3 it d (i+1) kvs.length ep->Q (some (.ref h0.objs.size)) ⟨h3,gs,dr,tk,ops⟩:=fun h3 on at3=>hQ es[i].key h3 isk at3 (on _ _ ne t2) fun b o n q=>on b o n (all2 b o n q)
  by_cases c:(f1 != jG true)=true
  ·rw [if_pos c]
   refine ag (bX (s:=⟨h2,gs,dr,tk,ops⟩) e2 (by simp) fun h3 e3 s3=>ao ?_)
   simp only [cU,if_false]
   exact ao (ao ⟨_,rfl,ao (fin h3 (fun b o n q=>s3.extBut b o n q) ⟨_,_,_,_,e3,.inr ⟨a,rfl,na,oa,s3.extBut _ _ na a2⟩⟩)⟩)
  ·rw [if_neg c]
   refine ao ?_
   simp only [cU,if_false]
   exact ao (ao ⟨_,rfl,ao (fin h2 (fun b o n q=>q) ⟨_,_,_,_,e2,.inr ⟨a,rfl,na,oa,a2⟩⟩)⟩)
theorem Ze {Q:Option Value->al->Prop} (hh:A.handled=none) (hit:ItemsAt s.heap it d i kvs.length ep) (hm:s.heap.DictAt knd d kvs ep) (hx:kvs[i]? = none)
  (hQ:∀ h',kZ it s.heap h'->Q none { s with heap:=h' }):aV (model prog w) A (gz (.ref it)) Q E s:=by
 obtain⟨f0,f1,ok,ov,ei,_⟩:=hit
 obtain⟨od,es,ed,_,dd,_,pr,_⟩:=id hm
 have size:es.size=kvs.length:=pr.length▸(by simp)
 have past:es.size<=i:=by rw [size];simpa using hx
 have ty:s.TypeIs (.ref it) "dict_itemiterator" := ⟨_,ei,rfl⟩
 have own:dQ "dict_itemiterator" = true:=by decide
 have noNone:¬ ((bp d==bz)=true):=am
 have nx:¬ ((i:Int)<0):=by omega
 unfold gz
 refine ag (fJ (cq (name:=cS "__next__") ty cY (c6 cY ty f_ ?_ (fS _))))
 refine ag (ao (ag (ag ?_)))
 first|refine ag (cT ty (ao (ag (eQ ei rfl ?_))))|refine ag (dD ty (ao (ag (eQ ei rfl ?_))))
 simp only [own,if_true]
 show aV _ _ (if (bp d==bz)=true then _ else _) _ _ s
 rw [if_neg noNone]
 refine ag (ao (ag (f7 ed dd ?_)))
 rw [if_neg (show ¬ _ by rw [size];simp)]
 refine ag (ao (ag (jD ed dd ?_)))
 rw [if_neg (show ¬ _ by simp)]
 refine ao ?_
 simp only [nx,if_false,aG,iW past]
 refine ag ?_
 first|refine ag (cT ty (ao ?_))|refine ag (dD ty (ao ?_))
 show aV _ _ (jH (.ref it) 2 .none >>= fun _=>newExc (.type "StopIteration") [] >>= _) _ _ s
 refine ag (f9 ei rfl (by simp) (ag ?_))
 simp only [newExc,newTuple]
 refine ag (cr (ag (m:=h_ _ _) (wpAny_of_eq (a:=bz) (by first|rfl|(simp only [h_];rfl)) (cr ?_ (by size_fits)))) (by size_fits))
 simp only [raiseNew]
 refine ag (wpAny_handled ?_)
 rw [show A.in1.handled=none from hh]
 refine ag (ao (lA ?_))
 exact ag (iV (T := "StopIteration") (b:=true) ⟨_,aK _ rfl,rfl⟩ isSubtype_stop (ao (hQ _ (((cz ..).extBut.push _).push _))))
end
end PySem
namespace L2
open PySem PySem.Spec PyProof.Rows
noncomputable abbrev ad5 (H H':Hp):Prop:=∀ b o,H b=some o->H' b=some o
section
variable {X:Cx} {pins:List (Addr×Obj)} {σ:St} {A:bj} {E:Value->al->Prop} {R:kP->al->Prop} {p it S:Addr} {ep:Nat} {kvs:List (Key×V)} {vs:List (Key×Value)} {res:Value}
noncomputable def au1 (H0 H:Hp) (kvs:List (Key×V)) (Ts:List Addr):Prop:=∀ (j:Nat) k v T,kvs[j]? = some (k,v)->Ts[j]? = some T->H0 T=none/\H T=some (.tup [kV k,v])
theorem U3 (H0:Hp) (rel:KV kvs vs) (hh:A.handled=none) (small:vs.length<sizeLine) (n1:it≠S) (n2:p≠it) (n3:p≠S) (left:Nat) :
  ∀ (i:Nat) (s:al) (H:Hp) (Ts:List Addr),i+left=vs.length->Inv X pins σ H s->Ek X pins H it->(∀ b o,b≠S->H0 b=some o->H b=some o)->H S=some (.lst (Ts.map V.ref))->H0 S=none->ItemsAt s.heap it p i vs.length ep->s.heap.DictAt (Av X.prog X.w) p vs ep->Ts.length=i ->
   au1 H0 H kvs Ts->(∀ s' H' Ts',Inv X pins σ H' s'->ad5 H0 H'->H' S=some (.lst (Ts'.map V.ref))->Ts'.length=vs.length->au1 H0 H' kvs Ts'->R (.ok (.ret res)) s') ->
   fZ (model X.prog X.w) A (.builtin "list.extend.loop" ⟨[.ref S,.ref it,res],[]⟩) R s:=by
 induction left with
 | zero=>
  intro i s H Ts hi I fp top hS h0 at1 hd hl laid hR
  refine dH jT (c7 gK _ ▸ ?_)
  show aV _ A.in1 (gz (.ref it) >>= _) _ _ s
  obtain⟨f0,f1,f2,f3,f4,f5⟩:=fp
  refine ag (Ze hh at1 hd (by simp;omega) fun h' ext=>ao (hR _ H Ts (I.turned (t':=s.toks) (fun b o hb e=>ext b o hb e) f0 f1 f3 f4 f5) (fun b o e=>top b o (fun z=>by rw [z,h0] at e;cases e) e) hS (by omega) laid))
 | succ left ih=>
  intro i s H Ts hi I fp top hS h0 at1 hd hl laid hR
  have lt:i<kvs.length:=by rw [rel.length];omega
  obtain⟨⟨k,v⟩,hx⟩:∃ q,kvs[i]? = some q:=⟨kvs[i],by simp [lt]⟩
  obtain⟨u,hu,ru⟩:=Xt rel hx
  refine dH jT (c7 gK _ ▸ ?_)
  show aV _ A.in1 (gz (.ref it) >>= _) _ _ s
  refine ag (U4 at1 hd hu fun key h' isk at2 t2 all2=>?_)
  have fresh:H s.heap.objs.size=none:=I.hok.fresh (ak _)
  have ltS:S<s.heap.objs.size:=(I.hok S _ hS).lt
  have lti:it<s.heap.objs.size:=by obtain⟨_,_,_,_,e,_⟩:=at1;exact aN e
  have I1:Inv X pins σ (upd H s.heap.objs.size (.tup [kV k,v])) { s with heap:=h' }:=
   I.turnedN (t':=s.toks) (ch:=[it]) (fun b hb=>by rw [List.mem_singleton.mp hb];exact fp) (fun b o hb e=>all2 b o (fun z=>hb (by simp [z])) e) (ak _) ⟨by show 2<=sizeLine;decide,[key,u],.cons (aj9 isk) (.cons ru .nil),⟨_,t2,rfl,_,rfl⟩⟩
  have S1:upd H s.heap.objs.size (.tup [kV k,v]) S=some (.lst (Ts.map V.ref)):=by rw [Ak (aT ltS)];exact hS
  obtain⟨its,n,r,ho,hz⟩:=I1.lst S1
  have li:its.length=i:=by rw [<- r.length,ac];exact hl
  show aV _ A.in1 (lv S (·.push (.ref s.heap.objs.size)) >>= _) _ _ { s with heap:=h' }
  refine ag ?_
  refine gU ho rfl (ao ⟨fH gK _,?_⟩) (by rw [av,li];omega) (by show (its.toArray.push _).size<=sizeLine+1;rw [Array.size_push,av,li];omega)
  have I2:=I1.lset (t':=s.toks) (f:=fun z=>z.push (.ref s.heap.objs.size)) (its':=its++[.ref s.heap.objs.size]) (ys:=(Ts++[s.heap.objs.size]).map V.ref) S1 ho (by simp) (by rw [aq];exact r.append (.cons rfl .nil)) (by rw [ac,aJ,dw,hl];omega)
  have nS:∀ b,b≠S->(h'.update S (bY fun z=>z.push (.ref s.heap.objs.size))).get? b=h'.get? b:=fun b n=>bJ _ _ (cA n)
  refine ih (i+1) _ _ (Ts++[s.heap.objs.size]) (by omega) I2 ?_ (fun b o n e=>?_) Ad h0 (at2.on (fun o e=>(nS it n1).trans e) fun b o e=>?_) ?_ (by rw [aJ,dw,hl]) (fun j k' v' T e1 e2=>?_) hR
  ·obtain⟨f0,f1,f2,f3,f4,f5⟩:=fp
   exact⟨by rw [Ak n1,Ak (aT lti)];exact f0,f1,f2,f3,f4,f5⟩
  ·rw [Ak n,Ak (Aj (top b o n e) fresh)];exact top b o n e
  ·by_cases z:b=S
   ·subst z;exact⟨_,b9 _ e (by rw [ho] at e;cases e;rfl)⟩
   ·exact⟨o,(nS b z).trans e⟩
  ·obtain⟨od,es,ed,q⟩:=hd
   exact⟨od,es,(nS p n3).trans (all2 p od n2 ed),q⟩
  ·by_cases hj:j<Ts.length
   ·rw [cO hj] at e2
    obtain⟨q1,q2⟩:=laid j k' v' T e1 e2
    refine⟨q1,?_⟩
    have nT:T≠S:=fun z=>by rw [z,hS] at q2;cases q2
    rw [Ak nT,Ak (Aj q2 fresh)];exact q2
   ·have hj2:j=i:=by
     have:j<(Ts++[s.heap.objs.size]).length:=by
      rcases dy j (Ts++[s.heap.objs.size]).length with h|h
      ·exact h
      ·rw [dv h] at e2;cases e2
     rw [aJ,dw] at this
     omega
    subst hj2
    rw [bB (by omega),hl,eo] at e2
    cases e2
    rw [hx] at e1
    cases e1
    refine⟨?_,by rw [Ak (d_ ltS)];exact Ad⟩
    cases q:H0 s.heap.objs.size with
    | none=>rfl
    | some o=>exact absurd (top _ o (d_ ltS) q) (by rw [fresh];intro z;cases z)
end
section
variable {X:Cx} {pins:List (Addr×Obj)} {σ:St} {A:bj} {E:Value->al->Prop}
theorem U1 {s:al} {r:Addr} {Q:Bool->al->Prop} {prog:aW} {w:bE} (ty:s.TypeIs (.ref r) "dict_items") (h:Q false s):aV (model prog w) A (dY (.ref r)) Q E s:=by
 unfold dY
 refine ag (wpAny_specialOf ty PySem.F.slot_dict_items_len.lookup ?_)
 generalize eid:("dict_items.__len__" : String)=name
 wp_delta
 rw [show splitId name=some ("dict_items", "__len__") from eid▸by decide +kernel]
 subst eid
 refine ag (iV (T := "dict_items") (b:=true) ty (by rw [isSubtype_type];kernel_rfl) (jF (fun z=>absurd z (by decide)) fun _=>jF (fun _=>ag (g_ ty (ao h))) fun z=>absurd (by decide +kernel) z))
theorem U8 {H:Hp} {s:al} {p:Addr} {kvs:List (Key×V)} {Q:Value->al->Prop} (hc:X.calm=true) (I:Inv X pins σ H s) (e:Rd H p (.dK kvs)) (few:kvs.length<1000)
  (h:∀ l Ts H' s',Inv X pins σ H' s'->ad5 H H'->H l=none->H' l=some (.lst (Ts.map V.ref))->Ts.length=kvs.length->au1 H H' kvs Ts->Q (.ref l) s') :
  aV (model X.prog X.w) X.A (call (.builtin "dict.items") [.ref p]) (fun v s1=>aV (model X.prog X.w) X.A (call (.type "list") [v]) Q X.xe s1) X.xe s:=by
 obtain⟨z,lo,vs,rel,dof⟩:=Fr I.hok e
 obtain⟨ep,dat⟩:=dof.dictAt
 have lp:p<s.heap.objs.size:=dat.lt_size
 refine jA iG dof.typeIs PySem.F.entry_dict_items (PySem.F.args_dict_items_1 _) (meets_dict_items _ p lo) ⟨⟨vs,dof⟩,?_⟩
 have zv:(s.heap.push { cls:=.type "dict_items", data:=.fields #[.ref p] }).objs.size=s.heap.objs.size+1:=df ..
 have view:(s.heap.push { cls:=.type "dict_items", data:=.fields #[.ref p] }).get? s.heap.objs.size=some { cls:=.type "dict_items", data:=.fields #[.ref p] }:=aK _ rfl
 have on1:∀ b o,s.heap.get? b=some o->(s.heap.push { cls:=.type "dict_items", data:=.fields #[.ref p] }).get? b=some o:=fun b o q=>aj _ q
 generalize s.heap.push { cls:=.type "dict_items", data:=.fields #[.ref p] }=h1 at zv view on1 ⊢
 refine callType_codes (s:={ s with heap:=h1 }) (Q₁:=fun obj s2=>obj=.ref (s.heap.objs.size+1)/\s2={ s with heap:=h1.push { cls:=.type "list", data:=.seq #[] } }) PySem.F.called_list (PySem.F.typeCall_list_1 _) PySem.F.entry_list_init
  (code_list_new _ ⟨by show bp h1.objs.size=_;rw [zv],rfl⟩) fun obj s2 hs=>?_
 obtain⟨rfl,rfl⟩:=hs
 have S2:(h1.push { cls:=.type "list", data:=.seq #[] }).get? (s.heap.objs.size+1)=some { cls:=.type "list", data:=.seq #[] }:=zv▸aK _ rfl
 have z2:(h1.push { cls:=.type "list", data:=.seq #[] }).objs.size=s.heap.objs.size+2:=by rw [df,zv]
 have view2:=aj { cls:=.type "list", data:=.seq #[] } view
 have on2:∀ b o,s.heap.get? b=some o->(h1.push { cls:=.type "list", data:=.seq #[] }).get? b=some o:=fun b o q=>aj _ (on1 b o q)
 generalize h1.push { cls:=.type "list", data:=.seq #[] }=h2 at S2 z2 view2 on2 ⊢
 refine⟨⟨_,S2,rfl⟩,PySem.F.args_list_init_2 _ _,?_⟩
 show aV _ _ (do let old <- iX (.ref (s.heap.objs.size+1));Builtin.List.listUpdate (.ref (s.heap.objs.size+1)) (fun _=>#[]);letGo old.toList.reverse;dX (.ref (s.heap.objs.size+1)) (.ref s.heap.objs.size) .none) _ _ { s with heap:=h2 }
 refine ag ?_
 unfold iX
 refine ag (wpAny_seqItems (s:={ s with heap:=h2 }) S2 rfl (ao ?_))
 show aV _ _ (lv (s.heap.objs.size+1) (fun _=>#[]) >>= fun _=>letGo (#[]:Array Value).toList.reverse >>= fun _=>dX (.ref (s.heap.objs.size+1)) (.ref s.heap.objs.size) .none) _ _ { s with heap:=h2 }
 refine ag (gU (s:={ s with heap:=h2 }) S2 rfl (ag (lz ?_)))
 have S3:∃ c,(h2.update (s.heap.objs.size+1) (bY (fun _=>(#[]:Array Value)))).get? (s.heap.objs.size+1)=some { cls:=.type "list", data:=.seq #[] c }:=⟨_,b9 _ S2 rfl⟩
 have o3:∀ b o,b≠s.heap.objs.size+1->h2.get? b=some o->(h2.update (s.heap.objs.size+1) (bY (fun _=>(#[]:Array Value)))).get? b=some o:=fun b o n q=>(bJ _ _ (cA n)).trans q
 have z3:(h2.update (s.heap.objs.size+1) (bY (fun _=>(#[]:Array Value)))).objs.size=s.heap.objs.size+2:=by rw [(cz ..).1,z2]
 generalize h2.update (s.heap.objs.size+1) (bY (fun _=>(#[]:Array Value)))=h3 at S3 o3 z3 ⊢
 obtain⟨c3,S3⟩:=S3
 have view3:h3.get? s.heap.objs.size=some { cls:=.type "dict_items", data:=.fields #[.ref p] }:=o3 _ _ (aT (cZ _)) view2
 have on3:∀ b o,s.heap.get? b=some o->h3.get? b=some o:=fun b o q=>o3 b o (aT (cM (aN q))) (on2 b o q)
 have isv:Heap.IsItemsView h3 s.heap.objs.size p:=⟨_,view3,rfl,rfl⟩
 have dat3:h3.DictAt (Av X.prog X.w) p vs ep:=dat.keep on3
 unfold dX
 refine ag (g_ (s:={ s with heap:=h3 }) (T := "dict_items") isv.typeIs ?_)
 have t1:ic (.ref (s.heap.objs.size+1)) (.ref s.heap.objs.size)=false:=by simp [ic]
 have t2:(ff "dict_items" == ff "list")=false:=by decide
 have t3:(ff "dict_items" == ff "tuple")=false:=by decide
 simp only [t1,t2,t3,iA,cU,if_false]
 refine ag (wpAny_pyIter_items (s:={ s with heap:=h3 }) isv dat3 ?_)
 have it4:(h3.push { cls:=.type "dict_itemiterator", data:=.fields #[.none,.bool false,.ref p,.int 0 0,.int vs.length 0,.int ep 0,.none,.none] }).get? (s.heap.objs.size+2)=some { cls:=.type "dict_itemiterator", data:=.fields #[.none,.bool false,.ref p,.int 0 0,.int vs.length 0,.int ep 0,.none,.none] }:=z3▸aK _ rfl
 have o4:∀ b o,h3.get? b=some o->(h3.push { cls:=.type "dict_itemiterator", data:=.fields #[.none,.bool false,.ref p,.int 0 0,.int vs.length 0,.int ep 0,.none,.none] }).get? b=some o:=fun b o q=>aj _ q
 show aV _ _ (lh [.ref h3.objs.size] (dY (.ref s.heap.objs.size)) >>= _) _ _ { s with heap:=h3.push _ }
 rw [z3]
 generalize h3.push { cls:=.type "dict_itemiterator", data:=.fields #[.none,.bool false,.ref p,.int 0 0,.int vs.length 0,.int ep 0,.none,.none] }=h4 at it4 o4 ⊢
 refine ag (bO (U1 (s:={ s with heap:=h4 }) ⟨_,o4 _ _ view3,rfl⟩ ?_))
 have S4:=o4 _ _ S3
 have loop:∀ (h:Heap) (c tk:Nat),s.toks<=tk->(∀ b o,b≠s.heap.objs.size+1->h4.get? b=some o->h.get? b=some o)->h.get? (s.heap.objs.size+1)=some { cls:=.type "list", data:=.seq #[] c } ->
   fZ (model X.prog X.w) X.A.in1 (.builtin "list.extend.loop" ⟨[.ref (s.heap.objs.size+1),.ref (s.heap.objs.size+2),.none],[]⟩) (wants (fun r s₂=>r=.none/\Q (.ref (s.heap.objs.size+1)) s₂) X.xe) { s with heap:=h,toks:=tk }:=by
  intro hh c tk htk k5 S5
  have on5:∀ b o,s.heap.get? b=some o->hh.get? b=some o:=fun b o q=>k5 b o (aT (cM (aN q))) (o4 b o (on3 b o q))
  have fr:H (s.heap.objs.size+1)=none:=I.hok.fresh (aU _ 1)
  have I5:Inv X pins σ (upd H (s.heap.objs.size+1) (.lst [])) { s with heap:=hh,toks:=tk }:=I.laid (t':=tk) on5 (aU _ 1) ⟨bR _,[],c,.nil,S5⟩
  have ni:s.heap.objs.size+2≠s.heap.objs.size+1:=by omega
  refine U3 (X:=X) (pins:=pins) (σ:=σ) (A:=X.A.in1) (kvs:=kvs) (ep:=ep) H rel (by simp [I.ok.hd hc]) (by rw [<- rel.length,c5];omega) ni (aT (aM lp (aU _ 2))) (aT (cM lp)) vs.length 0 _ _ [] (cB _) I5
   (I.fpOk (aU _ 2) (by rw [Ak ni];exact I.hok.fresh (aU _ 2))) (fun b o n q=>by rw [Ak n];exact q) Ad fr ⟨_,_,_,_,k5 _ _ ni it4,.inl rfl⟩ (dat.keep on5) rfl (fun j k v T _ e2=>by simp at e2) fun s' H' Ts' I' top hS hl laid=>?_
  exact⟨rfl,h _ Ts' H' s' I' top fr hS (by rw [hl,rel.length]) laid⟩
 refine jF (fun _=>?_) (fun _=>ao ⟨fH gK _,loop h4 c3 s.toks (ak _) (fun b o _ q=>q) S4⟩)
 refine ag (jI (ag ?_))
 show aV _ _ (lv (s.heap.objs.size+1) (·.push .none) >>= fun _=>lv (s.heap.objs.size+1) (·.pop)) _ _ _
 have S5:=b9 (bY (·.push bz)) S4 rfl
 refine ag (gU (s:={ s with heap:=h4 }) S4 rfl (gU (hz:=by seq_fits) S5 rfl (ao ⟨fH gK _,loop _ _ s.toks (ak _) (fun b o n q=>?_) (b9 (bY (·.pop)) S5 rfl)⟩)))
 exact (bJ _ _ (cA n)).trans ((bJ _ _ (cA n)).trans q)
end
section
variable {X:Cx}
noncomputable def a88 (K:ae):R2:=fun x y H Q=>∃ a b ys,x=.ref a/\y=.ref b/\SqT K H a []/\SqT K H b ys/\Q (.ref b) H
theorem az4:OpR X (dA .Add) (a88 X.K):=by
 intro pins s σ H x y v u Q I rx ry h
 obtain⟨a,b,ys,rfl,rfl,ha,hb,q⟩:=h
 cases rx
 cases ry
 obtain⟨its,r1,p1,_⟩:=I.tuple ha
 obtain⟨its2,r2,p2,_⟩:=I.tuple hb
 cases r1
 obtain⟨⟨c1,d1,da1,s1⟩,ho,hc,n,hd⟩:=id p1
 obtain⟨⟨c2,d2,da2,s2⟩,ho2,hc2,n2,hd2⟩:=id p2
 simp only at hc hd hc2 hd2
 subst hc hd hc2 hd2
 exact kT ⟨_,ho,rfl⟩ ⟨_,ho2,rfl⟩ iU kF fP fE (e_ _ _)
   (tuple_addW0 a b _ _ n n2 d1 d2 s1 s2 rfl) ⟨ho,ho2,⟨.ref b,H,I,rfl,q⟩⟩
theorem Xq (hu:X.A.units+64<cLine):IxR X (fun x y H Q=>∃ a v,x=.ref a/\DGet H a y (some v)/\Q v H):=by
 intro value slice pins s σ H x y v u Q I rx ry h hs
 obtain⟨a,w',rfl,g,q⟩:=h
 cases rx
 exact tail_any (Rw I g) PySem.F.slot_dict_getitem.lookup (Yw (by omega) I g ry fun w1 s' I' r'=>⟨w',H,I',r',q⟩) hs
theorem au5 {y:V} {v:Value} (r:RelV y v) (f:Bs y=true):be0 v=some y:=by
 cases y with
 | non=>cases r;rfl
 | bl b=>cases r;rfl
 | int i=>obtain⟨t,rfl⟩:=r;rfl
 | str z=>obtain⟨t,rfl⟩:=r;rfl
 | _=>cases f
noncomputable def eqF (y:V) (v:Value):Bool:=match be0 v with
 | some x=>eqV x y
 | none=>false
theorem a47 {ys:List V} {us:List Value} (r:Vals ys us):∀ {i:Nat} {u:Value},us[i]? = some u -> ∃ y,ys[i]? = some y/\RelV y u:=by
 induction r with
 | nil=>intro i u e;simp at e
 | @cons y v ys us h t ih=>
  intro i u e
  cases i with
  | zero=>rw [c9] at e;cases e;exact⟨y,rfl,h⟩
  | succ i=>rw [bZ] at e;exact ih e
noncomputable def P7:V->List V->Hp->VK->Prop:=fun x xs H Q=>∃ p ys y,x=.ref p/\xs=[y]/\H p=some (.lst ys)/\Bs y=true/\ys.all Bs=true /\ ∃ j:Nat,j<ys.length/\eqV (ys.getD j .non) y=true/\(∀ m,m<j->eqV (ys.getD m .non) y=false)/\Q (.int j) H
theorem al6:MtR X "list.index" P7:=by
 intro pins s σ H x xs v us Q I rx rs h
 obtain⟨p,ys,y,rfl,rfl,hp,fy,fs,j,hj,e1,e2,q⟩:=h
 cases rx
 obtain⟨u,rfl,ru⟩:=rs.one
 obtain⟨hz,its,n,r,e⟩:=I.hok p _ hp
 have hl:=r.length
 have at_:∀ (m:Nat) (hm:m<its.toArray.size),eqF y its.toArray[m]=eqV (ys.getD m .non) y/\RelV (ys.getD m .non) its.toArray[m]/\Bs (ys.getD m .non)=true:=fun m hm=>by
  have hm':m<its.length:=by simpa using hm
  obtain⟨y',h1,h2⟩:=a47 r (i:=m) (u:=its[m]) (ah hm')
  have f':Bs y'=true:=List.all_eq_true.mp fs y' (af h1)
  have g:ys.getD m .non=y':=by rw [au,h1];rfl
  rw [g]
  have e3:its.toArray[m]=its[m]:=by simp
  rw [e3]
  refine⟨?_,h2,f'⟩
  unfold eqF
  rw [au5 h2 f']
 have hs:its.toArray.size=ys.length:=by rw [av];omega
 refine kJ iH ⟨_,e,rfl⟩ PySem.F.entry_list_index (PySem.F.args_list_index_2 _ _)
  (MeetsSeq.list_index p its.toArray n u (eqF y) (fun z hz=>?_) j (by omega) ?_ (by rw [(at_ j (by omega)).1];exact e1) (fun m hm hlt=>by rw [(at_ m hm).1];exact e2 m hlt)) ⟨e,?_⟩
 ·obtain⟨m,hm,rfl⟩:=Array.mem_iff_getElem.mp hz
  obtain⟨a1,a2,a3⟩:=at_ m hm
  rw [a1]
  exact fun prog w A E s Q hq=>Pf (A:=A) (s:=s) a2 ru a3 fy prog w E Q hq
 ·have:=c5
  have h3:(sizeLine:Int)<2 ^ 63 - 1:=by decide
  omega
 ·exact⟨.int j,H,I.tok _,⟨_,rfl⟩,q⟩
end
inductive Dt where
 | at_ (v:V)
 | lst (l:List Dt)
 | tup (l:List Dt)
mutual
noncomputable def deq:Dt->Dt->Bool
 | .at_ v,.at_ w=>eqV v w
 | .lst xs,.lst ys=>Dn xs ys
 | .tup xs,.tup ys=>Dn xs ys
 | _,_=>false
noncomputable def Dn:List Dt->List Dt->Bool
 | [],[]=>true
 | x::xs,y::ys=>deq x y&&Dn xs ys
 | _,_=>false
end
mutual
noncomputable def dep:Dt->Nat
 | .at_ _=>0
 | .lst l=>E4 l+1
 | .tup l=>E4 l+1
noncomputable def E4:List Dt->Nat
 | []=>0
 | x::xs=>lE (dep x) (E4 xs)
end
mutual
noncomputable def At (K:ae) (H:Hp):Dt->V->Prop
 | .at_ v,x=>x=v/\Bs v=true
 | .lst ds,x=>∃ a xs,x=.ref a/\SqL K H a xs/\AtL K H ds xs
 | .tup ds,x=>∃ a xs,x=.ref a/\SqT K H a xs/\AtL K H ds xs
noncomputable def AtL (K:ae) (H:Hp):List Dt->List V->Prop
 | [],xs=>xs=[]
 | d::ds,xs=>∃ y ys,xs=y::ys/\At K H d y/\AtL K H ds ys
end
theorem AtL.length {K:ae} {H:Hp}:∀ {ds:List Dt} {xs:List V},AtL K H ds xs->xs.length=ds.length
 | [],xs,h=>by unfold AtL at h;subst h;rfl
 | d::ds,xs,h=>by
  unfold AtL at h
  obtain⟨y,ys,rfl,_,h2⟩:=h
  rw [aI,aI,AtL.length h2]
theorem ai3 {v:V} (h:Bs v=true):eqV v v=true:=by
 cases v <;> first|rfl|(exact beq_self_eq_true _)|exact absurd (show false=true from h) am
mutual
theorem Kn {K:ae} {H:Hp}:∀ {d:Dt} {x:V},At K H d x->deq d d=true
 | .at_ v,x,h=>by unfold At at h;unfold deq;exact ai3 h.2
 | .lst l,x,h=>by unfold At at h;obtain⟨a,xs,_,_,h⟩:=h;unfold deq;exact Ie h
 | .tup l,x,h=>by unfold At at h;obtain⟨a,xs,_,_,h⟩:=h;unfold deq;exact Ie h
theorem Ie {K:ae} {H:Hp}:∀ {ds:List Dt} {xs:List V},AtL K H ds xs->Dn ds ds=true
 | [],xs,h=>by unfold Dn;rfl
 | d::ds,xs,h=>by
  unfold AtL at h
  obtain⟨y,ys,rfl,h1,h2⟩:=h
  unfold Dn
  rw [Kn h1,Ie h2]
  rfl
end
theorem Fp:∀ {xs ys:List Dt},xs.length≠ys.length->Dn xs ys=false
 | [],[],h=>absurd rfl h
 | [],_::_,_=>by unfold Dn;rfl
 | _::_,[],_=>by unfold Dn;rfl
 | x::xs,y::ys,h=>by
  unfold Dn
  rw [Fp (xs:=xs) (ys:=ys) (fun e=>h (by rw [aI,aI,e])),c_]
theorem D8 (z:Dt):∀ {xs ys:List Dt},xs.length=ys.length->Dn xs ys=(aw xs.length).all fun j=>deq (xs.getD j z) (ys.getD j z)
 | [],[],_=>by unfold Dn;rfl
 | [],_::_,h=>by simp at h
 | _::_,[],h=>by simp at h
 | x::xs,y::ys,h=>by
  unfold Dn
  rw [aI,i6,bt,e8,D8 z (xs:=xs) (ys:=ys) (by simpa using h)]
  rfl
section
variable {X:Cx} {pins:List (Addr×Obj)} {σ:St} {H:Hp} {s:al}
theorem Sm {a:Addr} {xs ys:List V} (I:Inv X pins σ H s) (h:SqL X.K H a xs) (h':SqT X.K H a ys):False:=by
 obtain⟨its,r,⟨o,n,e,c,_,d⟩,_⟩:=I.list h
 obtain⟨its',r',⟨o',e',c',n',d'⟩,_⟩:=I.tuple h'
 rw [e] at e';cases e'
 rw [c] at c'
 injection c' with c'
 exact absurd c' (by decide)
mutual
theorem Ud (I:Inv X pins σ H s):∀ {d d':Dt} {x:V},At X.K H d x->At X.K H d' x->d=d'
 | .at_ v,.at_ w,x,h,h'=>by unfold At at h h';rw [<- h.1,<- h'.1]
 | .at_ v,.lst l,x,h,h'=>by
  unfold At at h h'
  obtain⟨a,xs,rfl,_⟩:=h'
  rw [<- h.1] at h
  exact absurd (show false=true from h.2) am
 | .at_ v,.tup l,x,h,h'=>by
  unfold At at h h'
  obtain⟨a,xs,rfl,_⟩:=h'
  rw [<- h.1] at h
  exact absurd (show false=true from h.2) am
 | .lst l,.at_ v,x,h,h'=>by
  unfold At at h h'
  obtain⟨a,xs,rfl,_⟩:=h
  rw [<- h'.1] at h'
  exact absurd (show false=true from h'.2) am
 | .tup l,.at_ v,x,h,h'=>by
  unfold At at h h'
  obtain⟨a,xs,rfl,_⟩:=h
  rw [<- h'.1] at h'
  exact absurd (show false=true from h'.2) am
 | .lst l,.lst l',x,h,h'=>by
  unfold At at h h'
  obtain⟨a,xs,rfl,q,h⟩:=h
  obtain⟨a',xs',e,q',h'⟩:=h'
  cases e
  rw [I.list_inj q q'] at h
  rw [Op I h h']
 | .tup l,.tup l',x,h,h'=>by
  unfold At at h h'
  obtain⟨a,xs,rfl,q,h⟩:=h
  obtain⟨a',xs',e,q',h'⟩:=h'
  cases e
  rw [I.tuple_inj q q'] at h
  rw [Op I h h']
 | .lst l,.tup l',x,h,h'=>by
  unfold At at h h'
  obtain⟨a,xs,rfl,q,h⟩:=h
  obtain⟨a',xs',e,q',h'⟩:=h'
  cases e
  exact (Sm I q q').elim
 | .tup l,.lst l',x,h,h'=>by
  unfold At at h h'
  obtain⟨a,xs,rfl,q,h⟩:=h
  obtain⟨a',xs',e,q',h'⟩:=h'
  cases e
  exact (Sm I q' q).elim
theorem Op (I:Inv X pins σ H s):∀ {ds ds':List Dt} {xs:List V},AtL X.K H ds xs->AtL X.K H ds' xs->ds=ds'
 | [],[],_,_,_=>rfl
 | [],_::_,_,h,h'=>by unfold AtL at h h';obtain⟨y,ys,e,_⟩:=h';rw [h] at e;cases e
 | _::_,[],_,h,h'=>by unfold AtL at h h';obtain⟨y,ys,e,_⟩:=h;rw [h'] at e;cases e
 | d::ds,d'::ds',xs,h,h'=>by
  unfold AtL at h h'
  obtain⟨y,ys,rfl,h1,h2⟩:=h
  obtain⟨y',ys',e,h1',h2'⟩:=h'
  cases e
  rw [Ud I h1 h1',Op I h2 h2']
end
theorem Nl {A:bj} {v:V} {u:Value} {a:Addr} {its:Array Value} (f:Bs v=true) (r:RelV v u) (hl:s.heap.IsList a its) (hu:A.units<cLine):bi A s u (.ref a) false/\bi A s (.ref a) u false:=by
 cases v with
 | non=>cases r;exact⟨.none_list hl hu,.list_none hl hu⟩
 | bl b=>cases r;exact⟨.bool_list b hl hu,.list_bool b hl hu⟩
 | int i=>obtain⟨t,rfl⟩:=r;exact⟨.int_list i t hl hu,.list_int i t hl hu⟩
 | str i=>obtain⟨t,rfl⟩:=r;exact⟨.str_list i t hl hu,.list_str i t hl hu⟩
 | _=>exact absurd (show false=true from f) am
theorem Ks {A:bj} {v:V} {u:Value} {a:Addr} {its:Array Value} (f:Bs v=true) (r:RelV v u) (hl:s.heap.IsTuple a its) (hu:A.units<cLine):bi A s u (.ref a) false/\bi A s (.ref a) u false:=by
 cases v with
 | non=>cases r;exact⟨.none_tuple hl hu,.tuple_none hl hu⟩
 | bl b=>cases r;exact⟨.bool_tuple b hl hu,.tuple_bool b hl hu⟩
 | int i=>obtain⟨t,rfl⟩:=r;exact⟨.int_tuple i t hl hu,.tuple_int i t hl hu⟩
 | str i=>obtain⟨t,rfl⟩:=r;exact⟨.str_tuple i t hl hu,.tuple_str i t hl hu⟩
 | _=>exact absurd (show false=true from f) am
mutual
theorem ai1 (I:Inv X pins σ H s):∀ (d d':Dt) (A:bj) (x y:V) (u v:Value),At X.K H d x->At X.K H d' y->RelV x u->RelV y v->A.units+dep d<cLine->bi A s u v (deq d d')
 | .at_ p,.at_ q,A,x,y,u,v,h,h',r,r',hu=>by
  unfold At at h h';unfold deq
  obtain⟨rfl,f⟩:=h
  obtain⟨rfl,f'⟩:=h'
  exact Pf r r' f f'
 | .at_ p,.lst l,A,x,y,u,v,h,h',r,r',hu=>by
  unfold At at h h';unfold deq
  obtain⟨rfl,f⟩:=h
  obtain⟨a,xs,rfl,q,_⟩:=h'
  obtain⟨its,_,pl,_⟩:=I.list q
  cases r'
  exact (Nl f r pl.isList (by omega)).1
 | .at_ p,.tup l,A,x,y,u,v,h,h',r,r',hu=>by
  unfold At at h h';unfold deq
  obtain⟨rfl,f⟩:=h
  obtain⟨a,xs,rfl,q,_⟩:=h'
  obtain⟨its,_,pl,_⟩:=I.tuple q
  cases r'
  exact (Ks f r pl (by omega)).1
 | .lst l,.at_ p,A,x,y,u,v,h,h',r,r',hu=>by
  unfold At at h h';unfold deq
  obtain⟨rfl,f⟩:=h'
  obtain⟨a,xs,rfl,q,_⟩:=h
  obtain⟨its,_,pl,_⟩:=I.list q
  cases r
  exact (Nl f r' pl.isList (by omega)).2
 | .tup l,.at_ p,A,x,y,u,v,h,h',r,r',hu=>by
  unfold At at h h';unfold deq
  obtain⟨rfl,f⟩:=h'
  obtain⟨a,xs,rfl,q,_⟩:=h
  obtain⟨its,_,pl,_⟩:=I.tuple q
  cases r
  exact (Ks f r' pl (by omega)).2
 | .lst l,.tup l',A,x,y,u,v,h,h',r,r',hu=>by
  unfold At at h h';unfold deq
  obtain⟨a,xs,rfl,q,_⟩:=h
  obtain⟨b,ys,rfl,q',_⟩:=h'
  obtain⟨its,_,pl,_⟩:=I.list q
  obtain⟨its',_,pl',_⟩:=I.tuple q'
  cases r;cases r'
  exact .list_tuple pl.isList pl' (by omega)
 | .tup l,.lst l',A,x,y,u,v,h,h',r,r',hu=>by
  unfold At at h h';unfold deq
  obtain⟨a,xs,rfl,q,_⟩:=h
  obtain⟨b,ys,rfl,q',_⟩:=h'
  obtain⟨its,_,pl,_⟩:=I.tuple q
  obtain⟨its',_,pl',_⟩:=I.list q'
  cases r;cases r'
  exact .tuple_list pl pl'.isList (by omega)
 | .lst l,.lst l',A,x,y,u,v,h,h',r,r',hu=>by
  by_cases e:x=y
  ·subst e
   have:=Ud I h h'
   rw [<- this,Kn h]
   have hx:∃ a,x=.ref a:=by unfold At at h;obtain⟨a,_,e,_⟩:=h;exact⟨a,e⟩
   obtain⟨a,rfl⟩:=hx
   cases r;cases r'
   exact .same _
  ·unfold At at h h';unfold deq
   unfold dep at hu
   obtain⟨a,xs,rfl,q,h⟩:=h
   obtain⟨b,ys,rfl,q',h'⟩:=h'
   obtain⟨its,ri,pl,_⟩:=I.list q
   obtain⟨its',ri',pl',_⟩:=I.list q'
   cases r;cases r'
   have ne:a≠b:=fun z=>e (by rw [z])
   have e1:=h.length
   have e2:=h'.length
   have e3:=ri.length
   have e4:=ri'.length
   refine .of_refs ne ?_
   by_cases hl:l.length=l'.length
   ·rw [D8 (.lst []) hl]
    have hsz:its.toArray.size=l.length:=by simp;omega
    rw [<- hsz]
    exact .lists pl.isList pl'.isList (by simp;omega) (by omega) fun j h1 h2=>by
     have:=Hb I l l' A.in1 xs ys its its' h h' ri ri' (by show A.units+1+E4 l<cLine;omega) j (by simpa using h1) (by simpa using h2)
     simpa using this
   ·rw [Fp hl]
    exact .lists_lengths pl.isList pl'.isList (by simp;omega) (by omega)
 | .tup l,.tup l',A,x,y,u,v,h,h',r,r',hu=>by
  by_cases e:x=y
  ·subst e
   have:=Ud I h h'
   rw [<- this,Kn h]
   have hx:∃ a,x=.ref a:=by unfold At at h;obtain⟨a,_,e,_⟩:=h;exact⟨a,e⟩
   obtain⟨a,rfl⟩:=hx
   cases r;cases r'
   exact .same _
  ·unfold At at h h';unfold deq
   unfold dep at hu
   obtain⟨a,xs,rfl,q,h⟩:=h
   obtain⟨b,ys,rfl,q',h'⟩:=h'
   obtain⟨its,ri,pl,_⟩:=I.tuple q
   obtain⟨its',ri',pl',_⟩:=I.tuple q'
   cases r;cases r'
   have ne:a≠b:=fun z=>e (by rw [z])
   have e1:=h.length
   have e2:=h'.length
   have e3:=ri.length
   have e4:=ri'.length
   refine .of_refs ne ?_
   have T:=SeqAt.RcAt.tuples (A:=A) (s:=s) (e:=fun j=>deq (l.getD j (.lst [])) (l'.getD j (.lst []))) pl pl' (by omega) fun j h1 h2=>by
     have:=Hb I l l' A.in1 xs ys its its' h h' ri ri' (by show A.units+1+E4 l<cLine;omega) j (by simpa using h1) (by simpa using h2)
     simpa using this
   by_cases hl:l.length=l'.length
   ·rw [D8 (.lst []) hl]
    have hsz:its.toArray.size=l.length:=by simp;omega
    have hsz':its'.toArray.size=l.length:=by simp;omega
    rw [hsz,hsz',Nat.min_self,beq_self_eq_true,gA] at T
    exact T
   ·rw [Fp hl]
    have hne:(its.toArray.size==its'.toArray.size)=false:=by
     rw [beq_eq_false_iff_ne];simp;omega
    rw [hne,c_] at T
    exact T
theorem Hb (I:Inv X pins σ H s):∀ (ds ds':List Dt) (A:bj) (xs ys:List V) (us vs:List Value),AtL X.K H ds xs->AtL X.K H ds' ys->Vals xs us->Vals ys vs->A.units+E4 ds<cLine ->
  ∀ (j:Nat) (h1:j<us.length) (h2:j<vs.length),bi A s us[j] vs[j] (deq (ds.getD j (.lst [])) (ds'.getD j (.lst [])))
 | [],_,A,xs,ys,us,vs,h,h',r,r',hu=>fun j h1 h2=>by
  unfold AtL at h
  subst h
  cases r
  cases h1
 | _::_,[],A,xs,ys,us,vs,h,h',r,r',hu=>fun j h1 h2=>by
  unfold AtL at h'
  subst h'
  cases r'
  cases h2
 | d::ds,d'::ds',A,xs,ys,us,vs,h,h',r,r',hu=>fun j h1 h2=>by
  unfold AtL at h h'
  obtain⟨y,ys,rfl,q1,q2⟩:=h
  obtain⟨z,zs,rfl,q1',q2'⟩:=h'
  cases r with
  | cons r1 r2=>
   cases r' with
   | cons r1' r2'=>
    unfold E4 at hu
    have m1:dep d<=lE (dep d) (E4 ds):=Nat.le_max_left _ _
    have m2:E4 ds<=lE (dep d) (E4 ds):=Nat.le_max_right _ _
    cases j with
    | zero=>exact ai1 I d d' A _ _ _ _ q1 q1' r1 r1' (by omega)
    | succ j=>exact Hb I ds ds' A _ _ _ _ q2 q2' r2 r2' (by omega) j (by simpa using h1) (by simpa using h2)
end
theorem Ge {K:ae} {d:Dt} {a:Addr} (h:At K H d (.ref a)):(∃ l xs,d=.lst l/\SqL K H a xs/\AtL K H l xs)\/(∃ l xs,d=.tup l/\SqT K H a xs/\AtL K H l xs):=by
 cases d with
 | at_ v=>
  unfold At at h
  rw [<- h.1] at h
  exact absurd (show false=true from h.2) am
 | lst l=>unfold At at h;obtain⟨b,xs,e,q,h⟩:=h;cases e;exact .inl ⟨l,xs,rfl,q,h⟩
 | tup l=>unfold At at h;obtain⟨b,xs,e,q,h⟩:=h;cases e;exact .inr ⟨l,xs,rfl,q,h⟩
theorem Sk {K:ae} {d:Dt} {x:V} (h:At K H d x) (f:∀ a,x≠.ref a):d=.at_ x/\Bs x=true:=by
 cases d with
 | at_ v=>unfold At at h;rw [h.1];exact⟨rfl,h.2⟩
 | lst l=>unfold At at h;obtain⟨b,xs,e,_⟩:=h;exact absurd e (f b)
 | tup l=>unfold At at h;obtain⟨b,xs,e,_⟩:=h;exact absurd e (f b)
theorem cj5 (I:Inv X pins σ H s) {A:bj} {d d':Dt} {a b:Addr} (h:At X.K H d (.ref a)) (h':At X.K H d' (.ref b)) (hu:A.units+dep d<cLine):ir A s (.ref a) (.ref b) (deq d d')/\fc A s (.ref a) (.ref b) (!deq d d'):=by
 rcases Ge h with ⟨l,xs,rfl,q,h⟩|⟨l,xs,rfl,q,h⟩
 ·rcases Ge h' with ⟨l',ys,rfl,q',h'⟩|⟨l',ys,rfl,q',h'⟩
  ·unfold deq
   unfold dep at hu
   obtain⟨its,ri,pl,_⟩:=I.list q
   obtain⟨its',ri',pl',_⟩:=I.list q'
   have e1:=h.length
   have e2:=h'.length
   have e3:=ri.length
   have e4:=ri'.length
   have it:∀ j (h1:j<its.toArray.size) (h2:j<its'.toArray.size),bi A.in1 s its.toArray[j] its'.toArray[j] (deq (l.getD j (.lst [])) (l'.getD j (.lst []))):=fun j h1 h2=>by
    have:=Hb I l l' A.in1 xs ys its its' h h' ri ri' (by show A.units+1+E4 l<cLine;omega) j (by simpa using h1) (by simpa using h2)
    simpa using this
   by_cases hl:l.length=l'.length
   ·rw [D8 (.lst []) hl]
    have hsz:its.toArray.size=l.length:=by simp;omega
    rw [<- hsz]
    exact⟨.lists pl.isList pl'.isList (by simp;omega) (by omega) it,.lists pl.isList pl'.isList (by simp;omega) (by omega) it⟩
   ·rw [Fp hl]
    exact⟨.lists_lengths pl.isList pl'.isList (by simp;omega) (by omega),.lists_lengths pl.isList pl'.isList (by simp;omega) (by omega)⟩
  ·unfold deq
   obtain⟨its,ri,pl,_⟩:=I.list q
   obtain⟨its',ri',pl',_⟩:=I.tuple q'
   exact⟨.list_tuple pl.isList pl' (by omega),.list_tuple pl.isList pl' (by omega)⟩
 ·rcases Ge h' with ⟨l',ys,rfl,q',h'⟩|⟨l',ys,rfl,q',h'⟩
  ·unfold deq
   obtain⟨its,ri,pl,_⟩:=I.tuple q
   obtain⟨its',ri',pl',_⟩:=I.list q'
   exact⟨.tuple_list pl pl'.isList (by omega),.tuple_list pl pl'.isList (by omega)⟩
  ·unfold deq
   unfold dep at hu
   obtain⟨its,ri,pl,_⟩:=I.tuple q
   obtain⟨its',ri',pl',_⟩:=I.tuple q'
   have e1:=h.length
   have e2:=h'.length
   have e3:=ri.length
   have e4:=ri'.length
   have it:∀ j (h1:j<its.toArray.size) (h2:j<its'.toArray.size),bi A.in1 s its.toArray[j] its'.toArray[j] (deq (l.getD j (.lst [])) (l'.getD j (.lst []))):=fun j h1 h2=>by
    have:=Hb I l l' A.in1 xs ys its its' h h' ri ri' (by show A.units+1+E4 l<cLine;omega) j (by simpa using h1) (by simpa using h2)
    simpa using this
   have T:=SeqAt.RcAt.tuples pl pl' (by omega) it
   have T':=SeqAt.RcNeAt.tuples pl pl' (by omega) it
   by_cases hl:l.length=l'.length
   ·rw [D8 (.lst []) hl]
    have hsz:its.toArray.size=l.length:=by simp;omega
    have hsz':its'.toArray.size=l.length:=by simp;omega
    rw [hsz,hsz',Nat.min_self,beq_self_eq_true,gA] at T T'
    exact⟨T,T'⟩
   ·rw [Fp hl]
    have hne:(its.toArray.size==its'.toArray.size)=false:=by
     rw [beq_eq_false_iff_ne];simp;omega
    rw [hne,c_] at T T'
    exact⟨T,T'⟩
theorem X7 (I:Inv X pins σ H s) {A:bj} {d:Dt} {a:Addr} {v:V} {u:Value} (h:At X.K H d (.ref a)) (f:Bs v=true) (r:RelV v u) (hu:A.units<cLine) :
  ir A s (.ref a) u false/\fc A s (.ref a) u true/\ir A s u (.ref a) false/\fc A s u (.ref a) true:=by
 rcases Ge h with ⟨l,xs,rfl,q,h⟩|⟨l,xs,rfl,q,h⟩
 ·obtain⟨its,ri,pl,_⟩:=I.list q
  cases v with
  | non=>cases r;exact⟨.list_none pl.isList hu,.list_none pl.isList hu,.none_list pl.isList hu,.none_list pl.isList hu⟩
  | bl b=>cases r;exact⟨.list_bool b pl.isList hu,.list_bool b pl.isList hu,.bool_list b pl.isList hu,.bool_list b pl.isList hu⟩
  | int b=>obtain⟨t,rfl⟩:=r;exact⟨.list_int b t pl.isList hu,.list_int b t pl.isList hu,.int_list b t pl.isList hu,.int_list b t pl.isList hu⟩
  | str b=>obtain⟨t,rfl⟩:=r;exact⟨.list_str b t pl.isList hu,.list_str b t pl.isList hu,.str_list b t pl.isList hu,.str_list b t pl.isList hu⟩
  | _=>exact absurd (show false=true from f) am
 ·obtain⟨its,ri,pl,_⟩:=I.tuple q
  cases v with
  | non=>cases r;exact⟨.tuple_none pl hu,.tuple_none pl hu,.none_tuple pl hu,.none_tuple pl hu⟩
  | bl b=>cases r;exact⟨.tuple_bool b pl hu,.tuple_bool b pl hu,.bool_tuple b pl hu,.bool_tuple b pl hu⟩
  | int b=>obtain⟨t,rfl⟩:=r;exact⟨.tuple_int b t pl hu,.tuple_int b t pl hu,.int_tuple b t pl hu,.int_tuple b t pl hu⟩
  | str b=>obtain⟨t,rfl⟩:=r;exact⟨.tuple_str b t pl hu,.tuple_str b t pl hu,.str_tuple b t pl hu,.str_tuple b t pl hu⟩
  | _=>exact absurd (show false=true from f) am
noncomputable def ap1 (K:ae) (neg:Bool):R2:=fun x y H Q=>∃ d d',At K H d x/\At K H d' y/\dep d<=40/\Q (.bl (if neg then !deq d d' else deq d d')) H
theorem ap8 (I:Inv X pins σ H s) {A:bj} {d d':Dt} {x y:V} {u v:Value} (h:At X.K H d x) (h':At X.K H d' y) (r:RelV x u) (r':RelV y v) (hr:(∃ a,x=.ref a) \/ ∃ b,y=.ref b) (hu:A.units+dep d<cLine) :
  ir A s u v (deq d d')/\fc A s u v (!deq d d'):=by
 by_cases hx:∃ a,x=.ref a
 ·obtain⟨a,rfl⟩:=hx
  cases r
  by_cases hy:∃ b,y=.ref b
  ·obtain⟨b,rfl⟩:=hy
   cases r'
   exact cj5 I h h' hu
  ·obtain⟨rfl,f⟩:=Sk h' (fun b e=>hy ⟨b,e⟩)
   obtain⟨q1,q2,_⟩:=X7 I h f r' (show A.units<cLine by omega)
   have e:deq d (.at_ y)=false:=by
    rcases Ge h with ⟨l,xs,rfl,_⟩|⟨l,xs,rfl,_⟩ <;> (unfold deq;rfl)
   rw [e]
   exact⟨q1,q2⟩
 ·have hy:∃ b,y=.ref b:=hr.resolve_left hx
  obtain⟨b,rfl⟩:=hy
  cases r'
  obtain⟨rfl,f⟩:=Sk h (fun b e=>hx ⟨b,e⟩)
  obtain⟨_,_,q1,q2⟩:=X7 I h' f r (show A.units<cLine by omega)
  have e:deq (.at_ x) d'=false:=by
   rcases Ge h' with ⟨l,xs,rfl,_⟩|⟨l,xs,rfl,_⟩ <;> (unfold deq;rfl)
  rw [e]
  exact⟨q1,q2⟩
theorem Vj (hu:X.A.units+64<cLine) {x y:V} {u v:Value} {Q:VK} (I:Inv X pins σ H s) (rx:RelV x u) (ry:RelV y v) (hr:(∃ a,x=.ref a) \/ ∃ b,y=.ref b) (h:ap1 X.K false x y H Q):aV (model X.prog X.w) X.A (cu .Eq u v) (EP X pins σ Q) X.xe s:=by
 obtain⟨d,d',h1,h2,hd,q⟩:=h
 exact (ap8 I h1 h2 rx ry hr (A:=X.A) (by omega)).1 _ _ _ _ ⟨.bl _,H,I,rfl,q⟩
theorem Vk (hu:X.A.units+64<cLine) {x y:V} {u v:Value} {Q:VK} (I:Inv X pins σ H s) (rx:RelV x u) (ry:RelV y v) (hr:(∃ a,x=.ref a) \/ ∃ b,y=.ref b) (h:ap1 X.K true x y H Q):aV (model X.prog X.w) X.A (cu .NotEq u v) (EP X pins σ Q) X.xe s:=by
 obtain⟨d,d',h1,h2,hd,q⟩:=h
 exact (ap8 I h1 h2 rx ry hr (A:=X.A) (by omega)).2 _ _ _ _ ⟨.bl _,H,I,rfl,q⟩
end
end L2
set_option maxHeartbeats 1000000
namespace L2
open PySem PySem.Spec PyProof.Rows
theorem Zb {prog:aW} {w:bE} {A:bj} {E:Value->al->Prop} {s:al} {Q:Int->al->Prop} (h:Q (reduceHash 4238894112) { s with toks:=s.toks+1 }):aV (model prog w) A (pyHash .none) Q E s:=by
 show aV (model prog w) A (pyHashByItsType .none) Q E s
 refine PySem.W.pyHash_slot (T := "NoneType") rfl PySem.F.slot_NoneType_hash PySem.F.entry_NoneType_hash (PySem.F.args_NoneType_hash_1 _) rfl (.inl rfl) ?_
 unfold ay.«NoneType.__hash__»
 refine ag (m:=slotArgs "__hash__" 0 _) (ao ?_)
 unfold retInt
 exact ag (wpAny_mkInt (ao ⟨_,_,rfl,h⟩))
noncomputable def b01:Option Key->Value->Bool
 | none,v=>v==.none
 | some k,v=>Hi k v
theorem C5 {k:Option Key} {v:Value} (h:b01 k v=true):(k=none/\v=.none) \/ ∃ k',k=some k'/\Hi k' v=true:=by
 cases k with
 | none=>exact .inl ⟨rfl,cJ h⟩
 | some k=>exact .inr ⟨k,rfl,h⟩
noncomputable def J4 (prog:aW) (w:bE):PySem.KeyKind prog w (Option Key) where
 is:=b01
 hash:=fun k=>match k with
  | none=>reduceHash 4238894112
  | some k=>b00 w k
 inj:=fun v a b ha hb=>by
  rcases C5 ha with ⟨rfl,rfl⟩|⟨k,rfl,ha⟩
  ·rcases C5 hb with ⟨rfl,_⟩|⟨k',rfl,hb⟩
   ·rfl
   ·rcases A9 hb with ⟨_,_,_,e⟩|⟨_,_,_,e⟩ <;> cases e
  ·rcases C5 hb with ⟨rfl,rfl⟩|⟨k',rfl,hb⟩
   ·rcases A9 ha with ⟨_,_,_,e⟩|⟨_,_,_,e⟩ <;> cases e
   ·rw [(Av prog w).inj v k k' ha hb]
 byValue:=fun k v h=>by
  rcases C5 h with ⟨rfl,rfl⟩|⟨k,rfl,h⟩
  ·rfl
  ·exact (Av prog w).byValue k v h
 pyHash:=fun hv h=>by
  rcases C5 hv with ⟨rfl,rfl⟩|⟨k,rfl,hv⟩
  ·exact Zb h
  ·exact (Av prog w).pyHash hv h
 eqBool:=fun hu hv h=>by
  rcases C5 hu with ⟨rfl,rfl⟩|⟨k,rfl,hu⟩
  ·rcases C5 hv with ⟨rfl,rfl⟩|⟨k',rfl,hv⟩
   ·exact SeqAt.EqAt.same _ _ _ _ _ (by simpa using h)
   ·rcases A9 hv with ⟨i,t,rfl,rfl⟩|⟨x,t,rfl,rfl⟩
    ·exact jZ _ _ _ _ _ _ (by simpa using h)
    ·exact j3 _ _ _ _ _ _ (by simpa using h)
  ·rcases C5 hv with ⟨rfl,rfl⟩|⟨k',rfl,hv⟩
   ·rcases A9 hu with ⟨i,t,rfl,rfl⟩|⟨x,t,rfl,rfl⟩
    ·exact jY _ _ _ _ _ _ (by simpa using h)
    ·exact j5 _ _ _ _ _ _ (by simpa using h)
   ·exact (Av prog w).eqBool hu hv (by
     have e:decide (some k=some k')=decide (k=k'):=by by_cases q:k=k' <;> simp [q]
     rwa [e] at h)
 «strs»:=fun k x t v h=>by
  rcases C5 h with ⟨rfl,e⟩|⟨k,rfl,h⟩
  ·cases e
  ·exact (Av prog w).strs k x t v h
section
variable {X:Cx} {pins:List (Addr×Obj)} {σ:St} {H:Hp} {s:al} {A:bj} {E:Value->al->Prop}
theorem Oa {prog:aW} {w:bE}:∀ {es:List DictEntry} {kvs:List (Key×Value)},Pairs (Av prog w) es kvs->Pairs (J4 prog w) es (kvs.map fun kv=>(some kv.1,kv.2))
 | _,_,.nil=>.nil
 | _,_,.cons h1 h2 h3=>.cons (kv:=(some _,_)) h1 h2 (Oa h3)
theorem Rv {prog:aW} {w:bE} {h:Heap} {a:Addr} {kvs:List (Key×Value)} (d:h.DictOf (Av prog w) a kvs):h.DictOf (J4 prog w) a (kvs.map fun kv=>(some kv.1,kv.2)):=by
 obtain⟨o,es,ep,h1,h2,h3,h4,h5,h6⟩:=d
 refine⟨o,es,ep,h1,h2,h3,fun e he=>?_,Oa h5,?_⟩
 ·obtain⟨k,q1,q2⟩:=h4 e he
  exact⟨some k,q1,q2⟩
 ·rw [bd]
  have e:(fz ((fun x=>x.1)∘fun kv:Key×Value=>(some kv.1,kv.2)) kvs)=(kvs.map (·.1)).map some:=by rw [bd];rfl
  rw [e]
  exact List.pairwise_map.mpr (h6.imp fun n e=>n (aE e))
theorem Vf:∀ kvs:List (Key×Value),jC (kvs.map fun kv=>(some kv.1,kv.2)) none=none
 | []=>rfl
 | kv::r=>by
  have:=Vf r
  unfold jC at *
  rw [aQ,bD]
  simpa using this
theorem ci4 {a:Addr} {kvs:List (Key×V)} {Q:Value->al->Prop} (I:Inv X pins σ H s) (e:Rd H a (.dK kvs)) (h:∀ s',Inv X pins σ H s'->Q (.bool false) s'):aV (model X.prog X.w) A (cu .In .none (.ref a)) Q E s:=by
 obtain⟨z,hd,vs,rel,dd⟩:=Fr I.hok e
 refine wpAny_in_of (knd:=J4 X.prog X.w) (k:=none) rfl hd (Rv dd).mapOf ?_
 rw [Vf]
 exact h _ (I.tok _)
theorem ay8 {a:Addr} {kvs:List (Key×V)} {Q:Value->al->Prop} (I:Inv X pins σ H s) (e:Rd H a (.dK kvs)) (h:∀ s',Inv X pins σ H s'->Q (.bool true) s'):aV (model X.prog X.w) A (cu .NotIn .none (.ref a)) Q E s:=by
 obtain⟨z,hd,vs,rel,dd⟩:=Fr I.hok e
 refine wpAny_notIn_of (knd:=J4 X.prog X.w) (k:=none) rfl hd (Rv dd).mapOf ?_
 rw [Vf]
 exact h _ (I.tok _)
end
end L2
set_option maxHeartbeats 4000000
namespace L2
open PySem PySem.Spec PyProof.Rows
noncomputable def rNo:R2:=fun _ _ _ _=>False
noncomputable def Bb (K:ae):R2:=fun x y H Q=>match x,y with
 | .int i,.int j=>Q (.int (i+j)) H
 | .str a,.str b=>a.length+b.length<=sizeLine/\Q (.str (a++b)) H
 | .ref a,.ref b=>b53 (.ref a) (.ref b) H Q\/a89 K (.ref a) (.ref b) H Q\/a88 K (.ref a) (.ref b) H Q
 | _,_=>False
noncomputable def X6:R2:=fun x y H Q=>match x,y with
 | .int i,.int j=>Q (.int (i - j)) H
 | _,_=>False
noncomputable def Cr (K:ae):R2:=fun x y H Q=>match x,y with
 | .int i,.int j=>CMul i j/\Q (.int (i * j)) H
 | _,_=>False
noncomputable def Co:R2:=fun x y H Q=>match x,y with
 | .int i,.int j=>bw8 i j/\Q (.int (i / j)) H
 | _,_=>False
noncomputable def A3:R2:=fun x y H Q=>match x,y with
 | .int i,.int j=>0<j/\Q (.int (i % j)) H
 | _,_=>False
noncomputable def Tg:R2:=fun x y H Q=>match x,y with
 | .int i,.int j=>au0 i j/\Q (.int (i ^ j.toNat)) H
 | _,_=>False
noncomputable def Jp:R2:=fun x y H Q=>match x,y with
 | .int i,.int j=>au0 i j/\Q (.int (i * 2 ^ j.toNat)) H
 | _,_=>False
noncomputable def Dq:R2:=fun x y H Q=>match x,y with
 | .int i,.int j=>0<=j/\Q (.int (i / 2 ^ j.toNat)) H
 | _,_=>False
noncomputable def B0:R2:=fun x y H Q=>match x,y with
 | .int i,.int j=>Q (.int (aS i j)) H
 | _,_=>False
noncomputable def ap4:R2:=fun x y H Q=>match x,y with
 | .int i,.int j=>Q (.int (cD i j)) H
 | _,_=>False
noncomputable def b56:R2:=fun x y H Q=>match x,y with
 | .int i,.int j=>Q (.int (Builtin.bitXor i j)) H
 | _,_=>False
noncomputable def rOp (K:ae):lF->R2
 | .Add=>Bb K
 | .Sub=>X6
 | .Mult=>Cr K
 | .FloorDiv=>Co
 | .Mod=>A3
 | .Pow=>Tg
 | .LShift=>Jp
 | .RShift=>Dq
 | .BitAnd=>B0
 | .BitOr=>ap4
 | .BitXor=>b56
 | _=>rNo
section
variable {X:Cx}
theorem ci5 (op:lF):OpR X (dA op) (rOp X.K op):=by
 intro pins s σ H x y v u Q I rx ry h
 cases op with
 | Add=>
  cases x <;> cases y <;> first
   | exact (show False from h).elim
   | exact bi8 pins s σ H _ _ v u Q I rx ry ⟨_,_,rfl,rfl,h⟩
   | exact Vi pins s σ H _ _ v u Q I rx ry ⟨_,_,rfl,rfl,h⟩
   | exact (op_cat.or (op_catT.or az4)) pins s σ H _ _ v u Q I rx ry h
 | Sub=>cases x <;> cases y <;> first|exact (show False from h).elim|exact bj8 pins s σ H _ _ v u Q I rx ry ⟨_,_,rfl,rfl,h⟩
 | Mult=>cases x <;> cases y <;> first|exact (show False from h).elim|exact bj3 pins s σ H _ _ v u Q I rx ry ⟨_,_,rfl,rfl,h⟩
 | FloorDiv=>cases x <;> cases y <;> first|exact (show False from h).elim|exact az5 pins s σ H _ _ v u Q I rx ry ⟨_,_,rfl,rfl,h⟩
 | Mod=>cases x <;> cases y <;> first|exact (show False from h).elim|exact bj2 pins s σ H _ _ v u Q I rx ry ⟨_,_,rfl,rfl,h⟩
 | Pow=>cases x <;> cases y <;> first|exact (show False from h).elim|exact bj5 pins s σ H _ _ v u Q I rx ry ⟨_,_,rfl,rfl,h⟩
 | LShift=>cases x <;> cases y <;> first|exact (show False from h).elim|exact bj6 pins s σ H _ _ v u Q I rx ry ⟨_,_,rfl,rfl,h⟩
 | RShift=>cases x <;> cases y <;> first|exact (show False from h).elim|exact bj7 pins s σ H _ _ v u Q I rx ry ⟨_,_,rfl,rfl,h⟩
 | BitAnd=>cases x <;> cases y <;> first|exact (show False from h).elim|exact bi9 pins s σ H _ _ v u Q I rx ry ⟨_,_,rfl,rfl,h⟩
 | BitOr=>cases x <;> cases y <;> first|exact (show False from h).elim|exact b37 pins s σ H _ _ v u Q I rx ry ⟨_,_,rfl,rfl,h⟩
 | BitXor=>cases x <;> cases y <;> first|exact (show False from h).elim|exact bj9 pins s σ H _ _ v u Q I rx ry ⟨_,_,rfl,rfl,h⟩
 | _=>exact (show False from h).elim
end
noncomputable def Ax (K:ae) (neg:Bool):R2:=fun x y H Q=>match x,y with
 | .ref a,.ref b=>bo6 K neg (.ref a) (.ref b) H Q\/ap1 K neg (.ref a) (.ref b) H Q\/False\/False\/False
 | .ref a,y=>ap1 K neg (.ref a) y H Q\/False
 | x,.ref b=>ap1 K neg x (.ref b) H Q
 | .int i,.int j=>Q (.bl (if neg then !decide (i=j) else decide (i=j))) H
 | .str i,.str j=>Q (.bl (if neg then !decide (i=j) else decide (i=j))) H
 | .bl i,.bl j=>Q (.bl (if neg then !(i==j) else (i==j))) H
 | x,y=>bt5 x y=true/\Q (.bl (if neg then !decide (x=y) else decide (x=y))) H
noncomputable def b54:R2:=fun x y H Q=>match x,y with
 | .int i,.int j=>Q (.bl (decide (i<j))) H
 | .str i,.str j=>Q (.bl (decide (i.cps.toList<j.cps.toList))) H
 | _,_=>False
noncomputable def Gz:R2:=fun x y H Q=>match x,y with
 | .int i,.int j=>Q (.bl (decide (i<=j))) H
 | .str i,.str j=>Q (.bl (!decide (j.cps.toList<i.cps.toList))) H
 | _,_=>False
noncomputable def Z1:R2:=fun x y H Q=>match x,y with
 | .int i,.int j=>Q (.bl (decide (j<i))) H
 | _,_=>False
noncomputable def ci7:R2:=fun x y H Q=>match x,y with
 | .int i,.int j=>Q (.bl (decide (j<=i))) H
 | _,_=>False
noncomputable def Vq (K:ae) (neg:Bool):R2:=fun x y H Q=>match x,y with
 | .non,.ref p=>rIn K neg .non (.ref p) H Q \/ ∃ kvs,Rd H p (.dK kvs)/\Q (.bl neg) H
 | x,.ref p=>rIn K neg x (.ref p) H Q \/ ∃ o,DGet H p x o/\Q (.bl (if neg then !o.isSome else o.isSome)) H
 | _,_=>False
noncomputable def a34 (neg:Bool):R2:=fun x y H Q=>match y with
 | .non=>Q (.bl (if neg then !decide (x=.non) else decide (x=.non))) H
 | .bl d=>(match x with
  | .bl c=>Q (.bl (if neg then !(c==d) else (c==d))) H
  | _=>False)
 | _=>False
noncomputable def M1 (K:ae):lC->R2
 | .Eq=>Ax K false
 | .NotEq=>Ax K true
 | .Lt=>b54
 | .LtE=>Gz
 | .Gt=>Z1
 | .GtE=>ci7
 | .In=>Vq K false
 | .NotIn=>Vq K true
 | .Is=>a34 false
 | .IsNot=>a34 true
section
variable {X:Cx}
theorem Nc (hu:X.A.units+64<cLine) (op:lC):OpR X (cu op) (M1 X.K op):=by
  intro pins s σ H x y v u Q I rx ry h
  cases op with
  | Eq=>
    cases x <;> cases y <;> first
      | (rcases h with h|h|h|h|h
         . exact bj0 (by omega) pins s σ H _ _ v u Q I rx ry h
         . exact Vj hu I rx ry (.inl ⟨_,rfl⟩) h
         . exact h.elim
         . exact h.elim
         . exact h.elim)
      | (rcases h with h|h
         . exact Vj hu I rx ry (.inl ⟨_,rfl⟩) h
         . exact h.elim)
      | exact Vj hu I rx ry (.inr ⟨_,rfl⟩) h
      | exact Xx pins s σ H _ _ v u Q I rx ry h
      | exact Xx pins s σ H _ _ v u Q I rx ry ⟨rfl,by rw [J0,cQ];exact h⟩
      | exact Xx pins s σ H _ _ v u Q I rx ry ⟨rfl,by rw [J1,cQ];exact h⟩
      | exact Xx pins s σ H _ _ v u Q I rx ry ⟨rfl,by rw [O9];exact h⟩
  | NotEq=>
    cases x <;> cases y <;> first
      | (rcases h with h|h|h|h|h
         . exact bj4 (by omega) pins s σ H _ _ v u Q I rx ry h
         . exact Vk hu I rx ry (.inl ⟨_,rfl⟩) h
         . exact h.elim
         . exact h.elim
         . exact h.elim)
      | (rcases h with h|h
         . exact Vk hu I rx ry (.inl ⟨_,rfl⟩) h
         . exact h.elim)
      | exact Vk hu I rx ry (.inr ⟨_,rfl⟩) h
      | exact Xy pins s σ H _ _ v u Q I rx ry h
      | exact Xy pins s σ H _ _ v u Q I rx ry ⟨rfl,by rw [J0,cQ];exact h⟩
      | exact Xy pins s σ H _ _ v u Q I rx ry ⟨rfl,by rw [J1,cQ];exact h⟩
      | exact Xy pins s σ H _ _ v u Q I rx ry ⟨rfl,by rw [O9];exact h⟩
  | Lt=>cases x <;> cases y <;> first|exact (show False from h).elim|exact b36 pins s σ H _ _ v u Q I rx ry ⟨_,_,rfl,rfl,h⟩|exact Zw pins s σ H _ _ v u Q I rx ry ⟨_,_,rfl,rfl,h⟩
  | LtE=>cases x <;> cases y <;> first|exact (show False from h).elim|exact b35 pins s σ H _ _ v u Q I rx ry ⟨_,_,rfl,rfl,h⟩|exact Zv pins s σ H _ _ v u Q I rx ry ⟨_,_,rfl,rfl,h⟩
  | Gt=>cases x <;> cases y <;> first|exact (show False from h).elim|exact b34 pins s σ H _ _ v u Q I rx ry ⟨_,_,rfl,rfl,h⟩
  | GtE=>cases x <;> cases y <;> first|exact (show False from h).elim|exact b33 pins s σ H _ _ v u Q I rx ry ⟨_,_,rfl,rfl,h⟩
  | In=>cases x <;> cases y <;> first|exact (show False from h).elim|exact h.elim (N9 pins s σ H _ _ v u Q I rx ry) (fun⟨o,g,q⟩=>by cases ry;exact ch8 (by omega) I g rx fun s' I'=>⟨.bl _,H,I',rfl,q⟩)|exact h.elim (N9 pins s σ H _ _ v u Q I rx ry) fun⟨kvs,g,q⟩=>by cases rx;cases ry;exact ci4 I g fun s' I'=>⟨.bl _,H,I',rfl,q⟩
  | NotIn=>cases x <;> cases y <;> first|exact (show False from h).elim|exact h.elim (Hr pins s σ H _ _ v u Q I rx ry) (fun⟨o,g,q⟩=>by cases ry;exact av7 (by omega) I g rx fun s' I'=>⟨.bl _,H,I',rfl,q⟩)|exact h.elim (Hr pins s σ H _ _ v u Q I rx ry) fun⟨kvs,g,q⟩=>by cases rx;cases ry;exact ay8 I g fun s' I'=>⟨.bl _,H,I',rfl,q⟩
  | Is=>cases y <;> first|exact (show False from h).elim|exact bj1 pins s σ H _ _ v u Q I rx ry ⟨rfl,h⟩|(cases x <;> first|exact (show False from h).elim|(cases rx;cases ry;exact is_bool ⟨.bl _,H,I,rfl,h⟩))
  | IsNot=>cases y <;> first|exact (show False from h).elim|exact az6 pins s σ H _ _ v u Q I rx ry ⟨rfl,h⟩|(cases x <;> first|exact (show False from h).elim|(cases rx;cases ry;exact isnot_bool ⟨.bl _,H,I,rfl,h⟩))
end
noncomputable def Tf:V->Hp->VK->Prop:=fun x H Q=>match x with
 | .int i=>Q (.int (-i)) H
 | _=>False
theorem cn0 {X:Cx}:UnR X (lK .USub) Tf:=by
 intro pins s σ H x v Q I rx h
 cases x <;> first|exact (show False from h).elim|exact bu2 pins s σ H _ v Q I rx ⟨_,rfl,h⟩
noncomputable def Oc:V->Hp->VK->Prop:=fun x H Q=>match x with
 | .int i=>Q (.int (be i)) H
 | _=>False
theorem bz9 {X:Cx}:UnR X (lK .Invert) Oc:=by
 intro pins s σ H x v Q I rx h
 cases x <;> first|exact (show False from h).elim|exact bu1 pins s σ H _ v Q I rx ⟨_,rfl,h⟩
theorem Yh {X:Cx}:bx1 X (as6 X.K):=by
 intro pins s σ H x v Q I rx h
 cases x with
 | non=>exact Mj pins s σ H _ v Q I rx ⟨_,rfl,h⟩
 | bl b=>exact Mj pins s σ H _ v Q I rx ⟨_,rfl,h⟩
 | int i=>exact Mj pins s σ H _ v Q I rx ⟨_,rfl,h⟩
 | str y=>exact Mj pins s σ H _ v Q I rx ⟨_,⟨h.1,rfl⟩,h.2⟩
 | ref p=>exact Mj pins s σ H _ v Q I rx h
 | _=>exact (show False from h).elim
inductive SqX (K:ae) (H:Hp) (p:Addr) (i:Int) (xs:List V):Prop where
 | inl (h:SqL K H p xs)
 | inr (h:SqT K H p xs)
 | dk (h:∀ v,atI xs i=some v->DGet H p (.int i) (some v))
noncomputable def Aq (K:ae):R2:=fun x y H Q=>match x,y with
 | .str z,.int i=>z.length<=sizeLine /\ ∃ c,atI z.cps.toList i=some c/\Q (.str ⟨#[c]⟩) H
 | .ref p,.int i=>∃ xs v,SqX K H p i xs/\atI xs i=some v/\Q v H
 | .ref p,.str k=>∃ v,DGet H p (.str k) (some v)/\Q v H
 | .ref p,.ref b=>∃ v,DGet H p (.ref b) (some v)/\Q v H
 | _,_=>False
theorem ci2 {X:Cx} (hu:X.A.units+64<cLine):IxR X (Aq X.K):=by
  intro value slice pins s σ H x y v u Q I rx ry h hs
  cases x <;> cases y <;> first
    | exact (show False from h).elim
    | (obtain⟨h1,c,h2,h3⟩:=h;exact bf6 value slice pins s σ H _ _ v u Q I rx ry ⟨_,_,c,rfl,rfl,h1,h2,h3⟩ hs)
    | (obtain⟨xs,w,h1|h1|h1,h2,h3⟩:=h
       . exact ax9 value slice pins s σ H _ _ v u Q I rx ry ⟨_,_,_,_,rfl,rfl,h1,h2,h3⟩ hs
       . exact bf7 value slice pins s σ H _ _ v u Q I rx ry ⟨_,_,_,_,rfl,rfl,h1,h2,h3⟩ hs
       . exact Xq hu value slice pins s σ H _ _ v u Q I rx ry ⟨_,w,rfl,h1 w h2,h3⟩ hs)
    | (obtain⟨w,h1,h2⟩:=h;exact Xq hu value slice pins s σ H _ _ v u Q I rx ry ⟨_,w,rfl,h1,h2⟩ hs)
noncomputable def a90:V->V->V->Hp->(Hp->Prop)->Prop:=fun o i v H N=>match o,i with
 | .ref p,.int k=>(∃ xs j,H p=some (.lst xs)/\ixN xs.length k=some j/\N (upd H p (.lst (xs.set j v)))) \/ ∃ H',DPut H p (.int k) v H'/\N H'
 | .ref p,i=>∃ H',DPut H p i v H'/\N H'
 | _,_=>False
theorem cb2 {X:Cx} (hu:X.A.units+64<cLine):bd6 X a90:=by
 intro pins s σ H o i v ov iv u Q I ro ri rv h
 cases o with
 | ref p=>
  have dp:∀ {H'},DPut H p i v H'->Q H'->aV (model X.prog X.w) X.A (setItem ov iv u) (fun _ s'=>∃ H',Inv X pins σ H' s'/\Q H') X.xe s:=fun {H'} g q=>by
   cases ro
   exact Yx (by omega) I g ri rv fun s' I'=>⟨H',I',q⟩
  cases i with
  | int k=>
   rcases h with ⟨xs,j,h1,h2,h3⟩|⟨H',g,q⟩
   ·exact aq3 pins s σ H _ _ v ov iv u Q I ro ri rv ⟨p,xs,k,j,rfl,rfl,h1,h2,h3⟩
   ·exact dp g q
  | _=>obtain⟨H',g,q⟩:=h;exact dp g q
 | _=>exact (show False from h).elim
noncomputable def Dw (K:ae) (f:Str):V->Hp->VK->Prop:=fun x H Q=>match x with
 | .ref a=>(∃ C dx fs v,H a=some (.ins C dx fs)/\Cls K C/\NoAttr K C f/\fs.lookup f=some v/\Q v H)\/False
 | _=>False
noncomputable def ap5 (K:ae) (f:Str):V->V->Hp->(Hp->Prop)->Prop:=fun x y H N=>match x with
 | .ref a=>(∃ C dx fs,H a=some (.ins C dx fs)/\Cls K C/\NoAttr K C f/\fs.length<1000/\N (upd H a (.ins C dx (Fy f y fs))))\/False
 | _=>False
section
variable {X:Cx} {pins:List (Addr×Obj)} {σ:St} {H:Hp} {s:al} {A:bj} {E:Value->al->Prop}
theorem by2 {f:Str} {x:V} {u:Value} {b:Bool} {Q:VK} (I:Inv X pins σ H s) (rx:RelV x u) (h:Dw X.K f x H Q):aV (model X.prog X.w) A (getAttr u f b) (EP X pins σ Q) E s:=by
 cases x with
 | ref a=>
  cases rx
  rcases h with ⟨C,dx,fs,v,ea,c,n,l,q⟩|h
  ·exact U0 I ea c n l fun u' s2 I2 ru=>⟨v,H,I2,ru,q⟩
  ·exact h.elim
 | _=>exact (show False from h).elim
theorem cb1 {f:Str} {x y:V} {u v:Value} {N:Hp->Prop} {Q:Unit->al->Prop} (I:Inv X pins σ H s) (rx:RelV x u) (ry:RelV y v) (h:ap5 X.K f x y H N) (hQ:∀ H' s',Inv X pins σ H' s'->N H'->Q () s') :
  aV (model X.prog X.w) A (setAttr u f v) Q E s:=by
 cases x with
 | ref a=>
  cases rx
  rcases h with ⟨C,dx,fs,ea,c,n,l,q⟩|h
  ·exact Wh I ea c n l ry fun s3 I3=>hQ _ _ I3 q
  ·exact h.elim
 | _=>exact (show False from h).elim
end
structure FI where
 f:Addr
 fd:aB
 ps:List Str
 k:Nat
 sp:Sp
 dfs:List V
 ds:List Value
structure MI where
 C:Addr
 i:FI
inductive GB where
 | fn (i:FI)
 | cls (C:Addr) (i:Option FI)
 | met (m:Str) (l:List MI)
 | val (v:V) (u:Value)
noncomputable def Dz:List (Str×GB)->Str->Option (List MI)
 | [],_=>none
 | (_,.met m l)::r,x=>if m=x then some l else Dz r x
 | _::r,x=>Dz r x
theorem Do:∀ {gb:List (Str×GB)} {x:Str} {l:List MI},Dz gb x=some l -> ∃ k,(k,GB.met x l)∈gb
 | (k,.met m l')::r,x,l,h=>by
  unfold Dz at h
  by_cases e:m=x
  ·rw [if_pos e] at h;cases h;subst e;exact⟨k,by simp⟩
  ·rw [if_neg e] at h;obtain⟨k,q⟩:=Do h;exact⟨k,ar _ q⟩
 | (_,.fn _)::r,x,l,h=>by unfold Dz at h;obtain⟨k,q⟩:=Do h;exact⟨k,ar _ q⟩
 | (_,.cls _ _)::r,x,l,h=>by unfold Dz at h;obtain⟨k,q⟩:=Do h;exact⟨k,ar _ q⟩
 | (_,.val _ _)::r,x,l,h=>by unfold Dz at h;obtain⟨k,q⟩:=Do h;exact⟨k,ar _ q⟩
structure Sg where
 K:ae
 N:List Str
 sc:List (Str×cw)
 gb:List (Str×GB)
 bl:List Str
 top:Bool
 calm:Bool
noncomputable def Ei:List Str->Str->Nat->Option Nat
 | [],_,_=>none
 | y::r,x,i=>if y=x then some i else Ei r x (i+1)
theorem Oe:∀ {N:List Str} {x:Str} {i j:Nat},Ei N x j=some i->j<=i/\N[i - j]? = some x
 | [],_,_,_,h=>by cases h
 | y::r,x,i,j,h=>by
  unfold Ei at h
  by_cases e:y=x
  ·rw [if_pos e] at h
   cases h
   refine⟨ak _,?_⟩
   rw [eo,e]
   rfl
  ·rw [if_neg e] at h
   obtain⟨h1,h2⟩:=Oe h
   refine⟨by omega,?_⟩
   have:i - j=(i - (j+1))+1:=by omega
   rw [this,bZ]
   exact h2
theorem F2 {N:List Str} {x:Str} {i:Nat} (h:Ei N x 0=some i):N[i]? = some x:=(Oe h).2
noncomputable def E0 (x:Str):Bool:=!(x==("__debug__" : Str)) && !(x==("__classdict__" : Str)) && !(x==("__name__" : Str))
noncomputable def Pk (G:Sg) (x:Str):Bool:=(G.sc.lookup x==some .globalImplicit)&&E0 x
noncomputable def W2 (x:Str):Option String:=
 if x = "int" then some "int" else if x = "bool" then some "bool" else if x = "str" then some "str" else if x = "list" then some "list" else if x = "tuple" then some "tuple" else if x = "dict" then some "dict" else if x = "ValueError" then some "ValueError" else none
theorem av4:dj "ValueError" = some (.type "ValueError"):=by decide +kernel
theorem aa6 {x:Str} {T:String} (h:W2 x=some T):dj x=some (.type T):=by
 unfold W2 at h
 by_cases e1:x = "int"
 ·rw [if_pos e1] at h;cases h;rw [e1];exact jv
 rw [if_neg e1] at h
 by_cases e2:x = "bool"
 ·rw [if_pos e2] at h;cases h;rw [e2];exact PyProof.Rows.boot_bool
 rw [if_neg e2] at h
 by_cases e3:x = "str"
 ·rw [if_pos e3] at h;cases h;rw [e3];exact PyProof.Rows.boot_str
 rw [if_neg e3] at h
 by_cases e4:x = "list"
 ·rw [if_pos e4] at h;cases h;rw [e4];exact fO
 rw [if_neg e4] at h
 by_cases e5:x = "tuple"
 ·rw [if_pos e5] at h;cases h;rw [e5];exact iE
 rw [if_neg e5] at h
 by_cases e6:x = "dict"
 ·rw [if_pos e6] at h;cases h;rw [e6];exact PyProof.Rows.boot_dict
 rw [if_neg e6] at h
 by_cases e7:x = "ValueError"
 ·rw [if_pos e7] at h;cases h;rw [e7];exact av4
 rw [if_neg e7] at h
 cases h
noncomputable def W4 (CX:CXT) (X:Cx):Prop:=∀ Ex,Meets X Ex -> ∀ (pins:List (Addr×Obj)) (σ:St) (H:Hp) (s:al) (e:Value) (s':al),Inv X pins σ H s->CX X.stack H s (fun v _ H'=>∃ a,v=.ref a/\Ex σ a H') e s'->X.xe e s'
structure Hz (X:Cx) (i:FI):Prop where
 kp:bu X.K (.ref i.f)=true
 ok:∃ CX,(∀ X':Cx,X'.prog=X.prog->X'.w=X.w->W4 CX X')/\FnOk X.prog X.w X.K X.mg X.base CX i.k i.f i.fd i.ps i.sp
 room:Room i.k X.A
 binds:∀ j,j<=i.dfs.length->Binds X.K i.fd i.ps (i.ds.drop j)
 vals:Vals i.dfs i.ds
noncomputable def ab1 (X:Cx) (C:Addr):Option FI->Prop
 | none=>cI X.K C=true/\aP X.K (.ref C) "__init__" = some (some (.builtin "object.__init__"))
 | some i=>cI X.K C=true/\aP X.K (.ref C) "__init__" = some (some (.ref i.f))/\dz X.K (.ref i.f)=true/\Hz X i/\Room (i.k+1) X.A
noncomputable def GBOk (X:Cx) (x:Str):GB->Prop
 | .fn i=>X.mg x=some (.ref i.f)/\Hz X i
 | .val v u=>X.mg x=some u/\RelV v u
 | .cls C oi=>X.mg x=some (.ref C)/\bu X.K (.ref C)=true/\ab1 X C oi
 | .met m l=>∀ mi∈l,Cls X.K mi.C/\G3 X.K mi.C m mi.i.f/\Hz X mi.i
theorem GBOk.to {X X':Cx} (hm:X'.mg=X.mg) (hK:X'.K=X.K) (hP:X'.prog=X.prog) (hw:X'.w=X.w) (hA:∀ k,Room k X.A->Room k X'.A) (hf:∀ i,Hz X i->Hz X' i) {x:Str} {g:GB} (h:GBOk X x g):GBOk X' x g:=by
 cases g with
 | fn i=>exact⟨hm▸h.1,hf i h.2⟩
 | val v u=>exact⟨hm▸h.1,h.2⟩
 | cls C oi=>
  obtain⟨a,b,d⟩:=h
  refine⟨hm▸a,hK▸b,?_⟩
  cases oi with
  | none=>unfold ab1 at d ⊢;rw [hK];exact d
  | some i=>obtain⟨d1,d2,d3,d4,d5⟩:=d;exact⟨hK▸d1,hK▸d2,hK▸d3,hf i d4,hA _ d5⟩
 | met m l=>exact fun mi hi=>⟨hK▸(h mi hi).1,hK▸(h mi hi).2.1,hf _ (h mi hi).2.2⟩
noncomputable def FrH (X:Cx):Prop:=∃ (e0:Env) (o0:List Env) (L:Addr),X.stack=e0::o0/\e0.frame=some L/\X.env.frame=some L
structure GOk (X:Cx) (G:Sg):Prop where
 K:X.K=G.K
 kind:X.env.scope.kind=.function
 own:G.top=true->ku (model X.prog X.w) X.A X.env X.xe
 N:X.N=G.N
 nd:G.N.Nodup
 sc:∀ x,X.env.scope.names.lookup x=G.sc.lookup x
 vis:∀ x∈G.N,Vis X.env.scope x
 top:G.top=true -> ∀ x,X.fn x=true
 calm:G.calm=X.calm
 hd:X.calm=true->X.A.handled=none
 units:X.A.units+64<cLine
 cel:∀ x,(X.env.scope.names.lookup x=some .cell\/X.env.scope.names.lookup x=some .free) -> ∃ c,X.env.cells.lookup x=some c
 gb:∀ x g,(x,g)∈G.gb->GBOk X x g
 bl:∀ x,G.bl.contains x=true->X.mg x=none
 frm:G.top=true->X.stack=X.env::X.outer/\X.env.frame=some X.env.locals
 fr:FrH X
section
variable {X:Cx} {G:Sg}
theorem GOk.at_ (O:GOk X G) (x:Str) (g:GB) (e:G.gb.lookup x=some g):GBOk X x g:=O.gb x g (cb e)
theorem GOk.met (O:GOk X G) (m:Str) (l:List MI) (e:Dz G.gb m=some l):∀ mi∈l,Cls X.K mi.C/\G3 X.K mi.C m mi.i.f/\Hz X mi.i:=by
 obtain⟨x,hx⟩:=Do e
 exact O.gb x _ hx
theorem GOk.gl (O:GOk X G) {x:Str} (h:Pk G x=true):Gl X x:=by
 unfold Pk at h
 rw [aA] at h
 have:=cJ h.1
 unfold Gl
 show X.env.scope.names.lookup x=_
 rw [O.sc x]
 exact this
theorem P1 {x:Str} (h:E0 x=true):(x==("__debug__" : Str))=false/\(x==("__classdict__" : Str))=false/\x ≠ "__name__" := by
 unfold E0 at h
 simp only [aA,ez] at h
 exact⟨h.1.1,h.1.2,fun e=>by rw [e] at h;simp at h⟩
theorem aj8 {x:Str} (h:Pk G x=true):(x==("__debug__" : Str))=false/\(x==("__classdict__" : Str))=false/\x ≠ "__name__" := by
 unfold Pk at h
 rw [aA] at h
 exact P1 h.2
noncomputable def at6 (G:Sg) (x:Str):DE:=
 match Ei G.N x 0 with
 | some i=>if E0 x=true then Aa i else dNo
 | none=>if Pk G x=true then (match G.gb.lookup x with
   | some (.val v _)=>dC v
   | some (.cls C _)=>dC (.ref C)
   | some _=>dNo
   | none=>if G.bl.contains x=true then (match W2 x with
    | some T=>dC (.ty T)
    | none=>dNo) else dNo) else dNo
theorem Bu {e:Expr}:QE X e dNo:=fun _ _ _ _ _ _ _ _ h=>h.elim
theorem bn3 {i:Nat} {x:Str} {pos:Pos} (hN:X.N[i]? = some x) (hv:Vis X.env.scope x) (hp:E0 x=true):QE X (.Name x pos) (Aa i):=by
 intro Ex _ pins s σ H Q I h
 unfold Aa at h
 split at h
 ·rename_i v e
  exact bk8 hN hv (P1 hp).1 (P1 hp).2.1 pins s σ H Q I ⟨v,e,h⟩
 ·exact h.elim
theorem a22 (O:GOk X G) (x:Str) (pos:Pos):QE X (.Name x pos) (at6 G x):=by
 unfold at6
 split
 ·rename_i i e
  split
  ·rename_i hp
   have hi:=F2 e
   exact bn3 (by rw [O.N];exact hi) (O.vis x (af hi)) hp
  ·exact Bu
 ·split
  ·rename_i hg
   have dd:=aj8 hg
   split
   ·rename_i v u e
    obtain⟨h1,h2⟩:=O.at_ x _ e
    exact fun _ _=>Xz (O.gl hg) h1 h2 dd.1
   ·rename_i C oi e
    exact fun _ _=>Xz (v:=.ref C) (O.gl hg) (O.at_ x _ e).1 rfl dd.1
   ·exact Bu
   ·split
    ·rename_i hb
     split
     ·rename_i T e
      exact fun _ _=>az8 (O.gl hg) (O.bl x hb) (aa6 e) rfl dd.2.2 dd.1
     ·exact Bu
    ·exact Bu
  ·exact Bu
noncomputable def at4:Const->DE
 | .int i=>dC (.int i)
 | .bool b=>dC (.bl b)
 | .none=>dC .non
 | .str x=>dC (.str x)
 | _=>dNo
theorem ao3 (c:Const) (j:Nat) (pos:Pos):QE X (.Constant c j pos) (at4 c):=by
 cases c with
 | int i=>exact fun _ _=>bk2
 | bool b=>exact fun _ _=>b40
 | none=>exact fun _ _=>bk4
 | str x=>exact fun _ _=>bk6
 | _=>exact Bu
variable {a b c:Expr} {da db dc:DE} {ta tb:DT} {es:List Expr} {r:DA} {pos:Pos}
theorem bm0 (op:lF) (ha:QE X a da) (hb:QE X b db):QE X (.BinOp a op b pos) (Ae (rOp X.K op) da db):=fun Ex m=>b42 (ci5 op) (ha Ex m) (hb Ex m)
theorem bm8 (ha:QE X a da):QE X (.UnaryOp .USub a pos) (dUn Tf da):=fun Ex m=>a85 cn0 (ha Ex m)
theorem bm4 (ha:QE X a da):QE X (.UnaryOp .Invert a pos) (dUn Oc da):=fun Ex m=>a85 bz9 (ha Ex m)
theorem bm2 (hu:X.A.units+64<cLine) (op:lC) (ha:QE X a da) (hb:QE X b db) (hm:iJ op b=false):QE X (.Compare a [op] [b] pos) (Ae (M1 X.K op) da db):=fun Ex m=>az9 (Nc hu op) (ha Ex m) (hb Ex m) hm
theorem bo1 (hu:X.A.units+64<cLine) (op:lC) (ha:QE X a da) (hb:QE X b db) (hm:iJ op b=false):QT X (.Compare a [op] [b] pos) (Az (Ae (M1 X.K op) da db)):=by
 intro Ex m pins s σ H Q I h
 refine wpAny_isTrue_Compare1 (thn (ha Ex m pins s σ H _ I h) fun v s1 ⟨x,H1,I1,r1,q1⟩=>thn (hb Ex m pins s1 σ H1 _ I1 q1) fun u s2 ⟨y,H2,I2,r2,q2⟩=>
  thn (Nc hu op pins s2 σ H2 x y v u _ I2 r1 r2 q2) fun c s3 ⟨z,H3,I3,r3,q3⟩=>?_) hm
 cases z with
 | bl k=>cases r3;exact dI ⟨H3,I3,q3⟩
 | _=>exact (show False from q3).elim
theorem ao2 (hu:X.A.units+64<cLine) (op op':lC) (ha:QE X a da) (hb:QE X b db) (hc:QE X c dc) (hm:lastMarks [op,op'] [b,c]=false) :
  QE X (.Compare a [op,op'] [b,c] pos) (Ep (M1 X.K op) (M1 X.K op') da db dc):=by
 intro Ex m pins s σ H Q I h
 refine Compare_chain (thn (ha Ex m pins s σ H _ I h) fun v s1 ⟨x,H1,I1,r1,q1⟩=>chain_link (thn (hb Ex m pins s1 σ H1 _ I1 q1) fun u s2 ⟨y,H2,I2,r2,q2⟩=>
  thn (Nc hu op pins s2 σ H2 x y v u _ I2 r1 r2 q2) fun d s3 ⟨z,H3,I3,r3,q3⟩=>?_)) hm
 cases z with
 | bl k=>
  cases r3
  refine dI ?_
  cases k with
  | false=>exact ite_ff ⟨.bl false,H3,I3,rfl,q3⟩
  | true=>exact ite_tt (chain_last (thn (hc Ex m pins s3 σ H3 _ I3 q3) fun w' s4 ⟨z',H4,I4,r4,q4⟩=>Nc hu op' pins s4 σ H4 y z' u w' Q I4 r2 r4 q4))
 | _=>exact (show False from q3).elim
theorem ap0 (hu:X.A.units+64<cLine) (op op':lC) (ha:QE X a da) (hb:QE X b db) (hc:QE X c dc) (hm:lastMarks [op,op'] [b,c]=false) :
  QT X (.Compare a [op,op'] [b,c] pos) (Az (Ep (M1 X.K op) (M1 X.K op') da db dc)):=by
 intro Ex m pins s σ H Q I h
 refine isTrue_chain (thn (ha Ex m pins s σ H _ I h) fun v s1 ⟨x,H1,I1,r1,q1⟩=>test_link (thn (hb Ex m pins s1 σ H1 _ I1 q1) fun u s2 ⟨y,H2,I2,r2,q2⟩=>
  thn (Nc hu op pins s2 σ H2 x y v u _ I2 r1 r2 q2) fun d s3 ⟨z,H3,I3,r3,q3⟩=>?_)) hm
 cases z with
 | bl k=>
  cases r3
  refine dI ?_
  cases k with
  | false=>exact ite_ff ⟨H3,I3,q3⟩
  | true=>
   refine ite_tt (test_last (thn (hc Ex m pins s3 σ H3 _ I3 q3) fun w' s4 ⟨z',H4,I4,r4,q4⟩=>thn (Nc hu op' pins s4 σ H4 y z' u w' _ I4 r2 r4 q4) fun d' s5 ⟨z2,H5,I5,r5,q5⟩=>?_))
   cases z2 with
   | bl k2=>cases r5;exact dI ⟨H5,I5,q5⟩
   | _=>exact (show False from q5).elim
 | _=>exact (show False from q3).elim
noncomputable def an4:Expr->Bool
 | .UnaryOp .Not _ _=>false
 | .BoolOp _ _ _=>false
 | .IfExp _ _ _ _=>false
 | .Compare _ _ _ _=>false
 | _=>true
theorem Zy {e:Expr} (h:an4 e=true) (whole:Sem Value):isTrue e X.env whole=(do let v <- whole;standAt e.pos;lh [v] (truthy v)):=by
 cases e with
 | UnaryOp op _ _=>cases op <;> first|rfl|cases h
 | BoolOp _ _ _=>cases h
 | IfExp _ _ _ _=>cases h
 | Compare _ _ _ _=>cases h
 | _=>rfl
theorem bo3 (ha:QE X a da) (h:an4 a=true):QT X a (Dy X.K da):=by
 intro Ex m pins s σ H Q I hw
 exact isTrue_plain (thn (ha Ex m pins s σ H _ I hw) fun v s1 ⟨x,H1,I1,r1,q1⟩=>Yh pins s1 σ H1 x v Q I1 r1 q1) (Zy h _)
theorem bo2 (ha:QT X a ta):QT X (.UnaryOp .Not a pos) (D6 ta):=fun Ex m=>bl5 (ha Ex m)
theorem a32 (ha:QT X a ta):QW X (.BoolOp .And [a] pos) ta:=fun Ex m=>a09 (ha Ex m)
theorem bo5 (ha:QT X a ta):QW X (.BoolOp .Or [a] pos) ta:=fun Ex m=>bl7 (ha Ex m)
theorem bo4 (ha:QT X a ta) (hb:QW X (.BoolOp .And (b::es) pos) tb):QW X (.BoolOp .And (a::b::es) pos) (Mw ta tb):=fun Ex m=>bl6 (ha Ex m) (hb Ex m)
theorem b52 (ha:QT X a ta) (hb:QW X (.BoolOp .Or (b::es) pos) tb):QW X (.BoolOp .Or (a::b::es) pos) (dOr ta tb):=fun Ex m=>b46 (ha Ex m) (hb Ex m)
theorem bn0 {op:BoolOp} (ha:QE X a da):QE X (.BoolOp op [a] pos) da:=fun Ex m=>bk5 (ha Ex m)
theorem bl9 (ha:QE X a da) (hb:QE X (.BoolOp .And (b::es) pos) db):QE X (.BoolOp .And (a::b::es) pos) (Ng X.K da db):=by
 intro Ex m pins s σ H Q I h
 refine BoolOp_and (thn (ha Ex m pins s σ H _ I h) fun v s1 ⟨x,H1,I1,r1,q1⟩=>thn (Yh pins s1 σ H1 x v _ I1 r1 q1) fun k s2 ⟨H2,I2,q2⟩=>?_)
 cases k with
 | true=>exact hb Ex m pins s2 σ H2 Q I2 q2
 | false=>exact⟨x,H2,I2,r1,q2⟩
theorem b50 (ha:QE X a da) (hb:QE X (.BoolOp .Or (b::es) pos) db):QE X (.BoolOp .Or (a::b::es) pos) (bx6 X.K da db):=by
 intro Ex m pins s σ H Q I h
 refine BoolOp_or (thn (ha Ex m pins s σ H _ I h) fun v s1 ⟨x,H1,I1,r1,q1⟩=>thn (Yh pins s1 σ H1 x v _ I1 r1 q1) fun k s2 ⟨H2,I2,q2⟩=>?_)
 cases k with
 | false=>exact hb Ex m pins s2 σ H2 Q I2 q2
 | true=>exact⟨x,H2,I2,r1,q2⟩
theorem bm9 (ha:QE X a da):QE X (.UnaryOp .Not a pos) (a51 X.K da):=by
 intro Ex m pins s σ H Q I h
 refine UnaryOp_ (thn (ha Ex m pins s σ H _ I h) fun v s1 ⟨x,H1,I1,r1,q1⟩=>not_of (thn (Yh pins s1 σ H1 x v _ I1 r1 q1) fun k s2 ⟨H2,I2,q2⟩=>?_))
 exact⟨.bl (!k),H2,I2,rfl,q2⟩
theorem b47 {t:Expr} (ht:QT X t ta) (ha:QE X a da) (hb:QE X b db):QE X (.IfExp t a b pos) (bx5 ta da db):=fun Ex m=>am8 (ht Ex m) (ha Ex m) (hb Ex m)
noncomputable def Bm:Expr->Bool
 | .Starred _ _=>false
 | _=>true
theorem Bn {e:Expr} (h:Bm e=true) (es:List Expr) (env:Env):cW (e::es) env=(false,eval e env)::cW es env:=by
 cases e with
 | Starred _ _=>cases h
 | _=>rfl
theorem Bz {es:List Expr} (h:es.all Bm=true) (env:Env) (pos:Pos):(iT pos (cW es env)).any (·.1)=false:=by
 induction es with
 | nil=>rfl
 | cons e es ih=>
  rw [bt,aA] at h
  rw [Bn h.1]
  show (false||(iT pos (cW es env)).any (·.1))=false
  rw [ih h.2]
  rfl
theorem Jo {es:List Expr} (h:es.all Bm=true) (env:Env) (pos:Pos):(iT pos (cW es env)).all (fun x=>!x.1)=true:=by
 induction es with
 | nil=>rfl
 | cons e es ih=>
  rw [bt,aA] at h
  rw [Bn h.1]
  show (true&&(iT pos (cW es env)).all (fun x=>!x.1))=true
  rw [ih h.2]
  rfl
theorem bl8:QA X [] Ai:=fun _ _=>bk1
theorem a11 (ha:QE X a da) (hr:QA X es r) (hs:Bm a=true):QA X (a::es) (Ac da r):=fun Ex m=>az7 (ha Ex m) (hr Ex m) (Bn hs es X.env)
theorem bn2 {k:Nat} (h:QA X es r):QE X (.Tuple es k pos) (Fj r):=fun Ex m=>bk7 (h Ex m)
theorem bm5 (h:QA X es r):QE X (.List es pos) (Bl r):=fun Ex m=>bk3 (h Ex m)
noncomputable def Hn:Expr->Bool
 | .Slice _ _ _ _=>false
 | _=>true
theorem Ve {e:Expr} (h:Hn e=true):W5 e:=by
 intro o i
 cases e with
 | Slice _ _ _ _=>cases h
 | _=>rfl
theorem b48 (hu:X.A.units+64<cLine) (ha:QE X a da) (hb:QE X b db) (h:Hn b=true):QE X (.Subscript a b pos) (Ae (Aq X.K) da db):=fun Ex m=>b41 (ci2 hu) (ha Ex m) (hb Ex m) (Ve h)
theorem a14 {f:Str} (ha:QE X a da) (h:iI a f X.env (eval a X.env)=eval a X.env):QE X (.Attribute a f pos) (dUn (Dw X.K f) da):=by
 intro Ex m pins s σ H Q I hw
 exact av1 h (thn (ha Ex m pins s σ H _ I hw) fun u s1 ⟨x,H1,I1,rx,q⟩=>by2 I1 rx q)
end
end L2
namespace PySem.SeqAt
open AutoSeq1 (wpAny_loadPart')
open MeetsSeq MeetsSeq2 MeetsSeq3
theorem Zm (l b:Addr) (items items2:Array Value) (n n2:Nat) (dd dd2:Option Addr) (sl sl2:Array (Option Value)) (e:Nat->Bool) (lt:Nat->Bool) (k:Nat) :
  ∀ i:Nat,items.size - i=k->Meets (ay.«list.__eq__.loop» ⟨[.ref l,.ref b,fQ i,fQ 0],[]⟩)
   (fun A R s=>s.heap.get? l=some { cls:=.type "list", dict:=dd,data:=.seq items n,slots:=sl }/\s.heap.get? b=some { cls:=.type "list", dict:=dd2,data:=.seq items2 n2,slots:=sl2 } /\
    (∀ j (h1:j<items.size) (h2:j<items2.size),EqAt A.in1 s items[j] items2[j] (e j)) /\
    (∀ j (h1:j<items.size) (h2:j<items2.size),∀ (prog:aW) (w:bE) (E:Value->al->Prop) (Q:Value->al->Prop),Q (.bool (lt j)) s->aV (model prog w) A.in1 (j_ .Lt items[j] items2[j]) Q E s) /\
    R (.ok (.ret (.bool (match ((aw (min items.size items2.size)).drop i).find? (fun j=>!e j) with|some j=>lt j|none=>decide (items.size<items2.size))))) s):=by
 induction k with
 | zero=>
  intro i hk prog w A R s h
  obtain⟨hp,g,d,tk,os⟩:=s;obtain⟨hl,hb,he,hr,h⟩:=h
  wp_walk using bV hl,bV hb
  have hi1:items[((i:Nat):Int).toNat]? = none:=by simp;omega
  have hd:(aw (min items.size items2.size)).drop i=[]:=by simp;omega
  rw [hd] at h
  rw [hi1]
  wp_walk using bV hl,bV hb
  exact h
 | succ k ih=>
  intro i hk prog w A R s h
  obtain⟨hp,g,d,tk,os⟩:=s;obtain⟨hl,hb,he,hr,h⟩:=h
  wp_walk using bV hl,bV hb
  have hlt:i<items.size:=by omega
  have hi1:items[((i:Nat):Int).toNat]? = some items[i]:=by simp [hlt]
  by_cases hlt2:i<items2.size
  ·have hi2:items2[((i:Nat):Int).toNat]? = some items2[i]:=by simp [hlt2]
   have hm:i<min items.size items2.size:=by omega
   have hd:(aw (min items.size items2.size)).drop i=i::(aw (min items.size items2.size)).drop (i+1):=by rw [List.drop_eq_getElem_cons (by simpa using hm)];simp
   have hc:((i:Int)+1)=((i+1:Nat):Int):=by push_cast;rfl
   rw [hd,bD] at h
   rw [hi1,hi2]
   refine ag (he i hlt hlt2 prog w _ _ ?_)
   cases hb':e i with
   | true=>
    rw [hb'] at h
    wp_walk
    rw [hc]
    exact⟨fH iK _,dH entry_eq_loop (by
     rw [c7 iK _]
     exact ih (i+1) (by omega) prog w A R _ ⟨hl,hb,he,hr,h⟩)⟩
   | false=>
    rw [hb'] at h
    wp_walk using bV hl,bV hb
    rw [hi1,hi2]
    refine ag (hr i hlt hlt2 prog w _ _ ?_)
    wp_walk
    exact h
  ·have hi2:items2[((i:Nat):Int).toNat]? = none:=by simp;omega
   have hd:(aw (min items.size items2.size)).drop i=[]:=by simp;omega
   rw [hd] at h
   rw [hi1,hi2]
   wp_walk using bV hl,bV hb
   exact h
theorem Zl (l b:Addr) (items items2:Array Value) (n n2:Nat) (dd dd2:Option Addr) (sl sl2:Array (Option Value)) (e lt:Nat->Bool) :
  Meets (ay.«list.__lt__» ⟨[.ref l,.ref b],[]⟩)
   (fun A R s=>s.heap.get? l=some { cls:=.type "list", dict:=dd,data:=.seq items n,slots:=sl }/\s.heap.get? b=some { cls:=.type "list", dict:=dd2,data:=.seq items2 n2,slots:=sl2 } /\
    (∀ j (h1:j<items.size) (h2:j<items2.size),EqAt A.in1 s items[j] items2[j] (e j)) /\
    (∀ j (h1:j<items.size) (h2:j<items2.size),∀ (prog:aW) (w:bE) (E:Value->al->Prop) (Q:Value->al->Prop),Q (.bool (lt j)) s->aV (model prog w) A.in1 (j_ .Lt items[j] items2[j]) Q E s) /\
    R (.ok (.ret (.bool (match (aw (min items.size items2.size)).find? (fun j=>!e j) with|some j=>lt j|none=>decide (items.size<items2.size))))) s):=by
 intro prog w A R s h
 obtain⟨hp,g,d,tk,os⟩:=s;obtain⟨hl,hb,he,hr,h⟩:=h
 have f3:=AutoSeq1.sub_list_list
 wp_walk using bV hl,bV hb
 exact⟨fH iK _,dH entry_eq_loop (by
  rw [c7 iK _]
  exact Zm l b items items2 n n2 dd dd2 sl sl2 e lt _ 0 rfl prog w A R _ ⟨hl,hb,he,hr,by simpa using h⟩)⟩
theorem lt_lists {A:bj} {s:al} {l b:Addr} {items items2:Array Value} {e lt:Nat->Bool} (hl:s.heap.IsList l items) (hb:s.heap.IsList b items2) (hu:A.units<cLine)
  (he:∀ j (h1:j<items.size) (h2:j<items2.size),EqAt A.in1 s items[j] items2[j] (e j))
  (hr:∀ j (h1:j<items.size) (h2:j<items2.size),∀ (prog:aW) (w:bE) (E:Value->al->Prop) (Q:Value->al->Prop),Q (.bool (lt j)) s->aV (model prog w) A.in1 (j_ .Lt items[j] items2[j]) Q E s)
  {prog:aW} {w:bE} {E:Value->al->Prop} {Q:Value->al->Prop} (h:Q (.bool (match (aw (min items.size items2.size)).find? (fun j=>!e j) with|some j=>lt j|none=>decide (items.size<items2.size))) s) :
  aV (model prog w) A (j_ .Lt (.ref l) (.ref b)) Q E s:=by
 obtain⟨⟨cls,dd,data,sl⟩,ho,hc,n,hd⟩:=id hl
 obtain⟨⟨cls2,dd2,data2,sl2⟩,ho2,hc2,n2,hd2⟩:=id hb
 simp only at hc hd hc2 hd2
 subst hc hd hc2 hd2
 exact richCompare_meets_room (op:=.Lt) ⟨_,ho,rfl⟩ ⟨_,ho2,rfl⟩ F.slot_list_lt F.entry_list_lt (F.args_list_lt_2 _ _) (Zl l b items items2 n n2 dd dd2 sl sl2 e lt)
  ⟨ho,ho2,he,hr,⟨(fun x=>nomatch x),h⟩⟩ hu
end PySem.SeqAt
namespace PySem.W
open PySem PySem.Calls PyProof.Rows
noncomputable def kRun {α:Type} (n:Nat) (lt:Nat->Nat->Bool):KasT α->Option α
 | .ret a=>some a
 | .ask i j k=>if i<n/\j<n then kRun n lt (k (lt i j)) else none
theorem kRun_wp {α:Type} {n:Nat} {lt:Nat->Nat->Bool} {cmp:Nat->Nat->(Bool->al->Prop)->al->Prop} {G:α->al->Prop} {s:al} (h:∀ i j C,i<n->j<n->C (lt i j) s->cmp i j C s) :
  ∀ {t:KasT α} {a:α},kRun n lt t=some a->G a s->t.kasWp cmp G s
 | .ret b,a,e,g=>by
  have:b=a:=aE e
  subst this
  exact g
 | .ask i j k,a,e,g=>by
  unfold kRun at e
  split at e
  ·rename_i hij
   exact h i j _ hij.1 hij.2 (kRun_wp h e g)
  ·cases e
section
variable {prog:aW} {w:bE} {A:bj} {E:Value->al->Prop} {s:al} {vs:List Value}
noncomputable def SoFin (a:Addr) (e:Nat) (out:List Value) (C:al->Prop) (s:al):Prop:=
 s.heap.get? a=some (fg "list" #[] e) /\ ∀ h' c,h'.get? a=some (fg "list" (gd out) c)->bq a s.heap h'->C { s with heap:=h' }
theorem SoFin.mono {a:Addr} {e:Nat} {out:List Value} {C C':al->Prop} (h:SoFin a e out C s) (hc:∀ s,C s->C' s):SoFin a e out C' s:=⟨h.1,fun h' c x y=>hc _ (h.2 h' c x y)⟩
theorem Qf {n:Nat} {a:Addr} {P:PySem.Fin->al->Prop} (ho:s.heap.get? a=some (fg "list" vs.toArray n)) (h2:2<=vs.length) (h64:vs.length<64)
  (h:∀ e1 h',h'.get? a=some (fg "list" #[] e1)->(∀ b o,b≠a->s.heap.get? b=some o->h'.get? b=some o) ->
   aV (model prog w) A (keyKind' vs.toArray) (fun κ s'=>(kas_sort vs.length).kasWp (kas_ask prog w A κ vs) (fun p s''=>SoFin a e1 (p.toList.map fun i=>vs.getD i bz) (fun s3=>P (.done (.ret .none)) s3) s'') s') (fun _ _=>False) { s with heap:=h' }) :
  aV (model prog w) A (ay.«list.sort» ⟨[.ref a],[]⟩) P E s:=by
 have ha:a<s.heap.objs.size:=aN ho
 have s1:=cz s.heap a (bY fun _=>(#[]:Array Value))
 obtain⟨e1,ho1⟩:∃ e1,(s.heap.update a (bY fun _=>(#[]:Array Value))).get? a=some (fg "list" #[] e1):=⟨_,get?_update_seq ho fun _=>#[]⟩
 have ask:=h e1 (((s.heap.update a (bY fun _=>(#[]:Array Value))).push (fg "tuple" vs.toArray 0)).push (fg "list" #[] 0)) (aj _ (aj _ ho1))
  (fun b o nb e=>aj _ (aj _ ((s1.2 b nb).trans e)))
 rw [list_sort_plain]
 refine ag (listItems_at ho rfl ?_)
 refine ag (listUpdate_at ho rfl ?_ (by rw [av,c5];omega) (bR _))
 refine ag (seqEpoch_at ho1 rfl ?_)
 refine ag (jR ?_ (by show vs.length<=_;rw [c5];omega))
 refine ag (wpAny_newList ?_ (bR _))
 refine bO ?_
 show aV (model prog w) A _ P E { s with heap:=((s.heap.update a (bY fun _=>(#[]:Array Value))).push (fg "tuple" vs.toArray 0)).push (fg "list" #[] 0) }
 dsimp only
 have hn2:¬ vs.toArray.size<2:=by rw [av];omega
 rw [if_neg hn2,if_neg hn2]
 refine ag (dn ask (fun κ s0 hk=>?_) fun _ _ x=>x.elim)
 refine ag (dn (kat_run (Q:=fun st' s'=>∃ p:Array Nat,p.size=vs.length/\arrOf st'=p.map (kas_item (vs.toArray.zip vs.toArray))/\failedOf st'=none/\SoFin a e1 (p.toList.map fun i=>vs.getD i bz) (fun s''=>P (.done (.ret .none)) s'') s')
  rfl h2 h64 (fun p' st' s' a1 a2 a3 a4=>⟨p',a1,a2,a3,a4⟩) hk) ?_ fun _ _ e=>e)
 rintro⟨⟨⟩,st'⟩ s' ⟨p,hp,har,hf,na,k⟩
 dsimp only
 have hout:=kat_snds rfl har
 have hsz:(gd (p.toList.map fun i=>vs.getD i bz)).size=vs.length:=by rw [av,ac,dJ,hp]
 rw [hout]
 have s2:=cz s'.heap a (bY fun _=>gd (p.toList.map fun i=>vs.getD i bz))
 obtain⟨c2,hc2⟩:∃ c2,(s'.heap.update a (bY fun _=>gd (p.toList.map fun i=>vs.getD i bz))).get? a=some (fg "list" (gd (p.toList.map fun i=>vs.getD i bz)) c2):=⟨_,get?_update_seq na fun _=>gd (p.toList.map fun i=>vs.getD i bz)⟩
 refine ag (seqEpoch_at na rfl ?_)
 refine ag (listUpdate_at na rfl ?_ (bR _) (ax (jr hsz) (by rw [c5];omega)))
 rw [hf]
 simp only [bne_self_eq_false,cU,if_false]
 exact ao (k _ c2 hc2 s2)
theorem so_sorted {l:Addr} {Q:Value->al->Prop} (hl:s.heap.IsList l vs.toArray) (h2:2<=vs.length) (h64:vs.length<64)
  (h:∀ D e1 h',s.heap.objs.size<=D->h'.get? D=some (fg "list" #[] e1)->(∀ b o,s.heap.get? b=some o->h'.get? b=some o) ->
   aV (model prog w) A.in1.in1 (keyKind' vs.toArray) (fun κ s'=>(kas_sort vs.length).kasWp (kas_ask prog w A.in1.in1 κ vs) (fun p s''=>SoFin D e1 (p.toList.map fun i=>vs.getD i bz) (fun s3=>Q (.ref D) s3) s'') s') (fun _ _=>False) { s with heap:=h' }) :
  aV (model prog w) A (call (.builtin "sorted") [.ref l]) Q E s:=by
 refine Calls.call_function_entry kind_sorted plain_sorted entry_sorted (args_sorted1 _) ?_
 unfold ay.«sorted»
 refine ag (m:=checkCount "sorted" 1 1 _) (ao ?_)
 refine ag (collect_list hl ?_ (by rw [c5];omega))
 refine ag (wpAny_newList ?_ (by rw [c5];omega))
 have hsz:((s.heap.push (fg "list" #[] 0)).update s.heap.objs.size (bY (· ++ vs.toArray))).objs.size=s.heap.objs.size+1:=by
  rw [Heap.size_update,size_push']
 have hoL:(((s.heap.push (fg "list" #[] 0)).update s.heap.objs.size (bY (· ++ vs.toArray))).push (fg "list" vs.toArray 0)).get? (s.heap.objs.size+1)=some (fg "list" vs.toArray 0):=by
  rw [<- hsz];exact aK _ rfl
 have keep:∀ b o,s.heap.get? b=some o->(((s.heap.push (fg "list" #[] 0)).update s.heap.objs.size (bY (· ++ vs.toArray))).push (fg "list" vs.toArray 0)).get? b=some o:=fun b o q=>by
  have hlt:b<s.heap.objs.size:=aN q
  rw [Heap.get?_push_ne _ _ _ (by rw [hsz];exact aT (cM hlt)),Heap.get?_update_ne _ _ _ _ (aT hlt),Heap.get?_push_ne _ _ _ (aT hlt)]
  exact q
 show aV _ _ _ _ _ { s with heap:=((s.heap.push (fg "list" #[] 0)).update s.heap.objs.size (bY (· ++ vs.toArray))).push (fg "list" vs.toArray 0) }
 rw [hsz]
 refine ag (bO (c6 slot_list_sort ⟨_,hoL,rfl⟩ entry_list_sort ?body (args_list_sort _)))
 case body=>
  refine Qf (s:={ s with heap:=((s.heap.push (fg "list" #[] 0)).update s.heap.objs.size (bY (· ++ vs.toArray))).push (fg "list" vs.toArray 0) }) hoL h2 h64 fun e1 h' g k=>?_
  refine dn (h _ e1 h' (d9 _) g fun b o q=>k b o (aT (cM (aN q))) (keep b o q)) (fun κ s' hk=>?_) fun _ _ x=>x
  rw [kat_ask_eq rfl] at hk ⊢
  exact kas_wp_mono hk fun p s'' hk'=>hk'.mono fun s3 hq=>⟨_,rfl,ao ⟨_,rfl,hq⟩⟩
end
end PySem.W
namespace L2
open PySem PySem.Spec PyProof.Rows
noncomputable def ltL:List Int->List Int->Bool
 | [],[]=>false
 | [],_::_=>true
 | _::_,[]=>false
 | x::xs,y::ys=>if x=y then ltL xs ys else decide (x<y)
noncomputable def ltP (p q:Int×List Int):Bool:=if p.1=q.1 then ltL p.2 q.2 else decide (p.1<q.1)
noncomputable def ak9 (ps:List (Int×List Int)) (i j:Nat):Bool:=ltP (ps.getD i (0,[])) (ps.getD j (0,[]))
theorem R7:∀ xs:List Int,ltL xs xs=false
 | []=>rfl
 | x::xs=>by unfold ltL;rw [if_pos rfl];exact R7 xs
theorem Jt (n:Nat) (p:Nat->Bool):(aw (n+1)).find? p=if p 0=true then some 0 else ((aw n).find? fun j=>p (j+1)).map (· + 1):=by
 rw [i6,bD]
 cases e:p 0 with
 | true=>simp
 | false=>simp [List.find?_map,Function.comp_def]
theorem R6:∀ xs ys:List Int,(match (aw (min xs.length ys.length)).find? (fun j=>!(xs.getD j 0==ys.getD j 0)) with|some j=>decide (xs.getD j 0<ys.getD j 0)|none=>decide (xs.length<ys.length))=ltL xs ys
 | [],[]=>rfl
 | [],_::_=>by simp [ltL]
 | _::_,[]=>by simp [ltL]
 | x::xs,y::ys=>by
  have ih:=R6 xs ys
  have e:min (x::xs).length (y::ys).length=min xs.length ys.length+1:=by simp only [aI];omega
  rw [e,Jt]
  unfold ltL
  by_cases h:x=y
  ·subst h
   have c:(!((x::xs).getD 0 0==(x::ys).getD 0 0))=false:=by simp
   rw [c,if_neg am,if_pos rfl,<- ih]
   have f:(fun j=>!((x::xs).getD (j+1) 0==(x::ys).getD (j+1) 0))=fun j=>!(xs.getD j 0==ys.getD j 0):=by funext j;simp
   rw [f]
   cases (aw (min xs.length ys.length)).find? (fun j=>!(xs.getD j 0==ys.getD j 0)) with
   | none=>simp
   | some j=>simp
  ·have c:(!((x::xs).getD 0 0==(y::ys).getD 0 0))=true:=by simp [h]
   rw [c,if_pos rfl,if_neg h]
   rfl
noncomputable abbrev soV (ds:List ((Int×List Int)×Addr×Addr)):List V:=ds.map fun d=>V.ref d.2.1
noncomputable def Qc (K:ae):List V->Hp->VK->Prop:=fun xs H Q=>match xs with
 | [.ref a]=>∃ (ds:List ((Int×List Int)×Addr×Addr)) (p:Array Nat),SqL K H a (soV ds)/\(∀ d∈ds,H d.2.1=some (.tup [.int d.1.1,.ref d.2.2])/\H d.2.2=some (.lst (d.1.2.map V.int)))/\2<=ds.length/\ds.length<64 /\
   PySem.W.kRun ds.length (ak9 (ds.map (·.1))) (iR ds.length)=some p/\p.toList.length=ds.length/\(p.toList.all fun i=>decide (i<ds.length))=true /\ ∀ D,H D=none->Q (.ref D) (upd H D (.lst (p.toList.map fun i=>(soV ds).getD i .non)))
 | _=>False
section
variable {X:Cx} {pins:List (Addr×Obj)} {σ:St} {H:Hp} {s:al}
theorem ay5 {A:bj} {a b:Addr} {xs ys:List Int} (I:Inv X pins σ H s) (ha:H a=some (.lst (xs.map V.int))) (hb:H b=some (.lst (ys.map V.int))) (hu:A.units<cLine)
  {Q:Bool->al->Prop} {E:Value->al->Prop} (h:Q (ltL xs ys) s):aV (model X.prog X.w) A (cu .Lt (.ref a) (.ref b)) (PySem.W.BoolBack Q) E s:=by
 obtain⟨its,r,pl,_⟩:=I.list (SqL.of ha)
 obtain⟨its2,r2,pl2,_⟩:=I.list (SqL.of hb)
 have e1:xs.length=its.length:=by have:=r.length;simpa using this
 have e2:ys.length=its2.length:=by have:=r2.length;simpa using this
 have g1:∀ j (hj:j<its.length),∃ t,its[j]=.int (xs.getD j 0) t:=fun j hj=>by
  obtain⟨u,hu,ru⟩:=r.get (i:=j) (x:=.int (xs.getD j 0)) (by rw [ai,ah (by omega),au,ah (by omega)];rfl)
  rw [ah hj] at hu
  obtain⟨t,rfl⟩:=ru
  exact⟨t,aE hu⟩
 have g2:∀ j (hj:j<its2.length),∃ t,its2[j]=.int (ys.getD j 0) t:=fun j hj=>by
  obtain⟨u,hu,ru⟩:=r2.get (i:=j) (x:=.int (ys.getD j 0)) (by rw [ai,ah (by omega),au,ah (by omega)];rfl)
  rw [ah hj] at hu
  obtain⟨t,rfl⟩:=ru
  exact⟨t,aE hu⟩
 refine SeqAt.lt_lists (e:=fun j=>xs.getD j 0==ys.getD j 0) (lt:=fun j=>decide (xs.getD j 0<ys.getD j 0)) pl.isList pl2.isList hu (fun j j1 j2=>?_) (fun j j1 j2 prog w E Q hq=>?_) ?_
 ·obtain⟨t,e⟩:=g1 j (by simpa using j1)
  obtain⟨t',e'⟩:=g2 j (by simpa using j2)
  simp only [jK]
  rw [e,e']
  exact kz _ _ _ _
 ·obtain⟨t,e⟩:=g1 j (by simpa using j1)
  obtain⟨t',e'⟩:=g2 j (by simpa using j2)
  simp only [jK]
  rw [e,e']
  exact lt_int hq
 ·have:=R6 xs ys
  rw [av,av,<- e1,<- e2,this]
  exact h
theorem Ni:∀ xs ys:List Int,Dn (xs.map fun i=>Dt.at_ (.int i)) (ys.map fun i=>Dt.at_ (.int i))=decide (xs=ys)
 | [],[]=>by simp [Dn]
 | [],_::_=>by simp [Dn]
 | _::_,[]=>by simp [Dn]
 | x::xs,y::ys=>by
  rw [aQ,aQ]
  unfold Dn
  rw [Ni xs ys]
  unfold deq
  show ((x==y)&&decide (xs=ys))=_
  by_cases h:x=y <;> by_cases h2:xs=ys <;> simp [h,h2]
theorem Nh:∀ xs:List Int,E4 (xs.map fun i=>Dt.at_ (.int i))=0
 | []=>by simp [E4]
 | x::xs=>by rw [aQ];unfold E4;rw [Nh xs];unfold dep;rfl
theorem Kk {K:ae}:∀ xs:List Int,AtL K H (xs.map fun i=>Dt.at_ (.int i)) (xs.map V.int)
 | []=>by simp [AtL]
 | x::xs=>by rw [aQ,aQ];unfold AtL;exact⟨_,_,rfl,by unfold At;exact⟨rfl,rfl⟩,Kk xs⟩
theorem aw8 {A:bj} {a b:Addr} {xs ys:List Int} (I:Inv X pins σ H s) (ha:H a=some (.lst (xs.map V.int))) (hb:H b=some (.lst (ys.map V.int))) (hu:A.units+1<cLine) :
  bi A s (.ref a) (.ref b) (decide (xs=ys)):=by
 have:=ai1 I (.lst (xs.map fun i=>Dt.at_ (.int i))) (.lst (ys.map fun i=>Dt.at_ (.int i))) A (.ref a) (.ref b) _ _ (by unfold At;exact⟨_,_,rfl,SqL.of ha,Kk xs⟩) (by unfold At;exact⟨_,_,rfl,SqL.of hb,Kk ys⟩) rfl rfl (by unfold dep;rw [Nh];exact hu)
 unfold deq at this
 rwa [Ni] at this
theorem Mt {xs:List V} {us:List Value} (r:Vals xs us) {i:Nat} (h:i<us.length):∃ x,xs[i]? = some x/\RelV x (us.getD i bz):=by
 have hl:=r.length
 obtain⟨u,hu,ru⟩:=r.get (i:=i) (x:=xs[i]'(by omega)) (ah (by omega))
 refine⟨_,ah (by omega),?_⟩
 rw [au,hu]
 exact ru
theorem Ya (I:Inv X pins σ H s):∀ (ds:List ((Int×List Int)×Addr×Addr)) (vs:List Value),Vals (soV ds) vs->(∀ d∈ds,H d.2.1=some (.tup [.int d.1.1,.ref d.2.2])) -> ∃ fs,jw s.heap vs fs/\fs.length=ds.length /\ ∀ v∈fs,∃ i t,v=.int i t
 | [],vs,r,_=>by cases r;exact⟨[],PySem.W.KatTups.nil,rfl,fun v hv=>by cases hv⟩
 | d::ds,vs,r,h=>by
  cases r with
  | cons r1 r2=>
   obtain⟨fs,k,hl,hi⟩:=Ya I ds _ r2 fun x hx=>h x (ar _ hx)
   cases r1
   obtain⟨its,ri,⟨o,e,c,n,dd⟩,_⟩:=I.tuple (SqT.of (h d az))
   cases ri with
   | cons ra rr=>
    obtain⟨t,rfl⟩:=ra
    exact⟨_::fs,PySem.W.KatTups.cons e c dd rfl k,by rw [aI,aI,hl],fun v hv=>(List.mem_cons.mp hv).elim (fun z=>⟨_,_,z⟩) (hi v)⟩
theorem Oj {xs:List V} {us:List Value} (r:Vals xs us):∀ (p:List Nat),(∀ i∈p,i<us.length)->Vals (p.map fun i=>xs.getD i .non) (p.map fun i=>us.getD i bz)
 | [],_=>.nil
 | i::p,h=>by
  obtain⟨x,hx,rx⟩:=Mt r (h i az)
  refine .cons ?_ (Oj r p fun j hj=>h j (ar _ hj))
  show RelV (xs.getD i .non) _
  rw [au,hx]
  exact rx
end
theorem ak0 {n:Nat} {lt:Nat->Nat->Bool} {p:Array Nat} (h:PySem.W.kRun n lt (iR n)=some p) (hp:(p.toList.all fun i=>decide (i<n))=true):∀ i∈p.toList,i<n:=fun i hi=>by
 simpa using List.all_eq_true.mp hp i hi
theorem Rj:dj "sorted" = some (.builtin "sorted"):=by decide +kernel
theorem Ox {X:Cx} (hu:X.A.units+64<cLine):C3 X (.builtin "sorted") (Qc X.K):=by
 intro pins s σ H xs us Q I r h
 unfold Qc at h
 split at h
 ·rename_i a
  obtain⟨ds,p,hq,hd,h2,h64,hr,hz,hp,q⟩:=h
  obtain⟨u,rfl,ru⟩:=F9 r
  cases ru
  obtain⟨its,ri,pl,_⟩:=I.list hq
  have hl:its.length=ds.length:=by have:=ri.length;simpa using this.symm
  refine PySem.W.so_sorted (vs:=its) pl.isList (by omega) (by omega) fun D e1 h' hD gD keep=>?_
  have I1:Inv X pins σ H { s with heap:=h' }:=I.kept (t':=s.toks) keep
  obtain⟨fs,kt,kl,ki⟩:=Ya I1 ds its ri fun d hx=>(hd d hx).1
  refine PySem.W.kat_kind (T:=.type "int") kt (by omega) (fun v hv=>by obtain⟨i,t,rfl⟩:=ki v hv;exact .now) rfl ?_
  refine PySem.W.kRun_wp (n:=its.length) (lt:=ak9 (ds.map (·.1))) (a:=p) (fun i j C hi hj hC=>?_) (by rw [hl];exact hr) ⟨gD,fun h2 c g2 sb=>?_⟩
  ·unfold PySem.W.kas_ask
   obtain⟨x,hx,rx⟩:=Mt ri hi
   obtain⟨y,hy,ry⟩:=Mt ri hj
   rw [hl] at hi hj
   have ex:x=.ref (ds[i]'hi).2.1:=by rw [ai,ah hi] at hx;exact (aE hx).symm
   have ey:y=.ref (ds[j]'hj).2.1:=by rw [ai,ah hj] at hy;exact (aE hy).symm
   subst ex ey
   have lt:ak9 (ds.map (·.1)) i j=ltP (ds[i]'hi).1 (ds[j]'hj).1:=by
    unfold ak9
    rw [au,au,ai,ai,ah hi,ah hj]
    rfl
   rw [lt] at hC
   obtain⟨t1,l1⟩:=hd _ (cf hi)
   obtain⟨t2,l2⟩:=hd _ (cf hj)
   generalize (ds[i]'hi)=d1 at rx t1 l1 hC
   generalize (ds[j]'hj)=d2 at ry t2 l2 hC
   obtain⟨⟨n1,x1⟩,a1,b1⟩:=d1
   obtain⟨⟨n2,x2⟩,a2,b2⟩:=d2
   rw [show its.getD i bz=bp a1 from rx,show its.getD j bz=bp a2 from ry]
   obtain⟨i1,r1,⟨o1,e1,c1,m1,d1⟩,_⟩:=I1.tuple (SqT.of t1)
   obtain⟨i2,r2,⟨o2,e2,c2,m2,d2⟩,_⟩:=I1.tuple (SqT.of t2)
   obtain⟨u1,v1,rfl,⟨tk1,rfl⟩,rfl⟩:=r1.two
   obtain⟨u2,v2,rfl,⟨tk2,rfl⟩,rfl⟩:=r2.two
   refine PySem.W.kat_lt e1 d1 e2 d2 ?_
   refine PySem.W.kat_cons (wpAny_eqBool_int ?_)
   unfold ltP at hC
   refine PySem.W.kat_go (fun e=>?_) (fun e=>?_)
   ·have e:n1=n2:=by simpa using e
    rw [if_pos e] at hC
    refine PySem.W.kat_yes (PySem.W.kat_cons (aw8 I1 l1 l2 (by show X.A.units+1+1+1<cLine;omega) _ _ _ _ ?_))
    refine PySem.W.kat_go (fun e=>?_) (fun e=>?_)
    ·have e:x1=x2:=by simpa using e
     subst e
     rw [R7] at hC
     exact PySem.W.kat_yes (PySem.W.kat_nil hC)
    ·exact PySem.W.kat_no (PySem.W.kat_one _ _ (ay5 I1 l1 l2 (by show X.A.units+1+1<cLine;omega) hC))
   ·have e:¬ n1=n2:=by simpa using e
    rw [if_neg e] at hC
    exact PySem.W.kat_no (oneLt_int hC)
  ·refine⟨.ref D,upd H D (.lst (p.toList.map fun i=>(soV ds).getD i .non)),?_,rfl,q D (I.hok.fresh hD)⟩
   refine I.laid (t':=s.toks) (fun b u e=>(sb.2 b (aT (aM (aN e) hD))).trans (keep b u e)) hD ⟨?_,_,c,Oj ri p.toList (fun i hi=>by rw [hl];exact ak0 hr hp i hi),g2⟩
   rw [ac,hz,c5]
   omega
 ·exact h.elim
end L2
set_option maxHeartbeats 1000000
namespace PySem.W
open PySem PySem.Calls PyProof.Rows
section
variable {prog:aW} {w:bE} {A:bj} {E:Value->al->Prop} {s:al} {vs:List Value}
end
end PySem.W
namespace L2
open PySem PySem.Spec PyProof.Rows
theorem Yj:∀ {xs:List V} {us:List Value},xs.length=us.length->(∀ (i:Nat) x u,xs[i]? = some x->us[i]? = some u->RelV x u)->Vals xs us
 | [],[],_,_=>.nil
 | [],_::_,h,_=>by simp at h
 | _::_,[],h,_=>by simp at h
 | x::xs,u::us,h,g=>.cons (g 0 x u rfl rfl) (Yj (by simpa using h) fun i a b ha hb=>g (i+1) a b ha hb)
theorem ay1 {P:aW} {w:bE} {k:Key} {v:Value} (h:(Av P w).is k v=true):RelV (kV k) v:=by
 rcases A9 (show Hi k v=true from h) with ⟨i,t,rfl,rfl⟩|⟨x,t,rfl,rfl⟩
 ·exact⟨t,rfl⟩
 ·exact⟨t,rfl⟩
theorem Zi {P:aW} {w:bE} {kvs:List (Key×V)} {vs:List (Key×Value)} {us:List Value} (rel:KV kvs vs) (hl:us.length=vs.length) (h:∀ (j:Nat) v,us[j]? = some v -> ∃ k x,vs[j]? = some (k,x)/\(Av P w).is k v=true):Vals (kvs.map fun kv=>kV kv.1) us:=by
 refine Yj (by rw [ac,rel.length,hl]) fun i x u hx hu=>?_
 obtain⟨k,y,hk,his⟩:=h i u hu
 have e:(kvs.map (·.1))[i]? = some k:=by rw [rel.keys,ai,hk];rfl
 rw [ai] at hx e
 obtain⟨kv,hkv,rfl⟩:=Option.map_eq_some_iff.mp hx
 rw [hkv] at e
 cases e
 exact ay1 his
section
variable {X:Cx}
noncomputable def ap3:List V->Hp->VK->Prop:=fun xs H Q=>∃ p kvs,xs=[.ref p]/\Rd H p (.dK kvs)/\kvs.length<=1000 /\ ∀ l,H l=none->Q (.ref l) (upd H l (.lst (kvs.map fun kv=>kV kv.1)))
theorem Uk (hc:X.calm=true):C3 X (.type "list") ap3:=by
 intro pins s σ H xs us Q I r h
 obtain⟨p,kvs,rfl,e,few,q⟩:=h
 obtain⟨u,rfl,ru⟩:=F9 r
 cases ru
 obtain⟨z,lo,vs,rel,dof⟩:=Fr I.hok e
 obtain⟨ep,dat⟩:=dof.dictAt
 refine bI (ak _) (PySem.W.kdl_call (PySem.W.kdl_dict lo) (I.ok.hd hc) dat (by rw [<- rel.length];exact z) fun h' tk acc' c' hk hS' hacc htk=>?_)
 refine⟨.ref s.heap.objs.size,_,I.laid (t':=tk) hk (ak _) (o:=.lst (kvs.map fun kv=>kV kv.1)) ⟨by rw [ac];exact z,acc'.toList,c',?_,by simpa using hS'⟩,rfl,q _ (I.hok.fresh (ak _))⟩
 exact Zi rel (by rw [dJ];exact hacc.1) fun j v e=>hacc.2 j v (by rw [<- jg];exact e)
end
end L2
set_option maxHeartbeats 4000000
namespace PySem
section
variable {prog:aW} {w:bE} {K:Type} [DecidableEq K] {knd:HeapKind prog w K} {A:bj} {E:Value->al->Prop} {s:al}
theorem El {d a:Addr} {xs:List (K×Addr×Value)} {k:K} {v:Value} {Q:Value->al->Prop} (hu:knd.room A) (hkey:knd.is s.heap k a) (hm:s.heap.DictOfH knd d xs)
  (h1:∀ p,kX xs k=some p->Q p.2 { s with toks:=s.toks+knd.draws k })
  (h2:kX xs k=none -> ∀ h',h'.DictOfH knd d (storedH xs k a v)->bq d s.heap h'->Q v { s with heap:=h',toks:=s.toks+knd.draws k })
  (hsz:xs.length<=sizeLine):aV (model prog w) A (jQ d (.ref a) v) Q E s:=by
 obtain⟨o,es,ep,ho,hc,hd,he,his,hn⟩:=hm
 unfold jQ
 try with_reducible refine bO ?_
 refine ag (knd.pyHash hu hkey ?_)
 refine ag (wpAny_dictFind_heap (s:={ s with toks:=s.toks+knd.draws k }) hu hkey ho hd he his hn ?_ ?_)
 ·intro hno
  have hnot:k∉xs.map (·.1):=not_mem_keys_of_get hno
  refine ag (jI (ag (wpAny_updateDictKeys (hz:=by have e:=size_of_entries he;omega) (s:={ s with toks:=s.toks+knd.draws k }) ho hd (ao (h2 (fY hno) _ ⟨_,_,ep+1,b9 _ ho (Obj.isFreed_of_dict (jM hd _)),
   hc.mapDictKeys _,jM hd _,?_,?_,?_⟩ (cz ..))))))
  ·rw [lq (fY hno)]
   simp [he,entryOfKey]
  ·rw [lq (fY hno)]
   intro x hx
   rcases List.mem_append.mp hx with hx|hx
   ·exact knd.keeps (his x hx) ho hd (cz ..)
   ·simp only [br] at hx
    subst hx
    exact knd.keeps hkey ho hd (cz ..)
  ·rw [lq (fY hno)]
   rw [aq,eE]
   refine⟨hn,by simp,?_⟩
   intro x hx y hy
   simp only [aQ,gc,br] at hy
   subst hy
   exact fun e=>hnot (e▸hx)
 ·intro j p hj
  refine ag (f7 (s:={ s with toks:=s.toks+knd.draws k }) ho hd ?_)
  rw [entry_at he j,hj]
  exact ag (jI (ao (h1 p (atKey_of_get hn hj))))
theorem Hl (knd:HeapKind prog w K) (d a:Addr) (hd:(d==cX)=false) (dflt:Value) :
  MeetsIn prog w (ay.«dict.setdefault» ⟨[.ref d,.ref a,dflt],[]⟩) (fun A R s=>knd.room A.in1 /\ ∃ k xs,knd.is s.heap k a/\s.heap.DictOfH knd d xs/\xs.length<=sizeLine /\
   (∀ p,kX xs k=some p->R (.ok (.ret p.2)) { s with toks:=s.toks+knd.draws k }) /\
   (kX xs k=none -> ∀ h',h'.DictOfH knd d (storedH xs k a dflt)->bq d s.heap h'->R (.ok (.ret dflt)) { s with heap:=h',toks:=s.toks+knd.draws k })):=
 .of_wp fun A R s ⟨hu,k,xs,hkey,hm,hz,h1,h2⟩=>by
  unfold ay.«dict.setdefault»
  refine ag ?_
  unfold Builtin.Dict.keyAndDefault
  refine ag (wpAny_notOrdered_dict hm.typeIs ?_)
  show aV _ _ (pure (d,bp a,some dflt)) _ _ s
  refine ao ?_
  show aV _ _ (if (d==cX)=true then _ else (jQ d (.ref a) dflt >>= _)) _ _ s
  rw [if_neg (by rw [hd];exact am)]
  exact ag (El hu hkey hm (fun p hp=>ao ⟨_,rfl,h1 p hp⟩) (fun hn h' hm' hs'=>ao ⟨dflt,rfl,h2 hn h' hm' hs'⟩) hz)
end
end PySem
namespace L2
open PySem PySem.Spec PyProof.Rows
noncomputable def X5:V->List V->Hp->VK->Prop:=fun x xs H Q=>∃ p b kvs ks v,x=.ref p/\xs=[.ref b,v]/\H p=some (.dT kvs)/\H b=some (.tup (fz kV ks))/\kvs.length<sizeLine/\(match Bp kvs ks with
 | some w=>Q w H
 | none=>Q v (upd H p (.dT (Dg kvs ks v))))
theorem Zq {X:Cx} (hu:X.A.units+64<cLine):MtR X "dict.setdefault" X5:=by
 intro pins s σ H x xs v us Q I rx rs h
 obtain⟨p,b,kvs,ks,y,rfl,rfl,e,eb,hl,q⟩:=h
 cases rx
 obtain⟨u1,u2,rfl,ru,rv⟩:=rs.two
 cases ru
 obtain⟨z,hd,ms,rel,dd⟩:=a53 I.hok e
 have hz:ms.length<=sizeLine:=by rw [<- gC rel];exact z
 have hv:=rel.val ks
 refine jA dR dd.typeIs gr (gh _ _ _) (Hl (jB (Av X.prog X.w)) p b hd u2) ⟨dS (by omega),ks,ms,Ij I.hok eb,dd,hz,fun r hr=>?_,fun hr h' dd' hs=>?_⟩
 ·rw [hr] at hv
  cases e2:Bp kvs ks with
  | none=>rw [e2] at hv;cases hv
  | some w=>rw [e2] at hv q;exact⟨w,H,I.tok _,hv,q⟩
 ·rw [hr] at hv
  cases e2:Bp kvs ks with
  | some w=>rw [e2] at hv;cases hv
  | none=>
   rw [e2] at q
   have hl2:(Dg kvs ks y).length<=sizeLine:=by have:=Dp kvs ks y;omega
   refine⟨y,_,?_,rv,q⟩
   obtain⟨q,es,ep,hq,h2,h3,h4,_,h5⟩:=dd'
   refine Gc I (by rw [e];exact bn) hs ⟨q,hq⟩ ⟨hl2,hd,_,(rel.put ks eb rv).keeps fun c ys ec=>?_,q,es,ep,hq,h2,h3,h4,h5⟩
   rw [Ak (a83 ec e (fun z=>nomatch z))]
   exact ec
noncomputable abbrev RF:=List V->Hp->VK->Prop
noncomputable def Nr (x:V) (T:String):Bool:=match x with
 | .int _=>T == "int"
 | .bl _=>T == "bool" || T == "int"
 | .str _=>T == "str"
 | _=>false
noncomputable def okT (T:String):Bool:=["int", "bool", "str", "list", "tuple", "dict"].contains T
noncomputable def Gn (K:ae):RF:=fun xs H Q=>match xs with
 | [.int i,.ty T]=>okT T=true/\Q (.bl (Nr (.int i) T)) H
 | [.bl i,.ty T]=>okT T=true/\Q (.bl (Nr (.bl i) T)) H
 | [.str i,.ty T]=>okT T=true/\Q (.bl (Nr (.str i) T)) H
 | [.non,.ty T]=>okT T=true/\Q (.bl (Nr .non T)) H
 | [x,.ty T]=>∃ t b,TyX K H x t/\eP K t (.type T)=some b/\Q (.bl b) H
 | [x,.ref C]=>(∃ t b,TyX K H x t/\eP K t (.ref C)=some b/\Q (.bl b) H)\/False
 | _=>False
noncomputable def Ci (K:ae):RF:=fun xs H Q=>match xs with
 | [.str z]=>z.length<=sizeLine/\Q (.int z.length) H
 | [.ref p]=>(∃ ys,(SqL K H p ys\/SqT K H p ys)/\Q (.int ys.length) H) \/ ∃ kvs,Rd H p (.dK kvs)/\Q (.int kvs.length) H
 | _=>False
noncomputable def Vo (K:ae):RF:=fun xs H Q=>match xs with
 | [.ref p]=>∃ bs:List Bool,SqL K H p (bs.map V.bl)/\Q (.bl (bs.all fun b=>b)) H
 | _=>False
noncomputable def ap2:RF:=fun xs H Q=>match xs with
 | [.int i]=>Q (.int i) H
 | [.bl k]=>Q (.int (if k then 1 else 0)) H
 | _=>False
noncomputable def Qa (K:ae):RF:=fun xs H Q=>match xs with
 | [.ref p]=>∃ ys,(SqL K H p ys\/SqT K H p ys) /\ ∀ l,H l=none->Q (.ref l) (upd H l (.lst ys))
 | _=>False
noncomputable def F0 (K:ae):RF:=fun xs H Q=>match xs with
 | [.ref p]=>∃ ys,(SqL K H p ys /\ ∀ l,H l=none->Q (.ref l) (upd H l (.tup ys)))\/(SqT K H p ys/\Q (.ref p) H)
 | _=>False
noncomputable def Lb (K:ae) (calm:Bool):RF:=fun xs H Q=>Qa K xs H Q\/(calm=true/\ap3 xs H Q)
noncomputable def ap7 (K:ae) (calm:Bool):RF:=fun xs H Q=>((Qc K xs H Q\/False)\/False)\/False
inductive BF where
 | bf (id:String)|ty (T:String)
noncomputable def be3 (K:ae) (calm:Bool) (x:Str):Option (BF×RF):=
 if x = "len" then some (.bf "len", Ci K) else
 if x = "isinstance" then some (.bf "isinstance", Gn K) else
 if x = "all" then (if calm=true then some (.bf "all", Vo K) else none) else
 if x = "int" then some (.ty "int", ap2) else
 if x = "list" then some (.ty "list", Lb K calm) else
 if x = "tuple" then some (.ty "tuple", F0 K) else
 if x = "sorted" then some (.bf "sorted", ap7 K calm) else none
noncomputable def BF.val:BF->Value
 | .bf id=>.builtin id
 | .ty T=>.type T
section
variable {X:Cx}
theorem U6 {K:ae} {x:V} {T:String} (hx:Bs x=true) (h:okT T=true):∃ t,(∀ H,TyOf K H x t)/\eP K t (.type T)=some (Nr x T):=by
 have hT:T = "int" \/ T = "bool" \/ T = "str" \/ T = "list" \/ T = "tuple" \/ T = "dict" := by
  unfold okT at h
  simpa using h
 cases x with
 | int i=>refine⟨_,fun H=>TyOf.int i,?_⟩;rcases hT with rfl|rfl|rfl|rfl|rfl|rfl <;> rfl
 | bl i=>refine⟨_,fun H=>TyOf.bl i,?_⟩;rcases hT with rfl|rfl|rfl|rfl|rfl|rfl <;> rfl
 | str i=>refine⟨_,fun H=>TyOf.str i,?_⟩;rcases hT with rfl|rfl|rfl|rfl|rfl|rfl <;> rfl
 | non=>refine⟨_,fun H=>TyOf.non,?_⟩;rcases hT with rfl|rfl|rfl|rfl|rfl|rfl <;> rfl
 | _=>cases hx
theorem ah1:C3 X (.builtin "isinstance") (Gn X.K):=by
 intro pins s σ H xs us Q I r h
 have sc:∀ x T,xs=[x,.ty T]->Bs x=true->okT T=true->Q (.bl (Nr x T)) H->aV (model X.prog X.w) X.A (call (.builtin "isinstance") us) (EP X pins σ Q) X.xe s:=fun x T e hx hT q=>by
  subst e
  obtain⟨t,ht,hk⟩:=U6 (K:=X.K) hx hT
  exact ah0 pins s σ H _ us Q I r ⟨x,T,t,_,rfl,ht H,hk,q⟩
 unfold Gn at h
 split at h
 ·exact sc _ _ rfl rfl h.1 h.2
 ·exact sc _ _ rfl rfl h.1 h.2
 ·exact sc _ _ rfl rfl h.1 h.2
 ·exact sc _ _ rfl rfl h.1 h.2
 ·obtain⟨t,b,ty,e,q⟩:=h
  obtain⟨u,v,rfl,ru,rv⟩:=r.two
  cases rv
  exact bI (ak _) (Kw I ru ty e fun tk htk=>⟨.bl b,H,I.tok tk htk,rfl,q⟩)
 ·obtain⟨u,v,rfl,ru,rv⟩:=r.two
  rcases h with ⟨t,b,ty,e,q⟩|h
  ·cases rv
   exact bI (ak _) (Kw I ru ty e fun tk htk=>⟨.bl b,H,I.tok tk htk,rfl,q⟩)
  ·exact h.elim
 ·exact h.elim
theorem Yq:C3 X (.builtin "len") (Ci X.K):=by
 intro pins s σ H xs us Q I r h
 unfold Ci at h
 split at h
 ·exact Ov pins s σ H _ us Q I r ⟨_,rfl,h.1,h.2⟩
 ·rcases h with ⟨ys,h1,h2⟩|⟨kvs,h1,h2⟩
  ·exact Ou pins s σ H _ us Q I r ⟨_,ys,rfl,h1,h2⟩
  ·obtain⟨u,rfl,ru⟩:=F9 r
   cases ru
   exact bx7 I h1 fun t s' I'=>⟨.int _,H,I',⟨t,rfl⟩,h2⟩
 ·exact h.elim
theorem Yo (hc:X.calm=true):C3 X (.builtin "all") (Vo X.K):=by
 intro pins s σ H xs us Q I r h
 unfold Vo at h
 split at h
 ·obtain⟨bs,h1,h2⟩:=h
  exact ag9 hc pins s σ H _ us Q I r ⟨_,bs,rfl,h1,h2⟩
 ·exact h.elim
theorem Yp:C3 X (.type "int") ap2:=by
 intro pins s σ H xs us Q I r h
 unfold ap2 at h
 split at h
 ·exact M8 pins s σ H _ us Q I r (.inl ⟨_,rfl,h⟩)
 ·exact M8 pins s σ H _ us Q I r (.inr ⟨_,rfl,h⟩)
 ·exact h.elim
theorem Uj:C3 X (.type "list") (Qa X.K):=by
 intro pins s σ H xs us Q I r h
 unfold Qa at h
 split at h
 ·obtain⟨ys,h1,h2⟩:=h
  exact Ow pins s σ H _ us Q I r ⟨_,ys,rfl,h1,h2⟩
 ·exact h.elim
theorem Yr:C3 X (.type "tuple") (F0 X.K):=by
 intro pins s σ H xs us Q I r h
 unfold F0 at h
 split at h
 ·obtain⟨ys,h1⟩:=h
  exact Mu pins s σ H _ us Q I r ⟨_,ys,rfl,h1⟩
 ·exact h.elim
theorem av3 (hu:X.A.units+64<cLine) {x:Str} {f:BF} {r:RF} {c:Bool} (h:be3 X.K c x=some (f,r)) (hc:c=X.calm):dj x=some f.val/\C3 X f.val r:=by
 unfold be3 at h
 by_cases e:x = "len"
 ·rw [if_pos e] at h;cases h;rw [e];exact⟨PySem.boot_len,Yq⟩
 rw [if_neg e] at h
 by_cases e:x = "isinstance"
 ·rw [if_pos e] at h;cases h;rw [e];exact⟨PyProof.Rows.boot_isinstance,ah1⟩
 rw [if_neg e] at h
 by_cases e:x = "all"
 ·rw [if_pos e] at h
  by_cases ec:c=true
  ·rw [if_pos ec] at h;cases h;rw [e];exact⟨PyProof.Rows.boot_all,Yo (hc▸ec)⟩
  ·rw [if_neg ec] at h;cases h
 rw [if_neg e] at h
 by_cases e:x = "int"
 ·rw [if_pos e] at h;cases h;rw [e];exact⟨jv,Yp⟩
 rw [if_neg e] at h
 by_cases e:x = "list"
 ·rw [if_pos e] at h;cases h;rw [e];exact⟨fO,fun pins s σ H xs us Q I r h=>h.elim (Uj pins s σ H xs us Q I r) fun z=>Uk (hc▸z.1) pins s σ H xs us Q I r z.2⟩
 rw [if_neg e] at h
 by_cases e:x = "tuple"
 ·rw [if_pos e] at h;cases h;rw [e];exact⟨iE,Yr⟩
 rw [if_neg e] at h
 by_cases e:x = "sorted"
 ·rw [if_pos e] at h;cases h;rw [e];exact⟨Rj,fun pins s σ H xs us Q I r h=>h.elim (fun h=>h.elim (fun h=>h.elim (Ox hu pins s σ H xs us Q I r) cL) cL) cL⟩
 rw [if_neg e] at h
 cases h
noncomputable abbrev RM:=V->List V->Hp->VK->Prop
structure BM where
 T:String
 id:String
 r:RM
noncomputable def rMt (K:ae) (bs:List BM):V->Hp->(Hp->(List V->Hp->Prop)->Prop)->VK->Prop:=fun x H1 ta Q=>
 match bs with
 | []=>False
 | [b]=>tyV K b.T x H1/\ta H1 fun xs H2=>b.r x xs H2 Q
 | b::rest=>(tyV K b.T x H1/\ta H1 fun xs H2=>b.r x xs H2 Q)\/rMt K rest x H1 ta Q
structure ba6 (X:Cx) (m:Str) (b:BM):Prop where
 pa:PlainAttrs b.T
 slot:Slot b.T m b.id
 ty:typeOf (.builtin b.id)=pure (.type "method_descriptor")
 mt:MtR X b.id b.r
noncomputable def Gq (K:ae):RM:=fun x xs H Q=>∃ z p ys,x=.str z/\xs=[.ref p]/\(SqL K H p (ys.map V.str)\/SqT K H p (ys.map V.str))/\(ys.map (·.length)).sum+ys.length * z.length<=16777216/\Q (.str (gF z ys)) H
theorem al7 {X:Cx}:MtR X "str.join" (Gq X.K):=by
 intro pins s σ H x xs v us Q I rx rs h
 obtain⟨z,p,ys,rfl,rfl,hq,hz,q⟩:=h
 rcases hq with hq|hq
 ·exact ay7 pins s σ H _ _ v us Q I rx rs ⟨z,p,ys,rfl,rfl,hq,hz,q⟩
 obtain⟨t,rfl⟩:=rx
 obtain⟨u,rfl,ru⟩:=rs.one
 cases ru
 obtain⟨its,rv,pl,_⟩:=I.tuple hq
 exact bI (ak _) (PyProof.Rows.join_tuple pl (by simpa using Mg rv) hz fun t' k htk=>⟨.str _,H,I.tok k htk,⟨_,rfl⟩,q⟩)
noncomputable def J5:RM:=fun x xs H Q=>∃ p kvs,x=.ref p/\xs=[]/\H p=some (.dK kvs)/\Q .non (upd H p (.dK []))
theorem Zo:MtR X "dict.clear" J5:=by
 intro pins s σ H x xs v us Q I rx rs h
 obtain⟨p,kvs,rfl,rfl,e,q⟩:=h
 cases rx
 cases rs
 exact av6 I e fun s' I'=>⟨.non,_,I',rfl,q⟩
noncomputable def ap6:RM:=fun x xs H Q=>∃ p k v kvs,x=.ref p/\xs=[kV k,v]/\H p=some (.dK kvs)/\kvs.length<sizeLine/\(match Bp kvs k with
 | some w=>Q w H
 | none=>Q v (upd H p (.dK (Dg kvs k v))))
theorem al8:MtR X "dict.setdefault" ap6:=by
 intro pins s σ H x xs v us Q I rx rs h
 obtain⟨p,k,y,kvs,rfl,rfl,e,hl,q⟩:=h
 cases rx
 obtain⟨u1,u2,rfl,ru,rv⟩:=rs.two
 obtain⟨z,hd,vs,rel,dd⟩:=Xj I.hok e
 have hv:=rel.val k
 refine jA dR dd.typeIs gr (gh _ _ _) (kt_meets_setdefault (Av X.prog X.w) p (Ky ru) hd u2) ⟨vs,dd,by rw [<- rel.length];exact z,fun r hr=>?_,fun hr h' dd' hs=>?_⟩
 ·rw [hr] at hv
  cases e2:Bp kvs k with
  | none=>rw [e2] at hv;cases hv
  | some w=>rw [e2] at hv q;exact⟨w,H,I.tok _,hv,q⟩
 ·rw [hr] at hv
  cases e2:Bp kvs k with
  | some w=>rw [e2] at hv;cases hv
  | none=>
   rw [e2] at q
   have hl2:(Dg kvs k y).length<=sizeLine:=by have:=Dp kvs k y;omega
   have he:∃ q,h'.get? p=some q:=let ⟨q,_,_,hq,_⟩:=dd';⟨q,hq⟩
   exact⟨y,_,Gc I (by rw [e];exact bn) hs he (Pd hl2 hd (rel.put k rv) dd'),rv,q⟩
noncomputable def Lc:RM:=fun x vs H Q=>X5 x vs H Q\/ap6 x vs H Q
noncomputable def mtR (K:ae) (m:Str):List BM:=
 if m = "append" then [⟨"list", "list.append", Ch⟩] else
 if m = "extend" then [⟨"list", "list.extend", D4⟩] else
 if m = "clear" then [⟨"list", "list.clear", Vp⟩,⟨"dict", "dict.clear", J5⟩] else
 if m = "join" then [⟨"str", "str.join", Gq K⟩] else
 if m = "index" then [⟨"list", "list.index", P7⟩] else
 if m = "setdefault" then [⟨"dict", "dict.setdefault", Lc⟩] else []
theorem al4 {m:Str} {b:BM} (hu:X.A.units+64<cLine) (h:b∈mtR X.K m):ba6 X m b:=by
 unfold mtR at h
 by_cases e:m = "append"
 ·rw [if_pos e] at h
  have:b=⟨"list", "list.append", Ch⟩:=by simpa using h
  subst this;subst e
  exact⟨dN,PySem.F.slot_list_append,PySem.F.type_list_append,Nz⟩
 rw [if_neg e] at h
 by_cases e:m = "extend"
 ·rw [if_pos e] at h
  have:b=⟨"list", "list.extend", D4⟩:=by simpa using h
  subst this;subst e
  exact⟨dN,PySem.F.slot_list_extend,PySem.F.type_list_extend,Zp⟩
 rw [if_neg e] at h
 by_cases e:m = "clear"
 ·rw [if_pos e] at h
  rcases List.mem_cons.mp h with this|h
  ·subst this;subst e
   exact⟨dN,PySem.F.slot_list_clear,PySem.F.type_list_clear,al5⟩
  ·have:b=⟨"dict", "dict.clear", J5⟩:=by simpa using h
   subst this;subst e
   exact⟨fF,iF,PySem.F.type_dict_clear,Zo⟩
 rw [if_neg e] at h
 by_cases e:m = "join"
 ·rw [if_pos e] at h
  have:b=⟨"str", "str.join", Gq X.K⟩:=by simpa using h
  subst this;subst e
  exact⟨PySem.F.plainAttrs_str,PySem.F.slot_str_join,PySem.F.type_str_join,al7⟩
 rw [if_neg e] at h
 by_cases e:m = "index"
 ·rw [if_pos e] at h
  have:b=⟨"list", "list.index", P7⟩:=by simpa using h
  subst this;subst e
  exact⟨dN,iH,PySem.F.type_list_index,al6⟩
 rw [if_neg e] at h
 by_cases e:m = "setdefault"
 ·rw [if_pos e] at h
  have:b=⟨"dict", "dict.setdefault", Lc⟩:=by simpa using h
  subst this;subst e
  exact⟨fF,dR,PySem.F.type_dict_setdefault,fun pins s σ H x vs v us Q I rx rv h=>h.elim (Zq hu pins s σ H x vs v us Q I rx rv) (al8 pins s σ H x vs v us Q I rx rv)⟩
 rw [if_neg e] at h
 cases h
theorem Qb {K:ae}:∀ {bs:List BM} {x:V} {H1:Hp} {ta:Hp->(List V->Hp->Prop)->Prop} {Q:VK},rMt K bs x H1 ta Q -> ∃ b∈bs,tyV K b.T x H1/\ta H1 fun xs H2=>b.r x xs H2 Q
 | [],_,_,_,_,h=>h.elim
 | [b],_,_,_,_,h=>⟨b,by simp,h⟩
 | b::c::rest,x,H1,ta,Q,h=>by
  rcases h with h|h
  ·exact⟨b,by simp,h⟩
  ·obtain⟨d,hd,q⟩:=Qb h
   exact⟨d,ar _ hd,q⟩
noncomputable def Dl:Expr->Bool
 | .Call (.Name x _) [] [] _=>!(x==("super" : Str))
 | _=>true
theorem Ee {e:Expr} (h:Dl e=true) (f:Str) (env:Env) (whole:Sem Value):iI e f env whole=whole:=by
 unfold iI
 split
 ·rename_i id p pos
  have:(id==("super" : Str))=false:=by
   have h':(!(id==("super" : Str)))=true:=h
   simpa using h'
  have e2:(id != "super")=true:=by
   show (!(id == "super"))=true
   rw [this]
   rfl
  rw [e2]
  simp
 ·rfl
variable {o:Expr} {do':DE} {es:List Expr} {r:DA} {m:Str} {apos cpos:Pos}
theorem bm7 {bs:List BM} (hb:∀ b∈bs,ba6 X m b) (ho:QE X o do') (h1:Dl o=true) (h4:(apos.endLine==cpos.line)=true) :
  QE X (.Call (.Attribute o m apos) [] [] cpos) (dMt (rMt X.K bs) do' Ai):=by
 intro Ex mt pins s σ H Q I h
 refine iL (Ee h1 m X.env _) h4 (thn (ho Ex mt pins s σ H _ I h) fun v s1 ⟨x,H1,I1,r1,q1⟩=>?_)
 obtain⟨b,hbm,ty,q⟩:=Qb q1
 obtain⟨k1,k2⟩:=as8 I1 r1 ty
 have B:=hb b hbm
 exact⟨b.T,b.id,B.pa,B.slot,B.ty,k1,k2,fN rfl (jX (B.mt pins s1 σ H1 x [] v [] Q I1 r1 .nil q))⟩
theorem b49 {bs:List BM} {e:Expr} (hb:∀ b∈bs,ba6 X m b) (ho:QE X o do') (ha:QA X (e::es) r) (h1:Dl o=true) (h2:(e::es).all Bm=true) (h3:(e::es).length<30) (h4:(apos.endLine==cpos.line)=true) :
  QE X (.Call (.Attribute o m apos) (e::es) [] cpos) (dMt (rMt X.K bs) do' r):=by
 intro Ex mt pins s σ H Q I h
 have hs:=bt▸h2
 rw [aA] at hs
 have hfew:((iT cpos (cW (e::es) X.env)).all (fun x=>!x.1)&&(lH cpos (j9 [] X.env)).all (fun x=>x.1.isSome)
   && decide ((e::es).length+([]:List k8).length+(if ([]:List k8).isEmpty then 0 else 1)<30))=true:=by
  rw [Jo h2]
  have:decide ((e::es).length+([]:List k8).length+(if ([]:List k8).isEmpty then 0 else 1)<30)=true:=by
   rw [decide_eq_true_iff]
   simpa using h3
  rw [this]
  rfl
 refine wpAny_Call_method_late (Ee h1 m X.env _) hfew h4 rfl (thn (ho Ex mt pins s σ H _ I h) fun v s1 ⟨x,H1,I1,r1,q1⟩=>?_)
 obtain⟨b,hbm,ty,q⟩:=Qb q1
 obtain⟨k1,k2⟩:=as8 I1 r1 ty
 have B:=hb b hbm
 refine⟨b.T,b.id,B.pa,B.slot,B.ty,k1,k2,?_⟩
 have hA:=ha Ex mt cpos pins s1 σ H1 _ I1 q
 rw [Bn hs.1] at hA ⊢
 refine fN (by show (false||(iT cpos (cW es X.env)).any (·.1))=false;rw [Bz hs.2] <;> rfl) (Calls.evalArgs_plain ?_)
 exact thn hA fun us s2 ⟨vs,H2,I2,r2,q2⟩=>B.mt pins s2 σ H2 x vs v us Q I2 r1 r2 q2
variable {x:Str} {p pos:Pos} {G:Sg}
theorem bm1 {f:BF} {rf:RF} {e:Expr} (hc:C3 X f.val rf) (hg:Gl X x) (hm:X.mg x=none) (hv:dj x=some f.val) (ha:QA X (e::es) r) (hs:(e::es).all Bm=true) (hn:x ≠ "__name__") (hdb:(x==("__debug__" : Str))=false) :
  QE X (.Call (.Name x p) (e::es) [] pos) (dFn (fun vs H Q _=>rf vs H Q) r):=by
 intro Ex mt
 have h:=bt▸hs
 rw [aA] at h
 cases f with
 | bf id=>exact am7 hc hg hm hv (ha Ex mt) hn hdb (Bn h.1 es X.env) (Bz h.2 X.env pos)
 | ty T=>exact Zx hc hg hm hv (ha Ex mt) hn hdb (Bn h.1 es X.env) (Bz h.2 X.env pos)
noncomputable def spE (sp:Sp) (dvs:List V):List V->Hp->VK->EK->Prop:=fun vs H Q E=>sp (vs++dvs) H Q (fun v _ H'=>∃ a,v=.ref a/\E a H')
theorem J7 {i:FI} (F:Hz X i) {j:Nat} (hj:j<=i.dfs.length) {Ex:St->EK} (mt:Meets X Ex) {pins:List (Addr×Obj)} {σ:St} {H:Hp} {s:al} {Q:VK} {us:List Value} {vs:List V}
  (I:Inv X pins σ H s) (r:Vals vs us) (h:spE i.sp (i.dfs.drop j) vs H Q (Ex σ)):aV (model X.prog X.w) X.A (call (.ref i.f) us) (EP X pins σ Q) X.xe s:=by
 obtain⟨CX,hx,FO⟩:=F.ok
 have r2:Vals (vs++i.dfs.drop j) (us++i.ds.drop j):=r.append (F.vals.drop j)
 have hl:(us++i.ds.drop j).length=i.ps.length:=by rw [<- r2.length];exact FO.len _ _ _ _ h
 refine ix (gk (FO.run X.A X.stack s H ⟨us,[]⟩ (us++i.ds.drop j) (vs++i.dfs.drop j) Q _ F.room I.env0 (F.binds j hj s us I.kIn hl) r2 h) fun r s' hq=>?_)
 cases r with
 | error e=>exact hx X rfl rfl Ex mt pins σ H s e s' I hq
 | ok fl=>
  cases fl with
  | ret u=>exact I.after hq
  | next=>exact cL hq
  | brk=>exact cL hq
  | cont=>exact cL hq
theorem ao0 {i:FI} (F:Hz X i) {j:Nat} (hj:j<=i.dfs.length) (hg:Gl X x) (hm:X.mg x=some (.ref i.f)) (hdb:(x==("__debug__" : Str))=false) :
  QE X (.Call (.Name x p) [] [] pos) (dFn (spE i.sp (i.dfs.drop j)) Ai):=by
 intro Ex mt pins s σ H Q I h
 refine cx (Hj I hg hm ?_ hdb)
 exact gQ I.kIn F.kp (J7 (us:=[]) F hj mt I .nil h)
theorem a16 {i:FI} {e:Expr} (F:Hz X i) {j:Nat} (hj:j<=i.dfs.length) (hg:Gl X x) (hm:X.mg x=some (.ref i.f)) (ha:QA X (e::es) r) (hs:(e::es).all Bm=true) (hdb:(x==("__debug__" : Str))=false) :
  QE X (.Call (.Name x p) (e::es) [] pos) (dFn (spE i.sp (i.dfs.drop j)) r):=by
 intro Ex mt pins s σ H Q I h
 have h2:=bt▸hs
 rw [aA] at h2
 refine cx (Hj I hg hm ?_ hdb)
 refine g9 (h₀:=X.base) I.ok.mod.kin F.kp (thn (ha Ex mt pos pins s σ H _ I h) fun us s1 ⟨vs,H1,I1,r,q⟩=>⟨I1.kIn,?_⟩) (Bn h2.1 es X.env) (Bz h2.2 X.env pos)
 exact J7 F hj mt I1 r q
noncomputable def mkC (C:Addr):Option FI->Nat->List V->Hp->VK->EK->Prop
 | none,_=>fun vs H Q _=>vs=[] /\ ∀ a dx,H a=none->H dx=none->dx≠a->Q (.ref a) (upd (upd H dx (.own a)) a (.ins C dx []))
 | some i,j=>fun vs H Q E=>∀ a dx,H a=none->H dx=none->dx≠a ->
   i.sp (.ref a::(vs++i.dfs.drop j)) (upd (upd H dx (.own a)) a (.ins C dx [])) (fun v H2=>v=.non/\Q (.ref a) H2) (fun v _ H'=>∃ b,v=.ref b/\E b H')
theorem Z3 {C:Addr} (h1:cI X.K C=true) (h2:aP X.K (.ref C) "__init__" = some (some (.builtin "object.__init__"))) {pins:List (Addr×Obj)} {σ:St} {H:Hp} {s:al} {Q:VK}
  (I:Inv X pins σ H s) (h:∀ a dx,H a=none->H dx=none->dx≠a->Q (.ref a) (upd (upd H dx (.own a)) a (.ins C dx []))):aV (model X.prog X.w) X.A (call (.ref C) []) (EP X pins σ Q) X.xe s:=by
 have hq:=h (s.heap.objs.size+1) s.heap.objs.size (I.hok.fresh (d9 _)) (I.hok.fresh (ak _)) (aT (cZ _))
 have I2:=Inv.made (C:=C) I
 have e2:((s.heap.push bw).push (bM C s.heap.objs.size)).get? (s.heap.objs.size+1)=some (bM C s.heap.objs.size):=by
  have z:=aK (s.heap.push bw) (o:=bM C s.heap.objs.size) rfl
  rwa [df] at z
 refine ix (Zn I.kIn h1 h2 (fun self=>.of_pure (PySem.W.oi_bind self)) ?_)
 have ty:gE (model X.prog X.w) ((s.heap.push bw).push (bM C s.heap.objs.size)) (typeOf (.ref (s.heap.objs.size+1))) (.ref C):=(PySem.W.Looks.ld e2).andThen .now
 have io:gE (model X.prog X.w) ((s.heap.push bw).push (bM C s.heap.objs.size)) (isInstance (.ref (s.heap.objs.size+1)) (.type "object")) true:=
  ty.andThen ((iS (M:=model X.prog X.w) I.kIn h1).top.keeps fun b o e=>aj _ (aj _ e))
 refine gy PySem.W.oi_plain PySem.W.entry_oi (PySem.W.check_slot (s:={ s with heap:=(s.heap.push bw).push (bM C s.heap.objs.size) }) (i := "object.__init__") (owner := "object") (self:=.ref (s.heap.objs.size+1)) PySem.W.oi_kind PySem.W.oi_split io (PySem.W.oi_args _) ?_)
 rw [PySem.W.oi_run]
 exact ao ⟨rfl,⟨.ref _,_,I2,rfl,hq⟩⟩
theorem a36 {C f:Addr} {CX:CXT} {k:Nat} {fd:aB} {ps:List Str} {sp:Sp} {ds:List Value} {dvs:List V} {E:XK} {pins:List (Addr×Obj)} {σ:St} {H:Hp} {s:al} {Q:VK} {us:List Value} {vs:List V}
  (M:Mk X.K C f) (F:FnOk X.prog X.w X.K X.mg X.base CX k f fd ps sp) (hr:Room (k+1) X.A) (hb:Binds X.K fd ps ds) (hd:Vals dvs ds) (hx:∀ H1 s1 e s',Inv X pins σ H1 s1->CX X.stack H1 s1 E e s'->X.xe e s') (I:Inv X pins σ H s) (r:Vals vs us)
  (h:∀ x dx,H x=none->H dx=none->dx≠x->sp (.ref x::(vs++dvs)) (upd (upd H dx (.own x)) x (.ins C dx [])) (fun v H2=>v=.non/\Q (.ref x) H2) E) :
  aV (model X.prog X.w) X.A (call (.ref C) us) (EP X pins σ Q) X.xe s:=by
 have hq:=h (s.heap.objs.size+1) s.heap.objs.size (I.hok.fresh (d9 _)) (I.hok.fresh (ak _)) (aT (cZ _))
 have I2:=Inv.made (C:=C) I
 have r2:Vals (V.ref (s.heap.objs.size+1)::(vs++dvs)) (bp (s.heap.objs.size+1)::(us++ds)):=.cons rfl (r.append hd)
 have hl:(bp (s.heap.objs.size+1)::us++ds).length=ps.length:=by
  have e:=r2.length
  rw [F.len _ _ _ _ hq] at e
  exact e.symm
 refine ix (al0 (f:=f) I.kIn M.makes M.init (beq_iff_eq.mp M.fn) (gk (F.run _ X.stack _ _ ⟨bp (s.heap.objs.size+1)::us,[]⟩ (bp (s.heap.objs.size+1)::(us++ds)) _ _ E (hr.make C us [])
  (I2.env0.make C us []) (hb _ (bp (s.heap.objs.size+1)::us) I2.kIn hl) r2 hq) fun r s' hq'=>?_))
 cases r with
 | error e=>exact hx _ _ e s' I2 hq'
 | ok fl=>
  cases fl with
  | ret u=>
   obtain⟨v,H',I3,rv,ev,q3⟩:=I2.after hq'
   subst ev
   exact⟨rv,⟨V.ref (s.heap.objs.size+1),H',I3,rfl,q3⟩⟩
  | next=>exact cL hq'
  | brk=>exact cL hq'
  | cont=>exact cL hq'
theorem X9 {C:Addr} {oi:Option FI} {j:Nat} (hi:ab1 X C oi) (hj:∀ i,oi=some i->j<=i.dfs.length) {Ex:St->EK} (mt:Meets X Ex) {pins:List (Addr×Obj)} {σ:St} {H:Hp} {s:al} {Q:VK} {us:List Value} {vs:List V}
  (I:Inv X pins σ H s) (rv:Vals vs us) (kp:bu X.K (.ref C)=true) (h:mkC C oi j vs H Q (Ex σ)):aV (model X.prog X.w) X.A (call (.ref C) us) (EP X pins σ Q) X.xe s:=by
 cases oi with
 | none=>
  obtain⟨rfl,h⟩:=h
  cases rv
  exact Z3 hi.1 hi.2 I h
 | some i=>
  obtain⟨h0,h1,h2,F,hr⟩:=hi
  obtain⟨CX,hx,FO⟩:=F.ok
  exact a36 ⟨h0,h1,h2,kp⟩ FO hr (F.binds j (hj i rfl)) (F.vals.drop j) (fun H1 s1 e s' I1 q=>hx X rfl rfl Ex mt pins σ H1 s1 e s' I1 q) I rv h
theorem X2 {C:Addr} {oi:Option FI} {j:Nat} (hi:ab1 X C oi) (hj:∀ i,oi=some i->j<=i.dfs.length) (kp:bu X.K (.ref C)=true) (hg:Gl X x) (hm:X.mg x=some (.ref C)) (hdb:(x==("__debug__" : Str))=false) :
  QE X (.Call (.Name x p) [] [] pos) (dFn (mkC C oi j) Ai):=by
 intro Ex mt pins s σ H Q I h
 refine cx (Hj I hg hm ?_ hdb)
 exact gQ I.kIn kp (X9 (us:=[]) hi hj mt I .nil kp h)
theorem bm6 {C:Addr} {oi:Option FI} {j:Nat} {e:Expr} (hi:ab1 X C oi) (hj:∀ i,oi=some i->j<=i.dfs.length) (kp:bu X.K (.ref C)=true) (hg:Gl X x) (hm:X.mg x=some (.ref C)) (ha:QA X (e::es) r) (hs:(e::es).all Bm=true) (hdb:(x==("__debug__" : Str))=false) :
  QE X (.Call (.Name x p) (e::es) [] pos) (dFn (mkC C oi j) r):=by
 intro Ex mt pins s σ H Q I h
 have h2:=bt▸hs
 rw [aA] at h2
 refine cx (Hj I hg hm ?_ hdb)
 refine g9 (h₀:=X.base) I.ok.mod.kin kp (thn (ha Ex mt pos pins s σ H _ I h) fun us s1 ⟨vs,H1,I1,r,q⟩=>⟨I1.kIn,?_⟩) (Bn h2.1 es X.env) (Bz h2.2 X.env pos)
 exact X9 hi hj mt I1 r kp q
noncomputable def Ha (m:Str) (n:Nat) (l:List MI) (o:DE) (t:DA):DE:=fun σ H Q E=>o σ H (fun x H1=>∃ a dx fs mi,x=.ref a/\mi∈l/\H1 a=some (.ins mi.C dx fs)/\fs.lookup m=none/\(n+1<=mi.i.ps.length/\mi.i.ps.length<=n+1+mi.i.dfs.length) /\
 t σ H1 (fun vs H2=>spE mi.i.sp (mi.i.dfs.drop (n+1+mi.i.dfs.length - mi.i.ps.length)) (.ref a::vs) H2 Q E) E) E
theorem Sx {es:List Expr} {P:Value->al->Prop} {s:al} (h1:Dl o=true) (h2:es.all Bm=true) (h3:es.length<30) (h4:(apos.endLine==cpos.line)=true)
  (h:aV (model X.prog X.w) X.A (eval o X.env) (fun ov s1=>∀ pl,aV (model X.prog X.w) X.A (getMethod ov m pl) (fun fx s2=>aV (model X.prog X.w) X.A (callWith cpos fx.1 fx.2 (iT cpos (cW es X.env)) (lH cpos (j9 [] X.env))) P X.xe s2) X.xe s1) X.xe s) :
  aV (model X.prog X.w) X.A (eval (.Call (.Attribute o m apos) es [] cpos) X.env) P X.xe s:=by
 have few:methodCallForm (es.length+([]:List k8).length) (iT cpos (cW es X.env)) (lH cpos (j9 [] X.env))=true:=by
  unfold methodCallForm
  rw [Jo h2]
  simpa [lH,j9] using h3
 rw [arm_eval_Call,Ee h1]
 refine ag (thn h fun ov s1 h1=>ag (gI ?_))
 unfold methodCall calleeOf
 rw [few,if_pos rfl]
 refine ag (bO (thn (h1 _) fun fx s2 h2=>?_))
 have hp:methodCallPos true o X.env apos cpos=pure cpos:=by unfold methodCallPos;rw [h4];rfl
 rw [hp]
 exact ag (ao h2)
theorem a23 {l:List MI} (hl:∀ mi∈l,Cls X.K mi.C/\G3 X.K mi.C m mi.i.f/\Hz X mi.i) (ho:QE X o do') (h1:Dl o=true) (h4:(apos.endLine==cpos.line)=true) :
  QE X (.Call (.Attribute o m apos) [] [] cpos) (Ha m 0 l do' Ai):=by
 intro Ex mt pins s σ H Q I h
 refine Sx (es:=[]) h1 rfl (by decide) h4 (thn (ho Ex mt pins s σ H _ I h) fun u s1 ⟨x,H1,I1,rx,a,dx,fs,mi,ex,hm,ea,hf,hn,q⟩ pl=>?_)
 subst ex
 obtain rfl:u=bp a:=rx
 obtain⟨c,k,F⟩:=hl mi hm
 refine Kt I1 ea c k hf ?_
 exact gQ (first:=[.ref a]) I1.kIn k.kp (J7 (us:=[.ref a]) (vs:=[.ref a]) F (by omega) mt I1 (.cons rfl .nil) q)
theorem bn1 {l:List MI} {e:Expr} (hl:∀ mi∈l,Cls X.K mi.C/\G3 X.K mi.C m mi.i.f/\Hz X mi.i) (ho:QE X o do') (ha:QA X (e::es) r) (h1:Dl o=true) (h2:(e::es).all Bm=true) (h3:(e::es).length<30) (h4:(apos.endLine==cpos.line)=true) :
  QE X (.Call (.Attribute o m apos) (e::es) [] cpos) (Ha m (es.length+1) l do' r):=by
 intro Ex mt pins s σ H Q I h
 refine Sx h1 h2 h3 h4 (thn (ho Ex mt pins s σ H _ I h) fun u s1 ⟨x,H1,I1,rx,a,dx,fs,mi,ex,hm,ea,hf,hn,q⟩ pl=>?_)
 subst ex
 obtain rfl:u=bp a:=rx
 obtain⟨c,k,F⟩:=hl mi hm
 refine Kt I1 ea c k hf ?_
 have hs:=bt▸h2
 rw [aA] at hs
 refine g9 (first:=[.ref a]) (h₀:=X.base) I.ok.mod.kin k.kp (thn (ha Ex mt cpos pins s1 σ H1 _ I1 q) fun us s2 ⟨vs,H2,I2,r2,q2⟩=>⟨I2.kIn,?_⟩) (Bn hs.1 es X.env) (Bz hs.2 X.env cpos)
 exact J7 (us:=.ref a::us) (vs:=.ref a::vs) F (by omega) mt I2 (.cons rfl r2) q2
noncomputable def a33:V->Hp->VK->Prop:=fun x H Q=>match x with
 | .int i=>i.natAbs.log2<1920/\Q (.str (toString i)) H
 | .str z=>z.length<=sizeLine/\Q (.str z) H
 | _=>False
noncomputable def Xh:Str->List DE->DE
 | out,[]=>fun _ H Q _=>out.length<=sizeLine/\Q (.str out) H
 | out,d::ds=>fun σ H Q E=>d σ H (fun x H1=>match x with
  | .str y=>(out++y).length<=sizeLine/\Xh (out++y) ds σ H1 Q E
  | _=>False) E
theorem bm3 (ho:QE X o do'):QE X (.FormattedValue o (-1) none pos) (dUn a33 do'):=by
 intro Ex mt pins s σ H Q I h
 refine FormattedValue_plain (thn (ho Ex mt pins s σ H _ I h) fun u s1 ⟨x,H1,I1,rx,q⟩=>?_)
 cases x with
 | int i=>obtain⟨t,rfl⟩:=rx;exact formatField_int_small q.1 ⟨.str _,H1,I1.tok _,⟨_,rfl⟩,q.2⟩
 | str z=>obtain⟨t,rfl⟩:=rx;exact bI (ak _) (formatField_str (fun t' tk htk=>⟨.str _,H1,I1.tok _ htk,⟨_,rfl⟩,q.2⟩) q.1)
 | _=>exact (show False from q).elim
theorem Xr {w:Expr->DE} (h:∀ e,QE X e (w e)) {Ex:St->EK} (mt:Meets X Ex) {pins:List (Addr×Obj)} {σ:St} {Q:VK}:∀ {es:List Expr} {out:Str} {s:al} {H:Hp},Inv X pins σ H s->Xh out (es.map w) σ H Q (Ex σ) ->
  aV (model X.prog X.w) X.A (joinParts out (evalEach es X.env)) (EP X pins σ Q) X.xe s
 | [],out,s,H,I,q=>joinParts_nil ⟨.str _,H,I.tok _,⟨_,rfl⟩,q.2⟩ q.1
 | e::es,out,s,H,I,q=>joinParts_cons (thn (h e Ex mt pins s σ H _ I q) fun u s1 ⟨x,H1,I1,rx,q⟩=>by
  cases x with
  | str y=>obtain⟨t,rfl⟩:=rx;exact⟨q.1,Xr h mt I1 q.2⟩
  | _=>exact (show False from q).elim)
noncomputable def ba5 (w:Expr->DE):List Expr->DE
 | []=>dNo
 | [e]=>w e
 | e::f::es=>Xh a_ ((e::f::es).map w)
theorem a21 {w:Expr->DE} (h:∀ e,QE X e (w e)):∀ (es:List Expr),QE X (.JoinedStr es pos) (ba5 w es)
 | []=>Bu
 | [e]=>fun Ex mt pins s σ H Q I q=>JoinedStr_one (h e Ex mt pins s σ H Q I q)
 | e::f::es=>fun Ex mt pins s σ H Q I q=>JoinedStr_many (Xr (es:=e::f::es) h mt I q)
noncomputable def Jf:DE:=fun _ H Q _=>∀ p,H p=none->Q (.ref p) (upd H p (.dK []))\/Q (.ref p) (upd H p (.dT []))
theorem a19:QE X (.Dict [] [] pos) Jf:=fun Ex mt pins s σ H Q I h=>by
 have fr:=I.hok.fresh (ak s.heap.objs.size)
 rcases h _ fr with q|q
 ·exact wpAny_Dict_empty ⟨.ref _,_,I.laid (a:=s.heap.objs.size) (o:=.dK []) (t':=s.toks) (fun _ _ q=>aj _ q) (ak _) (Rx s.heap I.big),rfl,q⟩
 ·exact wpAny_Dict_empty ⟨.ref _,_,I.laid (a:=s.heap.objs.size) (o:=.dT []) (t':=s.toks) (fun _ _ q=>aj _ q) (ak _) (ah9 s.heap I.big),rfl,q⟩
noncomputable def Uq:List (DE×DE)->St->Hp->(List (V×V)->Hp->Prop)->EK->Prop
 | [],_,H,Q,_=>Q [] H
 | (k,v)::r,σ,H,Q,E=>k σ H (fun x H1=>v σ H1 (fun y H2=>Uq r σ H2 (fun ps H3=>Q ((x,y)::ps) H3) E) E) E
noncomputable def ah4 (trs:List (DE×DE)):DE:=fun σ H Q E=>∀ p,H p=none->Uq trs σ (upd H p (.dK [])) (fun ps H2=>H2 p=some (.dK []) /\ ∃ kvs:List (Key×V),ps=kvs.map (fun kv=>(kV kv.1,kv.2))/\kvs.length<=15/\Q (.ref p) (upd H2 p (.dK (Ed [] kvs)))) E
theorem an6 {w:Expr->DE} (h:∀ e,QE X e (w e)) {Ex:St->EK} (mt:Meets X Ex) (pos:Pos):∀ (ks vs:List Expr),ks.length=vs.length->PPs X pos (ks.map some) vs ((ks.zip vs).map fun p=>((fun σ H Q=>w p.1 σ H Q (Ex σ)),fun σ H Q=>w p.2 σ H Q (Ex σ)))
 | [],[],_=>a04
 | k::ks,v::vs,hl=>an5 (h k Ex mt) (h v Ex mt) (an6 h mt pos ks vs (by simpa using hl))
 | [],_::_,hl=>by simp at hl
 | _::_,[],hl=>by simp at hl
theorem Rs {Ex:St->EK} {w:Expr->DE}:∀ (l:List (Expr×Expr)) (σ:St) (H:Hp) (Q:List (V×V)->Hp->Prop),Uq (l.map fun p=>(w p.1,w p.2)) σ H Q (Ex σ)=Ql (l.map fun p=>((fun σ H Q=>w p.1 σ H Q (Ex σ)),fun σ H Q=>w p.2 σ H Q (Ex σ))) σ H Q
 | [],_,_,_=>rfl
 | (k,v)::r,σ,H,Q=>by
  show w k σ H _ _=w k σ H _ _
  congr 1
  funext x H1
  congr 1
  funext y H2
  exact Rs r σ H2 _
theorem a18 {w:Expr->DE} (h:∀ e,QE X e (w e)) {ks vs:List Expr} (hl:ks.length=vs.length) (h0:ks≠[]) (h15:ks.length<=15):QE X (.Dict (ks.map some) vs pos) (ah4 ((ks.zip vs).map fun p=>(w p.1,w p.2))):=by
 intro Ex mt pins s σ H Q I q
 refine a00 (an6 h mt pos ks vs hl) (by simp) (by simpa using hl) (by simpa using h0) (by simpa using h15) pins s σ H Q I ?_
 intro p hp
 have q:=q p hp
 rw [Rs] at q
 exact q
theorem Z0 {a:Expr} {da:DE} {p2 pos2:Pos} (hc:X.calm=true) (hg:Gl X "len") (hm:X.mg "len" = none) (hg2:Gl X "set") (hm2:X.mg "set" = none) (ha:QE X a da) (hs:Bm a=true) :
  QE X (.Call (.Name "len" p) [.Call (.Name "set" p2) [a] [] pos2] [] pos) (dUn (J6 X.K) da):=by
 intro Ex mt pins s σ H Q I h
 refine cx (Fv I hg hm PySem.boot_len (gf (fh ?_) rfl rfl) (by decide) (by decide))
 refine cx (Fv I hg2 hm2 PyProof.Rows.boot_set (cH ?_ (Bn hs [] X.env) rfl) (by decide) (by decide))
 rw [Bn hs]
 show aV _ _ (spliced ((false,eval a X.env)::iT pos2 (cW [] X.env))) _ _ s
 refine fh (thn (ha Ex mt pins s σ H _ I h) fun u s1 ⟨x,H1,I1,r1,q1⟩=>fR ?_)
 exact thn (ay4 hc I1 r1 q1) fun v s2 q=>fR q
noncomputable def Fa (K:ae):V->Hp->VK->Prop:=fun x H Q=>match x with
 | .ref p=>∃ kvs,Rd H p (.dK kvs)/\kvs.length<1000 /\ ∀ l Ts H',ad5 H H'->H l=none->H' l=some (.lst (Ts.map V.ref))->Ts.length=kvs.length->au1 H H' kvs Ts->Q (.ref l) H'
 | _=>False
theorem P5 {o:Expr} {do':DE} {ap cp:Pos} (hc:X.calm=true) (hg:Gl X "list") (hm:X.mg "list" = none) (ho:QE X o do') (h1:Dl o=true) (h4:(ap.endLine==cp.line)=true) :
  QE X (.Call (.Name "list" p) [.Call (.Attribute o "items" ap) [] [] cp] [] pos) (dUn (Fa X.K) do'):=by
 intro Ex mt pins s σ H Q I h
 refine cx (Fv I hg hm fO (cH (fh ?_) rfl rfl) (by decide) (by decide))
 refine iL (Ee h1 "items" X.env _) h4 (thn (ho Ex mt pins s σ H _ I h) fun v s1 ⟨x,H1,I1,r1,q1⟩=>?_)
 cases x with
 | ref a=>
  cases r1
  obtain⟨kvs,rd,few,q⟩:=q1
  obtain⟨_,lo,vs,rel,dof⟩:=Fr I1.hok rd
  obtain⟨ob,es,ep,e,c,_⟩:=id dof
  refine⟨"dict", "dict.items", fF,iG,PySem.F.type_dict_items,dof.typeIs,fun a' e'=>?_,fN rfl (jX ?_)⟩
  ·cases e';exact⟨ob,e,c.2.1⟩
  ·exact thn (U8 hc I1 rd few fun l Ts H' s' I' top fr hl len laid=>⟨.ref l,H',I',rfl,q l Ts H' top fr hl len laid⟩) fun v s2 q=>fR q
 | _=>exact (show False from q1).elim
end
noncomputable def ba7 (lo st:Int) (n:Nat):It:=⟨fun i _=>i<n,fun i H x H'=>H'=H/\x=.int (lo+(i:Int) * st),fun i _=>n<=i⟩
theorem aa5 {P:aW} {w:bE} {K:ae} {tg:Expr} (it:Addr) (lo st:Int) (n:Nat):Om P w K tg (ba7 lo st n) [it] it (fun i h=>jU h it (lo+(i:Nat) * st) ((n:Int) - (i:Nat)) st) where
 mem:=List.mem_singleton.mpr rfl
 obj:=fun i h q b hb=>by
  obtain rfl:=List.mem_singleton.mp hb
  exact⟨_,q,fun v z=>by cases (show Data.fields _=Data.cell v from z)⟩
 keep:=fun i h h' q k=>k it (List.mem_singleton.mpr rfl) _ q
 item:=by
  intro X hP hw hK hc i pins s σ H E I hf q go
  subst hP hw hK
  obtain⟨g0,g1,_,g3,g4,g5⟩:=hf it (List.mem_singleton.mpr rfl)
  refine bI (ak _) ((Walks.range (prog:=X.prog) (w:=X.w) (I.ok.hd hc) it lo st n).item i s _ _ go q fun v h' tk hv q' kk htk=>?_)
  obtain⟨t,rfl⟩:=hv
  have I1:Inv X pins σ H { s with heap:=h',toks:=tk }:=I.turned (fun b o nb e=>kk b o (fun z=>nb (List.mem_singleton.mp z)) e) g0 g1 g3 g4 g5
  exact⟨_,rfl,Np (s:={ s with heap:=h',toks:=tk }) (n := "range_iterator") q' rfl rfl (by decide) ⟨.int (lo+(i:Int) * st),H,I1,⟨t,rfl⟩,⟨rfl,rfl⟩,q',fun b hb=>(hf b hb).1⟩⟩
 done:=by
  intro X hP hw hK hc i pins s σ H E I hf q go
  subst hP hw hK
  obtain⟨g0,g1,_,g3,g4,g5⟩:=hf it (List.mem_singleton.mpr rfl)
  exact je (I.ok.hd hc) q (by have:n<=i:=go;omega) fun h' eb=>⟨rfl,I.turned (t':=s.toks) (fun b o nb e=>eb b o nb e) g0 g1 g3 g4 g5⟩
 self:=fun _ _ _ _ _ q h=>jc q h
section
variable {X:Cx} {tg:Expr}
theorem a42 {pins:List (Addr×Obj)} {σ:St} {H:Hp} {s:al} {R:It->Hp->Prop} {E:Value->al->Prop} {lo hi st:Int} {t u v:Tok} {tk:Nat} (I:Inv X pins σ H s) (htk:s.toks<=tk) (sm:jS lo hi st=true)
  (q:R (ba7 lo st (ck lo hi st).toNat) H):aV (model X.prog X.w) X.A (lB (.ref s.heap.objs.size)) (PIE X pins σ tg R) E { s with heap:=s.heap.push { cls:=.type "range", data:=.fields #[.int lo t,.int hi u,.int st v] },toks:=tk }:=by
 refine kI (IsRange.new ..) sm ?_
 have I1:Inv X pins σ H { s with heap:=s.heap.push { cls:=.type "range", data:=.fields #[.int lo t,.int hi u,.int st v] },toks:=tk }:=I.kept fun b o e=>aj _ e
 generalize s.heap.push { cls:=.type "range", data:=.fields #[.int lo t,.int hi u,.int st v] }=h1 at I1 ⊢
 refine⟨h1.objs.size,[h1.objs.size],_,_,H,rfl,I1.kept (t':=tk) fun b o e=>aj _ e,aa5 _ lo st (ck lo hi st).toNat,?_,fun b hb=>?_,q⟩
 ·have e:lo+((0:Nat):Int) * st=lo:=by rw [Int.natCast_zero,Int.zero_mul,Int.add_zero]
  have f:(((ck lo hi st).toNat:Nat):Int) - ((0:Nat):Int)=ck lo hi st:=by
   rw [<- rangeSize_toNat,Int.natCast_zero,Int.sub_zero]
  show jU _ _ (lo+((0:Nat):Int) * st) ((((ck lo hi st).toNat:Nat):Int) - ((0:Nat):Int)) st
  rw [e,f]
  exact aK _ rfl
 ·obtain rfl:=List.mem_singleton.mp hb
  exact I1.fpOk (ak _) (I1.hok.fresh (ak _))
end
noncomputable def QI (X:Cx) (tg e:Expr) (t:DI):Prop:=∀ Ex,Meets X Ex->PI X tg e (fun σ H R=>t σ H R (Ex σ))
noncomputable def iNo:DI:=fun _ _ _ _=>False
noncomputable def onD (p:Addr) (H:Hp) (R:Obj->List (Key×V)->Hp->Prop):Prop:=(∃ kvs,H p=some (.dK kvs) /\ ∀ o,R o kvs (upd H p (.frz o (.dK kvs)))) \/ ∃ o kvs,H p=some (.frz o (.dK kvs))/\R o kvs H
theorem am4 {X:Cx} {pins:List (Addr×Obj)} {σ:St} {H:Hp} {s:al} {p:Addr} {R:Obj->List (Key×V)->Hp->Prop} (I:Inv X pins σ H s) (h:onD p H R):∃ o kvs H',Inv X pins σ H' s/\H' p=some (.frz o (.dK kvs))/\R o kvs H':=by
 rcases h with ⟨kvs,e,q⟩|⟨o,kvs,e,q⟩
 ·obtain⟨o,ep,_,_,I'⟩:=I.froze e
  exact⟨o,kvs,_,I',Ad,q o⟩
 ·exact⟨o,kvs,H,I,e,q⟩
noncomputable def Bd (K:ae) (a:DE):DI:=fun σ H R E=>a σ H (fun x H1=>match x with
 | .str z=>R (Its z) H1
 | .ref p=>((∃ xs,SqL K H1 p xs)/\R (Itl K p) H1)\/((∃ xs,SqT K H1 p xs)/\R (Itt K p) H1)\/onD p H1 fun o kvs H2=>R (Itd p o kvs) H2
 | _=>False) E
noncomputable def Ft (t:DA):DI:=fun σ H R E=>t σ H (fun vs H1=>match vs with
 | [.int j]=>(-(2 ^ 62)<=j/\j<2 ^ 62)/\R (Itr 0 j.toNat) H1
 | [.int i,.int j]=>(-(2 ^ 62)<=i/\i<2 ^ 62 /\ -(2 ^ 62)<=j/\j<2 ^ 62)/\R (Itr i (j - i).toNat) H1
 | [.int i,.int j,.int k]=>(jS i j k=true/\1<=k/\k<=1000)/\R (ba7 i k (ck i j k).toNat) H1
 | _=>False) E
noncomputable def iEn (K:ae) (t:DA):DI:=fun σ H R E=>t σ H (fun vs H1=>match vs with
 | [.ref a]=>((∃ xs,SqL K H1 a xs)/\R (Ite K a) H1)\/onD a H1 fun o kvs H2=>R (ab0 a o kvs) H2
 | _=>False) E
section
variable {X:Cx} {tg e a b:Expr} {da:DE} {r:DA} {p pos:Pos}
theorem a86:QI X tg e iNo:=fun _ _ _ _ _ _ _ _ h=>h.elim
theorem ao7 (ha:QE X e da):QI X tg e (Bd X.K da):=by
 intro Ex mt pins s σ H R I h
 refine thn (ha Ex mt pins s σ H _ I h) fun v s1 ⟨x,H1,I1,r1,q1⟩=>?_
 cases x with
 | str z=>
  obtain⟨t,rfl⟩:=r1
  refine wpAny_pyIter_strU ?_
  refine⟨s1.heap.objs.size,[s1.heap.objs.size],_,_,H1,rfl,I1.kept (t':=s1.toks) fun b o e=>aj _ e,as7 s1.heap.objs.size z t (strIterType z) (by unfold strIterType;split <;> simp),⟨_,aK _ rfl,rfl,rfl⟩,fun b hb=>?_,q1⟩
  have e:b=s1.heap.objs.size:=by simpa using hb
  subst e
  exact I1.fpOk (ak _) (I1.hok.fresh (ak _))
 | ref a=>
  cases r1
  rcases q1 with ⟨⟨xs,hq⟩,q⟩|⟨⟨xs,hq⟩,q⟩|q
  ·obtain⟨its,rv,p,hz⟩:=I1.list hq
   refine iy p.isList ?_
   refine⟨s1.heap.objs.size,[s1.heap.objs.size],_,_,H1,rfl,I1.kept (t':=s1.toks) fun b o e=>aj _ e,aa4 a _,⟨_,aK _ rfl,rfl,rfl⟩,fun b hb=>?_,q⟩
   have e:b=s1.heap.objs.size:=by simpa using hb
   subst e
   exact I1.fpOk (ak _) (I1.hok.fresh (ak _))
  ·obtain⟨its,rv,p,hz⟩:=I1.tuple hq
   refine wpAny_pyIter_tuple (show s1.heap.IsTuple a its.toArray from p) ?_
   refine⟨s1.heap.objs.size,[s1.heap.objs.size],_,_,H1,rfl,I1.kept (t':=s1.toks) fun b o e=>aj _ e,Wz a _,⟨_,aK _ rfl,rfl,rfl⟩,fun b hb=>?_,q⟩
   have e:b=s1.heap.objs.size:=by simpa using hb
   subst e
   exact I1.fpOk (ak _) (I1.hok.fresh (ak _))
  ·obtain⟨o,kvs,H2,I2,e,q⟩:=am4 I1 q
   exact aw1 I2 e q
 | _=>exact (show False from q1).elim
variable {es:List Expr}
theorem ao6 (hg:Gl X "range") (hm:X.mg "range" = none) (ha:QA X (a::es) r) (hs:(a::es).all Bm=true):QI X tg (.Call (.Name "range" p) (a::es) [] pos) (Ft r):=by
 intro Ex mt pins s σ H R I h
 have h2:=bt▸hs
 rw [aA] at h2
 refine Call_ (Fv I hg hm boot_range (cH (thn (ha Ex mt pos pins s σ H _ I h) fun us s1 ⟨vs,H1,I1,r1,q1⟩=>?_) (Bn h2.1 es X.env) (Bz h2.2 X.env pos)))
 dsimp only at q1
 split at q1
 ·obtain⟨⟨h1,h2⟩,q⟩:=q1
  obtain⟨u,rfl,t,rfl⟩:=F9 r1
  exact call_range_1 (Th I1 (by first|exact ak _|exact aU _ _|omega|(dsimp only;omega)) (by omega) (by omega) h1 h2 (by simpa using q))
 ·obtain⟨⟨h1,h2,h3,h4⟩,q⟩:=q1
  obtain⟨u,v,rfl,⟨t,rfl⟩,⟨t',rfl⟩⟩:=ce4 r1
  exact call_range_2 (Th I1 (by first|exact ak _|exact aU _ _|omega|(dsimp only;omega)) h1 h2 h3 h4 q)
 ·obtain⟨⟨h1,h2,h3⟩,q⟩:=q1
  cases r1 with
  | cons ra rr=>cases rr with
   | cons rb rr=>cases rr with
    | cons rc rr=>
     cases rr
     obtain⟨t,rfl⟩:=ra
     obtain⟨t',rfl⟩:=rb
     obtain⟨t2,rfl⟩:=rc
     exact call_range_3 (by omega) (a42 I1 (by first|exact ak _|exact aU _ _|omega|(dsimp only;omega)) h1 q) (.inl (i_ (by omega)))
 ·exact q1.elim
theorem a25 {elts:List Expr} {kt:Nat} {pt:Pos} (hg:Gl X "enumerate") (hm:X.mg "enumerate" = none) (ha:QA X (a::es) r) (hs:(a::es).all Bm=true):QI X (.Tuple elts kt pt) (.Call (.Name "enumerate" p) (a::es) [] pos) (iEn X.K r):=by
 intro Ex mt pins s σ H R I h
 have hh:=bt▸hs
 rw [aA] at hh
 refine Call_ (Fv I hg hm boot_enumerate (cH (thn (ha Ex mt pos pins s σ H _ I h) fun us s1 ⟨vs,H1,I1,r1,q1⟩=>?_) (Bn hh.1 es X.env) (Bz hh.2 X.env pos)))
 dsimp only at q1
 split at q1
 ·rename_i l
  obtain⟨u,rfl,ru⟩:=F9 r1
  cases ru
  rcases q1 with ⟨⟨xs,q1⟩,q⟩|q
  case inr=>
   obtain⟨o,kvs,H2,I2,e,q⟩:=am4 I1 q
   exact ai0 I2 e q
  obtain⟨its1,t1,p1,z1⟩:=I1.list q1
  refine call_enumerate_list p1.isList fun h' he hit hsz hk=>?_
  refine f8 he ?_
  refine⟨_,_,_,_,H1,rfl,I1.kept (t':=s1.toks) hk,aa3 (Nat.succ_ne_self _),⟨⟨_,he⟩,hit⟩,fun b hb=>?_,q⟩
  have hb:b=s1.heap.objs.size+1\/b=s1.heap.objs.size:=by simpa using hb
  have le:s1.heap.objs.size<=b:=by
   rcases hb with e|e
   ·rw [e];exact aU _ 1
   ·rw [e];exact ak _
  exact I1.fpOk le (I1.hok.fresh le)
 ·exact q1.elim
noncomputable def gNo:DG:=fun _ _ _ _=>False
noncomputable def gdS:List DG->List V->St->Hp->(St->Hp->Prop)->Prop
 | [],[],σ,H,Q=>Q σ H
 | g::gs,v::vs,σ,H,Q=>g v σ H fun σ' H'=>gdS gs vs σ' H' Q
 | _,_,_,_,_=>False
noncomputable def gdT (K:ae) (n:Nat) (gs:List DG):DG:=fun v σ H Q=>match v with
 | .ref a=>∃ xs,(SqT K H a xs\/SqL K H a xs)/\xs.length=n/\gdS gs xs σ H Q
 | _=>False
theorem Sz:PG X tg gNo:=fun _ _ _ _ _ _ _ _ _ h=>h.elim
theorem b44:PGs X [] (gdS []):=by
 intro pins s σ H vs us Q I r h
 cases vs with
 | nil=>exact a02 pins s σ H [] us Q I r ⟨rfl,h⟩
 | cons v vs=>exact (show False from h).elim
theorem b43 {g:DG} {gs:List DG} {ts:List Expr} (h1:PG X tg g) (h2:PGs X ts (gdS gs)) (hs:(cV (tg::ts) X.env).map (·.2)=kS tg X.env::(cV ts X.env).map (·.2)):PGs X (tg::ts) (gdS (g::gs)):=by
 intro pins s σ H vs us Q I r h
 cases vs with
 | nil=>exact (show False from h).elim
 | cons v vs=>exact am9 h1 h2 hs pins s σ H (v::vs) us Q I r ⟨v,vs,rfl,h⟩
theorem ci6 {ts:List Expr} {k n:Nat} {gs:List DG} (hc:X.calm=true) (h:PGs X ts (gdS gs)) (hn:(cV ts X.env).length=n) (hst:(cV ts X.env).findIdx? (·.1)=none):PG X (.Tuple ts k pos) (gdT X.K n gs):=by
 intro pins s σ H v u Q I r hw
 cases v with
 | ref a=>
  obtain⟨xs,h1|h1,h2,h3⟩:=hw
  ·exact bl0 hc h hn hst pins s σ H _ u Q I r ⟨a,xs,rfl,h1,h2,h3⟩
  cases r
  obtain⟨its,rv,pl,_⟩:=I.list h1
  rw [assign_Tuple]
  refine ag (gI ?_)
  unfold unpack
  rw [hst,show (cV ts X.env).length=its.toArray.size by rw [hn,<- h2,rv.length];rfl]
  refine ag (bO (PySem.W.kun_itemsOf (I.ok.hd hc) pl.isList fun h' hx=>?_))
  have I1:Inv X pins σ H { s with heap:=h' }:=I.kept (t':=s.toks) fun b o e=>hx b o (aT (aN e)) e
  exact h pins _ σ H xs _ Q I1 (by simpa using rv) h3
 | _=>exact (show False from hw).elim
end
noncomputable def Db (cs:List (Str×Addr)):List (Str×cw)->List (Str×Addr)->List (Str×Addr)
 | [],acc=>acc
 | (n,k)::r,acc=>if k==.free then Db cs r ((n,(cs.lookup n).getD 0)::acc) else Db cs r acc
theorem Mv {scope:Scope} {env:Env} (h:∀ y∈scope.names,y.2=.free -> ∃ c,env.cells.lookup y.1=some c):closureFor scope env=pure (Db env.cells scope.names []):=by
 unfold closureFor
 generalize scope.names=names at h
 suffices ∀ acc,(forIn names acc fun (x:Str×cw) cs=>do
   if (x.2==.free)=true then do
    let c <- cellOf env x.1
    pure (d7 ((x.1,c)::cs))
   else pure (d7 cs):Sem (List (Str×Addr)))=pure (Db env.cells names acc) by
  have:=this []
  simp only [bind_pure]
  exact this
 induction names with
 | nil=>intro acc;rfl
 | cons y r ih=>
  intro acc
  obtain⟨n,k⟩:=y
  rw [List.forIn_cons]
  unfold Db
  by_cases e:(k==dM)=true
  ·obtain⟨c,hc⟩:=h (n,k) (by simp) (cJ e)
   have ec:cellOf env n=pure c:=by
    unfold cellOf
    rw [show env.cells.lookup n=some c from hc]
   simp only [e,if_true,ec,pure_bind]
   rw [ih (fun y hy=>h y (ar _ hy))]
   rw [show env.cells.lookup n=some c from hc]
   rfl
  ·have e':(k==dM)=false:=by simpa using e
   simp only [e',cU,if_false,pure_bind]
   rw [ih (fun y hy=>h y (ar _ hy))]
theorem Id {cs:List (Str×Addr)}:∀ {names:List (Str×cw)} {acc:List (Str×Addr)} {p:Str×Addr},p∈Db cs names acc->p∈acc\/((p.1,dM)∈names/\p.2=(cs.lookup p.1).getD 0)
 | [],_,_,h=>.inl h
 | (n,k)::r,acc,p,h=>by
  unfold Db at h
  by_cases e:(k==dM)=true
  ·rw [if_pos e] at h
   rcases Id h with h|⟨h1,h2⟩
   ·rcases List.mem_cons.mp h with h|h
    ·subst h
     exact .inr ⟨by rw [cJ e];simp,rfl⟩
    ·exact .inl h
   ·exact .inr ⟨ar _ h1,h2⟩
  ·rw [if_neg e] at h
   rcases Id h with h|⟨h1,h2⟩
   ·exact .inl h
   ·exact .inr ⟨ar _ h1,h2⟩
theorem Ic {cs:List (Str×Addr)}:∀ {names:List (Str×cw)} {acc:List (Str×Addr)} {p:Str×Addr},p∈acc->p∈Db cs names acc
 | [],_,_,h=>h
 | (n,k)::r,acc,p,h=>by
  unfold Db
  split
  ·exact Ic (ar _ h)
  ·exact Ic h
theorem Nb {cs:List (Str×Addr)}:∀ {names:List (Str×cw)} {acc:List (Str×Addr)} {n:Str},(n,dM)∈names->n∈(Db cs names acc).map (·.1)
 | [],_,_,h=>by cases h
 | (m,k)::r,acc,n,h=>by
  unfold Db
  rcases List.mem_cons.mp h with e|h
  ·cases e
   rw [if_pos (show (dM==dM)=true from rfl)]
   exact List.mem_map.mpr ⟨_,Ic (az),rfl⟩
  ·split <;> exact Nb h
noncomputable def Ti (sc:List (Str×cw)) (names:List (Str×cw)):List (Str×cw):=names.map fun (n,k)=>if (k==.free&&sc.lookup n==some .cell) then (n,.cell) else (n,k)
noncomputable def R5 (names:List (Str×cw)):List Str:=(names.filter fun y=>(y.2==.local) && !(y.1==(".0" : Str))).map (·.1)
noncomputable def Ux (names:List (Str×cw)):List Str:=(names.filter fun y=>y.2==.free).map (·.1)
noncomputable def cfV (o:Option cw):Bool:=o==some .cell||o==some .free
noncomputable def Dc (G:Sg) (names:List (Str×cw)):Sg:={ G with N:=R5 names++Ux names,sc:=Ti G.sc names,top:=false }
noncomputable def Gb (G:Sg) (names:List (Str×cw)):List (Option Nat):=(R5 names).map (fun _=>none)++(Ux names).map (fun x=>Ei G.N x 0)
noncomputable def Fn (G:Sg) (sc:Scope):Bool:=
 (sc.names.all fun y=>!(y.2==.cell))&&(sc.names.all fun y=>!(y.2==.local)||(sc.names.lookup y.1==some .local))&&(sc.kind==.function) &&
 decide (R5 sc.names++Ux sc.names).Nodup&&((Ux sc.names).all fun x=>(Ei G.N x 0).isSome&&cfV (G.sc.lookup x)&&cfV ((Ti G.sc sc.names).lookup x)) &&
 ((R5 sc.names).all fun x=>(Ti G.sc sc.names).lookup x==some .local)
section
variable {X:Cx} {G:Sg} {sc:Scope}
theorem G9 {o:Option cw} (h:cfV o=true):o=some .cell\/o=some .free:=by
 unfold cfV at h
 rw [dW] at h
 exact h.elim (fun e=>.inl (cJ e)) fun e=>.inr (cJ e)
theorem G0 (O:GOk X G):(ia sc X.env).names=Ti G.sc sc.names:=by
 unfold ia Ti
 apply b_
 rintro⟨n,k⟩ _
 have e:X.env.kindOf n=G.sc.lookup n:=O.sc n
 dsimp only
 rw [e,O.kind]
 simp
theorem O3 (O:GOk X G) (h:Fn G sc=true):Ka X (Dc G sc.names).N (Gb G sc.names) sc (Db X.env.cells sc.names []):=by
 unfold Fn at h
 simp only [aA,aY,ez,decide_eq_true_eq,dW] at h
 obtain⟨⟨⟨⟨⟨h1,h2⟩,h3⟩,h4⟩,h5⟩,h6⟩:=h
 have fr:∀ y∈sc.names,y.2=.free -> ∃ c,X.env.cells.lookup y.1=some c:=fun y hy hf=>by
  refine O.cel y.1 ?_
  rw [O.sc]
  refine G9 (h5 y.1 ?_).1.2
  exact List.mem_map.mpr ⟨y,List.mem_filter.mpr ⟨hy,by rw [hf];rfl⟩,rfl⟩
 have nc:∀ y∈sc.names,y.2≠.cell:=fun y hy e=>by
  have:=h1 y hy
  rw [e] at this
  cases this
 refine⟨Mv fr,nc,cJ h3,fun y hy hl=>?_,fun x c hx=>?_,fun x hx=>?_,?_,fun k j x e1 e2=>?_⟩
 ·rcases h2 y hy with z|z
  ·rw [hl] at z;cases z
  ·exact cJ z
 ·have hm:=cb hx
  rcases Id hm with z|⟨z1,z2⟩
  ·cases z
  ·obtain⟨c',hc'⟩:=fr _ z1 rfl
   have z2':c=(X.env.cells.lookup x).getD 0:=z2
   rw [show X.env.cells.lookup x=some c' from hc'] at z2' ⊢
   rw [z2']
   rfl
 ·have hn:(ia sc X.env).names=Ti G.sc sc.names:=G0 O
  have key:∀ kd,(ia sc X.env).names.lookup x=some kd->cfV (some kd)=true -> ∃ c,(Db X.env.cells sc.names []).lookup x=some c:=fun kd hkd hc=>by
   rw [hn] at hkd
   have hm:=cb hkd
   unfold Ti at hm
   obtain⟨⟨n,k⟩,hy,e⟩:=List.mem_map.mp hm
   dsimp only at e
   have hfree:k=.free/\n=x:=by
    have hkc:=nc _ hy
    by_cases e1:(k==dM&&G.sc.lookup n==some .cell)=true
    ·rw [if_pos e1] at e
     rw [aA] at e1
     exact⟨cJ e1.1,congrArg Prod.fst e⟩
    ·rw [if_neg e1] at e
     cases e
     rcases G9 hc with z|z
     ·exact absurd (aE z) hkc
     ·exact⟨aE z,rfl⟩
   obtain⟨rfl,rfl⟩:=hfree
   exact al1 (Nb hy)
  rcases hx with hx|hx
  ·exact key _ hx rfl
  ·exact key _ hx rfl
 ·unfold Gb Dc
  simp
 ·have e1':(R5 sc.names++Ux sc.names)[k]? = some x:=e1
  have e2':((R5 sc.names).map (fun _=>(none:Option Nat))++(Ux sc.names).map (fun x=>Ei G.N x 0))[k]? = some (some j):=e2
  by_cases hlt:k<(R5 sc.names).length
  ·rw [cO (by simpa using hlt),ai] at e2'
   cases q:(R5 sc.names)[k]? with
   | none=>rw [q] at e2';cases e2'
   | some z=>rw [q] at e2';cases e2'
  ·rw [bB (by simpa using hlt)] at e1' 
   rw [bB (by simpa using hlt),ac,ai,e1'] at e2'
   have hs:Ei G.N x 0=some j:=aE e2'
   have hx:x∈Ux sc.names:=af e1'
   obtain⟨⟨_,c1⟩,c2⟩:=h5 x hx
   refine⟨by rw [O.N];exact F2 hs,?_,?_⟩
   ·rw [O.sc];exact G9 c1
   ·rw [G0 O];exact G9 c2
theorem Xf (O:GOk X G) (h:Fn G sc=true) (fp:List Addr) (C:Addr) (s:al) (H:Hp) (xe:Value->al->Prop) :
  GOk (X.comp (Dc G sc.names).N sc (Db X.env.cells sc.names []) fp C s H xe) (Dc G sc.names):=by
 have S:=O3 O h
 unfold Fn at h
 simp only [aA,aY,ez,decide_eq_true_eq,dW] at h
 obtain⟨⟨⟨⟨⟨h1,h2⟩,h3⟩,h4⟩,h5⟩,h6⟩:=h
 have hn:(ia sc X.env).names=Ti G.sc sc.names:=G0 O
 refine⟨O.K,cJ h3,(fun z=>by cases z),rfl,h4,fun x=>?_,fun x hx=>?_,fun z=>(by cases z),O.calm,O.hd,O.units,fun x hx=>S.has x hx,fun x g e=>?_,O.bl,fun z=>(by cases z),O.fr⟩
 ·show (ia sc X.env).names.lookup x=_
  rw [hn]
  rfl
 ·show Vis (ia sc X.env) x
  unfold Vis
  rw [hn]
  rcases List.mem_append.mp hx with q|q
  ·exact .inl (cJ (h6 x q))
  ·exact .inr (G9 (h5 x q).2)
 ·refine GBOk.to (X:=X) ?_ ?_ ?_ ?_ ?_ ?_ (O.gb x g e)
  ·rfl
  ·rfl
  ·rfl
  ·rfl
  ·exact fun _ r=>r
  ·exact fun i F=>⟨F.kp,F.ok,F.room,F.binds,F.vals⟩
end
noncomputable def Ce:St->Hp->(Option Int->Hp->Prop)->EK->Prop:=fun _ H Q _=>Q none H
noncomputable def Dd (a:DE):St->Hp->(Option Int->Hp->Prop)->EK->Prop:=fun σ H Q E=>a σ H (fun x H1=>match x with
 | .int i=>Q (some i) H1
 | _=>False) E
noncomputable abbrev DO:=St->Hp->(Option Int->Hp->Prop)->EK->Prop
noncomputable def cj2 (K:ae):V->Option Int->Option Int->Hp->VK->Prop:=fun x lo hi H Q=>match x with
 | .str z=>z.length<=sizeLine/\Q (.str (iu z lo hi)) H
 | .ref a=>(∃ xs,SqL K H a xs /\ ∀ p,H p=none->Q (.ref p) (upd H p (.lst (Ds xs lo hi)))) \/
   (∃ xs,SqT K H a xs/\((HT.sIx xs.length 0 lo=0/\HT.sIx xs.length xs.length hi=xs.length)->Q (.ref a) H)/\(¬ (HT.sIx xs.length 0 lo=0/\HT.sIx xs.length xs.length hi=xs.length) -> ∀ p,H p=none->Q (.ref p) (upd H p (.tup (Ds xs lo hi)))))
 | _=>False
noncomputable def dSl (K:ae) (a:DE) (l h:DO):DE:=fun σ H Q E=>a σ H (fun x H1=>l σ H1 (fun lo H2=>h σ H2 (fun hi H3=>cj2 K x lo hi H3 Q) E) E) E
noncomputable def QO (X:Cx) (e:Option Expr) (t:DO):Prop:=∀ Ex,Meets X Ex->PO X e (fun σ H Q=>t σ H Q (Ex σ))
theorem He {prog:aW} {w:bE} {A:bj} {E:Value->al->Prop} {s:al} {t sl:Addr} {items:Array Value} {vl vu:Value} {lo hi:Option Int} {Q:Value->al->Prop} (ht:lL s.heap t items) (hs:s.heap.IsSliceOf sl vl vu .none) (pl:ke vl lo) (pu:ke vu hi)
  (hw:HT.sIx items.size 0 lo=0/\HT.sIx items.size items.size hi=items.size) (h:Q (.ref t) s):aV (model prog w) A (j8 (.ref t) (.ref sl)) Q E s:=by
 obtain⟨os,hos,hcs,hds⟩:=id hs
 have hTs:s.TypeIs (.ref sl) "slice" := ⟨os,hos,hcs⟩
 unfold j8
 try with_reducible refine bO ?_
 first|refine ag (ao ?_)|skip
 refine ag (wpAny_sequenceKey ht.typeIs (by decide) ?_)
 refine ag (cq (name:=cS "__getitem__") ht.typeIs bS
  (c6 bS ht.typeIs PyProof.Rows.entry_tuple_getitem ?_ (PyProof.Rows.args_tuple_getitem _ _)))
 show aV _ _ (gX (.ref t) >>= _) _ _ s
 refine ag (tupleItemsOf_ ht ?_)
 refine ag (g_ hTs ?_)
 rw [if_pos (by decide)]
 refine ag (HT.sliceApplied_gen hs pl pu ?_)
 have hy:(((HT.sIx items.size 0 lo:Nat):Int)==0&&(1:Int)==1&&(HT.sIx items.size items.size hi - HT.sIx items.size 0 lo)==items.size)=true:=by
  rw [hw.1,hw.2]
  simp
 show aV _ _ (if (((HT.sIx items.size 0 lo:Nat):Int)==0&&(1:Int)==1&&(HT.sIx items.size items.size hi - HT.sIx items.size 0 lo)==items.size)=true then _ else _) _ _ s
 rw [if_pos hy]
 refine ag (m:=Builtin.Tuple.tupleIsExact _) (ag (g_ ht.typeIs (ao ?_)))
 rw [if_pos (by decide)]
 exact ag (jI (ao ⟨_,rfl,ao h⟩))
noncomputable def cj1 (K:ae):V->Option Int->Option Int->Hp->VK->Prop:=fun x lo hi H Q=>∃ a xs,x=.ref a/\SqT K H a xs/\(HT.sIx xs.length 0 lo=0/\HT.sIx xs.length xs.length hi=xs.length)/\Q (.ref a) H
theorem bt6 {X:Cx}:SlR X (cj1 X.K):=by
 intro pins s σ H x v vl vu lo hi sl Q I rx hs pl pu h
 obtain⟨a,xs,rfl,hx,hw,q⟩:=h
 cases rx
 obtain⟨its,r,ht,hz⟩:=I.tuple hx
 have hlen:its.toArray.size=xs.length:=by rw [av];exact r.length.symm
 exact⟨"tuple", _,PyProof.Rows.slot_tuple_getitem.lookup,ht.typeIs,He ht hs pl pu (by rw [hlen];exact hw) ⟨.ref a,H,I,rfl,q⟩⟩
section
variable {X:Cx} {G:Sg} {e:Expr} {de:DE} {lo hi:Option Expr} {dl dh:DO} {pos p2:Pos}
theorem X3:QO X none Ce:=fun _ _=>a03
theorem X4 (h:QE X e de):QO X (some e) (Dd de):=by
 intro Ex m pins s σ H Q I hw
 rw [evalPart_some]
 refine thn (h Ex m pins s σ H _ I hw) fun u s1 ⟨x,H1,I1,r1,q1⟩=>?_
 cases x with
 | int i=>obtain⟨t,rfl⟩:=r1;exact⟨some i,H1,I1,.int i t,q1⟩
 | _=>exact (show False from q1).elim
theorem Pw (e:Expr) (z:Str) (t:Tok) (r:Value):letTemporaryGo e (.str z t) r=pure ():=by
 cases e <;> rfl
theorem ao5 (he:QE X e de) (hl:QO X lo dl) (hh:QO X hi dh):QE X (.Subscript e (.Slice lo hi none p2) pos) (dSl X.K de dl dh):=by
 intro Ex m pins s σ H Q I h
 refine Subscript_ (thn (he Ex m pins s σ H _ I h) fun v s1 ⟨x,H1,I1,r1,q1⟩=>?_)
 refine wpAny_Slice (thn (hl Ex m pins s1 σ H1 _ I1 q1) fun vl s2 ⟨l,H2,I2,pl,q2⟩=>thn (hh Ex m pins s2 σ H2 _ I2 q2) fun vu s3 ⟨u,H3,I3,pu,q3⟩=>?_)
 rw [evalPart_none]
 refine ao ?_
 show aV (model X.prog X.w) X.A (kG e (.Slice lo hi none p2) v (.ref s3.heap.objs.size)) (EP X pins σ Q) X.xe { s3 with heap:=s3.heap.push { cls:=.type "slice", data:=.fields #[vl,vu,.none] } }
 have I4:Inv X pins σ H3 { s3 with heap:=s3.heap.push { cls:=.type "slice", data:=.fields #[vl,vu,.none] } }:=I3.kept (t':=s3.toks) fun b ob q=>aj _ q
 have gen:∀ r,SlR X r->r x l u H3 Q->aV (model X.prog X.w) X.A (kG e (.Slice lo hi none p2) v (.ref s3.heap.objs.size)) (EP X pins σ Q) X.xe { s3 with heap:=s3.heap.push { cls:=.type "slice", data:=.fields #[vl,vu,.none] } }:=fun r hr q=>by
  obtain⟨T,id,hT,ht,hg⟩:=hr pins _ σ H3 x v vl vu l u s3.heap.objs.size Q I4 r1 (Heap.IsSliceOf.new ..) pl pu q
  exact tail_any (ops:=[.ref s3.heap.objs.size,v]) ht hT hg (by with_unfolding_all rfl)
 cases x with
 | str z=>
  obtain⟨hz,q⟩:=q3
  obtain⟨t,rfl⟩:=r1
  have hk:KeptH (fun h=>Inv X pins σ H3 { s3 with heap:=h }):=fun h ob J=>J.kept (t':=s3.toks) fun b o eb=>aj _ eb
  have fin:∀ h' t' k,Inv X pins σ H3 { s3 with heap:=h' }->(fun (a:Value) (s':al)=>s3.toks<=s'.toks->EP X pins σ Q a s') (.str (iu z l u) t') { s3 with heap:=h',toks:=k }:=fun h' t' k J htk=>⟨.str _,H3,J.tok k htk,⟨_,rfl⟩,q⟩
  refine bI (n:=s3.toks) (ak _) ?_
  cases pl with
  | none=>
   cases pu with
   | none=>exact ib (SBH.sliceItem_nn hk I3 fin hz) (by with_unfolding_all rfl) (Pw e z t)
   | int j uj=>exact ib (SBH.sliceItem_ns hk I3 fin hz) (by with_unfolding_all rfl) (Pw e z t)
  | int i ui=>
   cases pu with
   | none=>exact ib (SBH.sliceItem_sn hk I3 fin hz) (by with_unfolding_all rfl) (Pw e z t)
   | int j uj=>exact ib (SBH.sliceItem_ss hk I3 fin hz) (by with_unfolding_all rfl) (Pw e z t)
 | ref a=>
  rcases q3 with ⟨xs,h1,h2⟩|⟨xs,h1,h2,h3⟩
  ·exact gen _ a39 ⟨a,xs,rfl,h1,h2⟩
  ·by_cases hw:HT.sIx xs.length 0 l=0/\HT.sIx xs.length xs.length u=xs.length
   ·exact gen _ bt6 ⟨a,xs,rfl,h1,hw,h2 hw⟩
   ·exact gen _ bt7 ⟨a,xs,rfl,h1,hw,h3 hw⟩
 | _=>exact (show False from q3).elim
noncomputable def K4:Expr->Bool
 | .Set _ _ _=>false
 | _=>true
theorem K5 {e:Expr} (h:K4 e=true) (env:Env) (x:Value):eF e env x=pure x:=by
 cases e with
 | Set _ _ _=>cases h
 | _=>rfl
theorem K2:Meets X (fun _ _ _=>False):=fun _ _ _ _ _ _ _ h=>h.elim
variable {tg iter elt:Expr} {ifs:List Expr} {sc:Scope} {wi:DI} {g:DG} {tc:DT}
noncomputable def Vg (G:Sg) (x:Str):Bool:=(G.sc.lookup x==some .local)||(G.top&&(G.sc.lookup x==some .cell))
noncomputable def wG:Nat->Sg->Expr->DG
 | 0,_,_=>gNo
 | n+1,G,e=>match e with
  | .Name x _=>match Ei G.N x 0 with
   | some i=>if Vg G x=true then gdN i else gNo
   | none=>gNo
  | .Tuple ts _ _=>if G.calm=true/\ts.all Bm=true then gdT G.K ts.length (ts.map (wG n G)) else gNo
  | _=>gNo
theorem Pz (O:GOk X G) {x:Str} (h:Vg G x=true):Loc X.env.scope x/\(X.fn x=true\/X.env.scope.names.lookup x=some .local):=by
 unfold Vg at h
 rw [dW,aA] at h
 rcases h with h|⟨h1,h2⟩
 ·have:X.env.scope.names.lookup x=some .local:=by rw [O.sc];exact cJ h
  exact⟨.inl this,.inr this⟩
 ·have:X.env.scope.names.lookup x=some .cell:=by rw [O.sc];exact cJ h2
  exact⟨.inr this,.inl (O.top h1 x)⟩
theorem Fd {e:Expr} (h:Bm e=true) (es:List Expr) (env:Env):cV (e::es) env=(false,kS e env)::cV es env:=by
 cases e with
 | Starred _ _=>cases h
 | _=>rfl
theorem Kj {es:List Expr} (h:es.all Bm=true) (env:Env):(cV es env).length=es.length/\(cV es env).findIdx? (·.1)=none:=by
 induction es with
 | nil=>exact⟨rfl,rfl⟩
 | cons e es ih=>
  rw [bt,aA] at h
  obtain⟨h1,h2⟩:=ih h.2
  rw [Fd h.1]
  refine⟨by rw [aI,aI,h1],?_⟩
  rw [List.findIdx?_cons,h2]
  rfl
theorem Ty:∀ (n:Nat) (X:Cx) (G:Sg),GOk X G -> ∀ e,PG X e (wG n G e)
 | 0,_,_,_,_=>Sz
 | n+1,X,G,O,e=>by
  cases e with
  | Name x p=>
   unfold wG
   dsimp only
   split
   ·rename_i i e
    split
    ·rename_i h
     obtain⟨h1,h2⟩:=Pz O h
     exact a01 (by rw [O.N];exact O.nd) (by rw [O.N];exact F2 e) h1 h2
    ·exact Sz
   ·exact Sz
  | Tuple ts k p=>
   unfold wG
   dsimp only
   split
   ·rename_i h
    obtain⟨h1,h2⟩:=h
    obtain⟨h3,h4⟩:=Kj h2 X.env
    rw [<- O.K]
    refine ci6 (O.calm▸h1) ?_ h3 h4
    clear h3 h4
    induction ts with
    | nil=>exact b44
    | cons t ts ih=>
     rw [bt,aA] at h2
     refine b43 (Ty n X G O t) (ih h2.2) ?_
     rw [Fd h2.1]
     rfl
   ·exact Sz
  | _=>exact Sz
end
end L2
namespace L2
open PySem PySem.Spec
structure W3 (l:List Addr) (e C:Addr) (dx:Option Addr) (h h':Heap):Prop where
 exc:∃ (vs':Array Value) (T:Addr) (oT:Obj) (ts':Array Value),h'.get? e=some (Bj C dx vs')/\vs'.size=6/\vs'[1]? = some (.ref T)/\h.objs.size<=T/\T≠e/\h'.get? T=some oT/\oT.data=.fields ts'/\3<ts'.size /\ ∀ vs,h.get? e=some (Bj C dx vs)->vs'[2]? = vs[2]?
 keep:∀ b o,b≠e->b∉l->h.get? b=some o->h'.get? b=some o
 slot:∀ b o,b≠e->h.get? b=some o -> ∃ sl,h'.get? b=some { o with slots:=sl }
noncomputable abbrev tbO (fs:Array Value):Obj:={ cls:=.type "traceback", dict:=none,data:=.fields fs }
noncomputable abbrev K0 (T:Addr):Obj->Obj:=fC (·.setIfInBounds 1 (.ref T))
noncomputable abbrev J2 (h:Heap) (e:Addr) (fs:Array Value):Heap:=(h.push (tbO fs)).update e (K0 h.objs.size)
section
variable {h:Heap} {e C:Addr} {dx:Option Addr} {vs fs:Array Value}
theorem apart (q:h.get? e=some (Bj C dx vs)):h.objs.size≠e:=d_ (aN q)
theorem R4 (T:Addr):(K0 T (Bj C dx vs)).data=.fields (vs.setIfInBounds 1 (.ref T)):=rfl
theorem Ut (q:h.get? e=some (Bj C dx vs)):(J2 h e fs).get? e=some (Bj C dx (vs.setIfInBounds 1 (.ref h.objs.size))):=
 b9 (K0 h.objs.size) (aj (tbO fs) q) (ju (R4 h.objs.size))
theorem Uu (q:h.get? e=some (Bj C dx vs)):(J2 h e fs).get? h.objs.size=some (tbO fs):=
 (bJ (h.push (tbO fs)) (K0 h.objs.size) (apart q).symm).trans (aK h rfl)
theorem Ji {b:Addr} {o:Obj} (ne:b≠e) (q:h.get? b=some o):(J2 h e fs).get? b=some o:=
 (bJ (h.push (tbO fs)) (K0 h.objs.size) ne.symm).trans (aj (tbO fs) q)
theorem U7 {h0:Heap} {l:List Addr} (hz:h.objs.size=h0.objs.size) (k1:∀ b,b∉l->h.get? b=h0.get? b) (k2:∀ b o,h0.get? b=some o -> ∃ sl,h.get? b=some { o with slots:=sl }) (q:h.get? e=some (Bj C dx vs)) (hs:vs.size=6) (hf:3<fs.size) :
  W3 l e C dx h0 (J2 h e fs) where
 exc:=⟨_,h.objs.size,_,_,Ut q,by rw [Array.size_setIfInBounds];exact hs,dU (by omega),by omega,apart q,Uu q,rfl,hf,fun vs0 q0=>by
  obtain⟨sl,z⟩:=k2 e _ q0
  rw [q] at z
  cases z
  exact Array.getElem?_setIfInBounds_ne (by decide)⟩
 keep:=fun b o ne nl hb=>Ji ne ((k1 b nl).trans hb)
 slot:=fun b o ne hb=>let ⟨sl,z⟩:=k2 b o hb;⟨sl,Ji ne z⟩
end
section
variable {M:Model} {A:bj} {E:Value->al->Prop} {s:al} {base:Heap} {env:Env} {outer:List Env} {L e C:Addr} {dx:Option Addr} {vs:Array Value} {Q:Unit->al->Prop}
theorem Zr {head:Value} {hadNext:Bool} {env0:Env} (hfr:A.frames=some (env0::outer)) (hl:s.heap.FunFrames base (env0::outer)) (h0:env0.frame=some L) (hf:env.frame=some L) (q:s.heap.get? e=some (Bj C dx vs)) (hs:vs.size=6) (k:∀ h',W3 (frs (env0::outer)) e C dx s.heap h'->Q () { s with heap:=h' }) :
  aV M A ((lJ env >>= fun a=>entryPlaceOf L hadNext >>= fun pl=>gJ head a .none (fQ L) .none pl >>= fun b=>jH (.ref e) 1 b)) Q E s:=by
 have off:e∉frs (env0::outer):=fun z=>by
  obtain⟨_,o,z1,z2⟩:=hl.mem z
  rw [q] at z1
  cases z1
  exact z2 vs rfl
 have fe:lJ env=lJ env0:=by unfold lJ;rw [hf,h0]
 rw [fe]
 refine ag (wpAny_frameOf_fun hfr hl h0 fun h1 ⟨a1,a2,a3⟩=>ag (wpAny_entryPlaceOf fun pl hpl=>?_))
 unfold gJ newFields
 refine ag (cr ?_ (hpl.sizeOk5 _ _ _ _ _))
 have q1:h1.get? e=some (Bj C dx vs):=(a2 e off).trans q
 have lt:3<([head,.ref L,.none,fQ L,.none]++(if pl.isEmpty then jO 6 bz else pl)).toArray.size:=by rw [av,aJ];simp only [aI,jk];omega
 generalize ([head,.ref L,.none,fQ L,.none]++(if pl.isEmpty then jO 6 bz else pl)).toArray=fs at lt ⊢
 exact f9 (aj (tbO fs) q1) rfl (show 1<vs.size by omega) (k _ (U7 a1 a2 a3 q1 hs lt))
end
end L2
namespace L2
open PySem PySem.Spec PyProof.Rows
open Sem (wp)
section
variable {X:Cx} {pins:List (Addr×Obj)} {σ:St} {H:Hp} {s:al} {a C:Addr} {dx:Option Addr} {h':Heap}
theorem ay3 (I:Inv X pins σ H s) (ea:FlO H a C dx) (L:W3 (frs X.stack) a C dx s.heap h'):Un (frs X.stack) [] H H s.heap h' where
 keep:=fun b o q n hb _=>L.keep b o (fun z=>by rw [z] at n;rcases ea with ea|ea <;> (rw [ea] at n;cases n)) hb q
 slot:=fun b o q n _ _=>L.slot b o (fun z=>by rw [z] at n;rcases ea with ea|ea <;> (rw [ea] at n;cases n)) q
 free:=fun b o _ n _=>n
 there:=fun b o q _=>by
  by_cases hb:b=a
  ·obtain⟨vs',T,oT,ts',h1,_⟩:=L.exc
   exact⟨_,by rw [hb];exact h1⟩
  ·obtain⟨sl,h1⟩:=L.slot b o hb q
   exact⟨_,h1⟩
 tups:=fun _ _ e=>e
 frzs:=fun _ _ _ e=>e
 tbls:=fun b ps e=>⟨#[],by rw [e];simp⟩
theorem ay2 (I:Inv X pins σ H s) (ea:FlO H a C dx) (L:W3 (frs X.stack) a C dx s.heap h'):HOk X.prog X.w H h':=fun b o e=>by
 by_cases hb:b=a
 ·subst hb
  obtain⟨vs',T,oT,ts',h1,h2,_,_,_,_,_,_,hc⟩:=L.exc
  rcases ea with ea|ea
  ·obtain⟨vs,g1,_,g3⟩:=a55 I ea
   rw [ea] at e
   cases e
   exact be7 h1 h2 ((hc vs g1).trans g3)
  ·rw [ea] at e
   cases e
   exact be6 h1 h2
 ·refine (I.hok b o e).stay (fun c u hc q=>L.keep c u ?_ ?_ q) (fun _ q=>q) fun _ _ q=>q
  ·rcases hc with rfl|hc
   ·exact hb
   ·rintro rfl
    rcases ea with ea|ea <;> (rw [ea] at hc;cases hc)
  ·intro hm
   have n:=I.stkFree c hm
   rcases hc with rfl|hc
   ·rw [n] at e;cases e
   ·rw [n] at hc;cases hc
end
end L2
namespace L2
open PySem PySem.Spec PyProof.Rows
open Sem (wp)
section
variable {X:Cx} {pins:List (Addr×Obj)} {σ:St} {H:Hp} {s:al} {a:Addr} {E:Value->al->Prop} {Q:Unit->al->Prop}
noncomputable def FlyT (X:Cx) (pins:List (Addr×Obj)) (H:Hp) (a:Addr) (s:al) (z:Value):Prop:=
 ∃ (C:Addr) (dx:Option Addr) (vs:Array Value) (T:Addr) (oT:Obj) (ts:Array Value),FlO H a C dx/\s.heap.get? a=some (Bj C dx vs)/\vs.size=6/\vs[1]? = some (.ref T)/\T≠a/\s.heap.get? T=some oT/\oT.data=.fields ts/\ts[3]? = some z/\Ek X pins H T
theorem FlyT.at {z:Value} (F:FlyT X pins H a s z):aa8 X pins H a s:=by
 obtain⟨C,dx,vs,T,oT,ts,h1,h2,h3,q1,q2,q3,q4,q5,q6⟩:=F
 exact⟨C,dx,vs,h1,h2,h3,.inr ⟨T,oT,ts,q1,q2,q3,q4,⟨z,q5⟩,q6⟩⟩
theorem ca9 {C T:Addr} {dx:Option Addr} {vs ts:Array Value} {oT:Obj} {y:Value} (I:Inv X pins σ H s) (h1:FlO H a C dx) (h2:s.heap.get? a=some (Bj C dx vs)) (h3:vs.size=6) (q1:vs[1]? = some (.ref T)) (q2:T≠a) (q3:s.heap.get? T=some oT) (q4:oT.data=.fields ts) (q5:ts[3]? = some y) (q6:Ek X pins H T) (v:Value) :
  Inv X pins σ H { s with heap:=s.heap.update T (fC (·.setIfInBounds 3 v)) }/\FlyT X pins H a { s with heap:=s.heap.update T (fC (·.setIfInBounds 3 v)) } v/\(s.heap.update T (fC (·.setIfInBounds 3 v))).get? a=some (Bj C dx vs):=by
 have ha:(s.heap.update T (fC (·.setIfInBounds 3 v))).get? a=some (Bj C dx vs):=(bJ _ _ q2).trans h2
 obtain⟨c0,d0,dt0,sl0⟩:=oT
 cases (show dt0=.fields ts from q4)
 have hT:(s.heap.update T (fC (·.setIfInBounds 3 v))).get? T=some ⟨c0,d0,.fields (ts.setIfInBounds 3 v),sl0⟩:=b9 _ q3 (ju (vs:=ts.setIfInBounds 3 v) rfl)
 exact⟨I.turned (t':=s.toks) (fun b o ne e=>(bJ _ _ (cA ne)).trans e) q6.1 q6.2.1 q6.2.2.2.1 q6.2.2.2.2.1 q6.2.2.2.2.2,⟨C,dx,vs,T,_,_,h1,ha,h3,q1,q2,hT,rfl,dU (Array.getElem?_eq_some_iff.mp q5).1,q6⟩,ha⟩
theorem cb0 {A:bj} {fr:Option Addr} {z:Value} (I:Inv X pins σ H s) (F:FlyT X pins H a s z) (h:∀ s',Inv X pins σ H s'->FlyT X pins H a s' (fr.elim .none fun f=>fQ f)->Q () s'):aV (model X.prog X.w) A (setFlight (.ref a) fr) Q E s:=by
 obtain⟨C,dx,vs,T,oT,ts,h1,h2,h3,q1,q2,q3,q4,q5,q6⟩:=F
 obtain⟨I',F',_⟩:=ca9 I h1 h2 h3 q1 q2 q3 q4 q5 q6 (fr.elim .none fun f=>fQ f)
 unfold setFlight
 refine ag (ce h2 rfl q1 ?_)
 rw [if_pos (by simp)]
 exact f9 q3 q4 (Array.getElem?_eq_some_iff.mp q5).1 (h _ I' F')
theorem b03 {env:Env} (I:Inv X pins σ H s) {e0:Env} {o0:List Env} {L:Addr} (hs:X.stack=e0::o0) (h0:e0.frame=some L) (hf:env.frame=some L) (F:aa8 X pins H a s) (h:∀ s' z,Inv X pins σ H s'->FlyT X pins H a s' z->Q () s') :
  aV (model X.prog X.w) X.A (noteFrame (.ref a) env) Q E s:=by
 obtain⟨C,dx,vs,h1,h2,h3,h4⟩:=F
 have fr:X.A.frames=some (e0::o0):=hs▸I.ok.frames
 have new:∀ {s1:al} {head:Value} {hadNext:Bool},Inv X pins σ H s1->s1.heap.get? a=some (Bj C dx vs)->aV (model X.prog X.w) X.A ((lJ env >>= fun y=>entryPlaceOf L hadNext >>= fun pl=>gJ head y .none (fQ L) .none pl >>= fun b=>jH (.ref a) 1 b)) Q E s1:=fun {s1 head hadNext} I1 q=>by
  have fn:s1.heap.FunFrames X.base (e0::o0):=hs▸I1.stack
  refine Zr (base:=X.base) fr fn h0 hf q h3 fun h' L=>?_
  rw [<- hs] at L
  have I':=I1.call (h':=h') (g':=s1.gens) (t':=s1.toks) (d':=s1.drawn) (ch:=[]) (ay3 I1 h1 L) (ay2 I1 h1 L) I1.bare (fun b z=>absurd z (by simp))
  obtain⟨vs',T,oT,ts',a1,a2,a3,a4,a5,a6,a7,a8,_⟩:=L.exc
  exact h _ _ I' ⟨C,dx,vs',T,oT,ts',h1,a1,a2,a3,a5,a6,a7,hU a8,I1.fpOk a4 (I1.hok.fresh a4)⟩
 unfold noteFrame
 simp only [hf]
 rcases h4 with c|⟨T,oT,ts,c,ne,hT,hd,⟨z,hz⟩,fp⟩
 ·refine ag (ce h2 rfl c ?_)
  rw [if_neg (by decide)]
  exact new I h2
 ·refine ag (ce h2 rfl c ?_)
  rw [if_pos (by simp)]
  refine ag (ce hT hd hz ?_)
  by_cases e:(z==fQ L)=true
  ·rw [if_pos e]
   exact ao (h s z I ⟨C,dx,vs,T,oT,ts,h1,h2,h3,c,ne,hT,hd,hz,fp⟩)
  ·rw [if_neg e]
   obtain⟨I',_,ha⟩:=ca9 I h1 h2 h3 c ne hT hd hz fp .none
   exact ag (f9 hT hd (Array.getElem?_eq_some_iff.mp hz).1 (new I' ha))
end
section
variable {prog:aW} {w:bE} {A:bj} {E:Value->al->Prop} {s:al} {K:ae} {a C D:Addr} {dx:Option Addr} {vs:Array Value} {b:Bool} {Q:Bool->al->Prop}
open PySem.W in
end
end L2
namespace L2
open PySem PySem.Spec PyProof.Rows
section
variable {X:Cx} {G:Sg} {elt tg iter:Expr} {ifs:List Expr} {sc:Scope} {wi:DI} {g:DG} {tc:DT} {de:DE} {pos:Pos}
theorem by0 {pins pins':List (Addr×Obj)} {σ:St} {H2 H':Hp} {s2:al} {N':List Str} {cl:List (Str×Addr)} {fp:List Addr} {C T:Addr} {xe:Value->al->Prop} (I2:Inv X pins σ H2 s2) (f2:∀ b∈fp,Ek X pins H2 b)
  (F:Ek (X.comp N' sc cl fp C s2 H2 xe) pins' H' T):Ek X pins H' T:=by
 obtain⟨r1,r2,r3,r4,r5,r6⟩:=F
 rcases r4 with r4|r4
 ·exact⟨r1,(f2 T r4).2⟩
 ·exact I2.fpOk r4 r1
theorem K1 {Ex:St->EK} (m:Meets X Ex) (fr:FrH X) {pins:List (Addr×Obj)} {σ:St} {H2:Hp} {s2:al} {N':List Str} {cl:List (Str×Addr)} {fp:List Addr} {C D:Addr} {us:Option (Value->Sem Unit)} {Q2:Value->al->Prop} (I2:Inv X pins σ H2 s2) (f2:∀ b∈fp,Ek X pins H2 b)
  (hC:s2.heap.objs.size<=C):Meets (X.comp N' sc cl fp C s2 H2 (Br X sc cl us Q2 D C)) (fun _ a H'=>Ex σ a H'):=by
 intro pins' σ' H' s' a I' F' hE
 obtain⟨e0,o0,L,f1,f3,f4⟩:=fr
 refine b03 (X:=X.comp N' sc cl fp C s2 H2 (Br X sc cl us Q2 D C)) (env:=lI sc cl C X.env) I' f1 f3 f4 F' fun s3 z I3 F3=>?_
 obtain⟨mm,hn,_⟩:=id I3.loc
 refine⟨mm,hn,fun h' sb cenv hce=>?_⟩
 have I4:Inv X pins σ H' s3:=I2.call' (ch:=fp) I3.os I3.base I3.hok I3.bare fun b hb=>⟨(f2 b hb).2.2.2.1,(f2 b hb).2.1,(f2 b hb).2.2.2.2.1,(f2 b hb).2.2.2.2.2⟩
 have fo:=I2.fpOk hC I3.free
 obtain⟨g0,g1,g2,g3,g4,g5⟩:=id fo
 have I5:Inv X pins σ H' { s3 with heap:=h' }:=I4.turned (t':=s3.toks) (fun b o hb e=>(sb.2 b hb).trans e) g0 g1 g3 g4 g5
 obtain⟨C0,dx,vs,T,oT,ts,h1,h2,h3,q1,q2,q3,q4,q5,q6⟩:=F3
 have na:a≠C:=fun z=>by rcases h1 with h1|h1 <;> (rw [z,g0] at h1;cases h1)
 have nT:T≠C:=q6.2.1
 have F5:FlyT X pins H' a { s3 with heap:=h' } z:=⟨C0,dx,vs,T,oT,ts,h1,(sb.2 a na).trans h2,h3,q1,q2,(sb.2 T nT).trans q3,q4,q5,by0 I2 f2 q6⟩
 unfold PySem.passOn
 refine ag (ce (s:={ s3 with heap:=h' }) ((sb.2 a na).trans h2) rfl q1 ?_)
 rw [if_neg (by simp)]
 refine ag (cb0 I5 F5 fun s6 I6 F6=>?_)
 exact lA (m pins σ H' s6 a I6 F6.at hE)
noncomputable def au4 (X:Cx) (ifs:List Expr) (t:DT):Prop:=∀ Ex,Meets X Ex->Yl X ifs (fun σ H Q=>t σ H Q (Ex σ))
theorem Td:au4 X [] Bw:=fun _ _=>an2
theorem Te {c:Expr} {t:DT} (h:QT X c t):au4 X [c] t:=fun Ex m=>an3 (h Ex m)
theorem X1 (O:GOk X G) (hc:X.calm=true) (hk:Fn G sc=true) (hs:K4 iter=true) (hi:QI X tg iter wi) (hg:∀ X',GOk X' (Dc G sc.names)->PG X' tg g) (ht:∀ X',GOk X' (Dc G sc.names)->au4 X' ifs tc) (he:∀ X',GOk X' (Dc G sc.names)->QE X' elt de) :
  QE X (.ListComp elt [⟨tg,iter,ifs,0⟩] sc pos) (Bf (Gb G sc.names) wi g tc de):=by
 intro Ex m pins s σ H Q I h
 exact ah3 hc (O3 O hk) (hi Ex m) (fun Q2 fp C D s2 H2 I2 f2 hC=>
  have M:=K1 (N':=(Dc G sc.names).N) (cl:=Db X.env.cells sc.names []) (us:=none) (Q2:=Q2) (D:=D) m O.fr I2 f2 hC
  have K:=Xf O hk fp C s2 H2 (Br X sc (Db X.env.cells sc.names []) none Q2 D C)
  ⟨hg _ K,ht _ K _ M,he _ K _ M⟩) I h (fun x=>K5 hs X.env x)
end
noncomputable def Xb (K:ae) (op:BoolOp):List DE->DE
 | []=>dNo
 | [a]=>a
 | a::r=>match op with
  | .And=>Ng K a (Xb K op r)
  | .Or=>bx6 K a (Xb K op r)
noncomputable def Xa (op:BoolOp):List DT->DT
 | []=>fun _ _ _ _=>False
 | [a]=>a
 | a::r=>match op with
  | .And=>Mw a (Xa op r)
  | .Or=>dOr a (Xa op r)
noncomputable def Fc:List DE->DA
 | []=>Ai
 | a::r=>Ac a (Fc r)
noncomputable def tNo:DT:=fun _ _ _ _=>False
noncomputable def aa7 (G:Sg) (ops:List lC) (bs:List Expr) (a:DE) (ds:List DE):DE:=match ops,bs,ds with
 | [op],[b],[d]=>if iJ op b=false then Ae (M1 G.K op) a d else dNo
 | [op,op'],[b,c],[d,d']=>if lastMarks [op,op'] [b,c]=false then Ep (M1 G.K op) (M1 G.K op') a d d' else dNo
 | _,_,_=>dNo
noncomputable def at0 (G:Sg) (x:Str) (es:List Expr) (ds:List DE):DE:=
 if Pk G x=true/\(Ei G.N x 0)=none/\es.all Bm=true then (match G.gb.lookup x with
  | some (.fn i)=>if es.length<=i.ps.length/\i.ps.length<=es.length+i.dfs.length then dFn (spE i.sp (i.dfs.drop (es.length+i.dfs.length - i.ps.length))) (Fc ds) else dNo
  | some (.cls C oi)=>(match oi with
   | none=>if es.isEmpty=true then dFn (mkC C none 0) (Fc ds) else dNo
   | some i=>if es.length+1<=i.ps.length/\i.ps.length<=es.length+1+i.dfs.length then dFn (mkC C (some i) (es.length+1+i.dfs.length - i.ps.length)) (Fc ds) else dNo)
  | some _=>dNo
  | none=>if G.bl.contains x=true then (match be3 G.K G.calm x with
   | some (_,r)=>if es.isEmpty=true then dNo else dFn (fun vs H Q _=>r vs H Q) (Fc ds)
   | none=>dNo) else dNo) else dNo
noncomputable def at5 (G:Sg) (o:Expr) (m:Str) (es:List Expr) (ap cp:Pos) (d:DE) (ds:List DE):DE:=
 if Dl o=true/\es.all Bm=true/\es.length<30/\(ap.endLine==cp.line)=true then (match Dz G.gb m with
  | none=>dMt (rMt G.K (mtR G.K m)) d (Fc ds)
  | some l=>Ha m es.length l d (Fc ds)) else dNo
noncomputable def a52 (d:DE):DE:=fun σ H Q E=>d σ H (fun v H'=>Thaw H H' (Q v)) E
theorem a24 {X:Cx} {e:Expr} {d:DE} (h:QE X e d):QE X e (a52 d):=fun Ex mt pins s σ H Q I q=>
 thn (h Ex mt pins s σ H _ I q) fun v s1 ⟨x,H1,I1,r1,q1⟩=>
  let ⟨H2,I2,q2⟩:=Thaw.inv I I1 q1
  ⟨x,H2,I2,r1,q2⟩
inductive Fz where
 | lenSet (a:Expr)|listItems (o:Expr)
noncomputable def fzD (K:ae) (w:Expr->DE):Fz->DE
 | .lenSet a=>dUn (J6 K) (w a)
 | .listItems o=>dUn (Fa K) (w o)
noncomputable def aj7 (G:Sg) (x:Str):Bool:=Pk G x&&(G.gb.lookup x).isNone&&G.bl.contains x
noncomputable def Uz (G:Sg) (x:Str) (es:List Expr):Option Fz:=match es with
 | [.Call (.Name y _) [a] [] _]=>if x = "len" /\ y = "set" /\ aj7 G x=true/\aj7 G y=true/\Bm a=true/\G.calm=true then some (.lenSet a) else none
 | [.Call (.Attribute o m ap) [] [] cp]=>if x = "list" /\ m = "items" /\ aj7 G x=true/\Dl o=true/\(ap.endLine==cp.line)=true/\G.calm=true then some (.listItems o) else none
 | _=>none
mutual
noncomputable def wE:Nat->Sg->Expr->DE
 | 0,_,_=>dNo
 | n+1,G,e=>match e with
  | .Constant c _ _=>at4 c
  | .Name x _=>at6 G x
  | .BinOp a op b _=>Ae (rOp G.K op) (wE n G a) (wE n G b)
  | .UnaryOp .USub a _=>dUn Tf (wE n G a)
  | .UnaryOp .Not a _=>a51 G.K (wE n G a)
  | .UnaryOp .Invert a _=>dUn Oc (wE n G a)
  | .BoolOp op es _=>Xb G.K op (es.map (wE n G))
  | .Compare a ops bs _=>aa7 G ops bs (wE n G a) (bs.map (wE n G))
  | .IfExp t a b _=>bx5 (wT n G t) (wE n G a) (wE n G b)
  | .List es _=>if es.all Bm=true then Bl (Fc (es.map (wE n G))) else dNo
  | .Tuple es _ _=>if es.all Bm=true then Fj (Fc (es.map (wE n G))) else dNo
  | .Subscript a (.Slice lo hi none _) _=>dSl G.K (wE n G a) (match lo with|none=>Ce|some l=>Dd (wE n G l)) (match hi with|none=>Ce|some h=>Dd (wE n G h))
  | .Subscript a b _=>if Hn b=true then Ae (Aq G.K) (wE n G a) (wE n G b) else dNo
  | .Attribute o f _=>if Dl o=true then dUn (Dw G.K f) (wE n G o) else dNo
  | .JoinedStr es _=>ba5 (wE n G) es
  | .FormattedValue a (-1) none _=>dUn a33 (wE n G a)
  | .Call (.Name x _) es [] _=>match Uz G x es with
   | some z=>fzD G.K (wE n G) z
   | none=>at0 G x es (es.map (wE n G))
  | .Dict ks vs _=>if ks.isEmpty=true/\vs.isEmpty=true then Jf else if (ks.all (·.isSome))=true/\ks.length=vs.length/\ks.length<=15/\ks.isEmpty=false then ah4 (((ks.filterMap id).zip vs).map fun p=>(wE n G p.1,wE n G p.2)) else dNo
  | .Call (.Attribute o m ap) es [] cp=>at5 G o m es ap cp (wE n G o) (es.map (wE n G))
  | .ListComp elt [⟨tg,iter,ifs,0⟩] sc _=>if G.calm=true/\Fn G sc=true/\K4 iter=true then
    Bf (Gb G sc.names) (wI n G tg iter) (wG n (Dc G sc.names) tg) (match ifs with | []=>Bw | [c]=>wT n (Dc G sc.names) c|_=>tNo) (wE n (Dc G sc.names) elt) else dNo
  | _=>dNo
noncomputable def wT:Nat->Sg->Expr->DT
 | 0,_,_=>tNo
 | n+1,G,e=>match e with
  | .UnaryOp .Not a _=>D6 (wT n G a)
  | .BoolOp op es _=>Xa op (es.map (wT n G))
  | .Compare a ops bs _=>Az (aa7 G ops bs (wE n G a) (bs.map (wE n G)))
  | .IfExp _ _ _ _=>tNo
  | e=>Dy G.K (wE n G e)
noncomputable def wI:Nat->Sg->Expr->Expr->DI
 | 0,_,_,_=>iNo
 | n+1,G,tg,e=>match e with
  | .Call (.Name x _) (a::es) [] _=>
   if x = "range" /\ Pk G x=true/\G.gb.lookup x=none/\G.bl.contains x=true/\(a::es).all Bm=true then Ft (Fc ((a::es).map (wE n G)))
   else if x = "enumerate" /\ Pk G x=true/\G.gb.lookup x=none/\G.bl.contains x=true/\(a::es).all Bm=true then (match tg with
    | .Tuple _ _ _=>iEn G.K (Fc ((a::es).map (wE n G)))
    | _=>iNo)
   else Bd G.K (wE n G e)
  | .ListComp a b c d=>Bd G.K (a52 (wE n G (.ListComp a b c d)))
  | e=>Bd G.K (wE n G e)
end
theorem a87 {X:Cx} {e:Expr}:QT X e tNo:=fun _ _ _ _ _ _ _ _ h=>h.elim
theorem Dm {X:Cx} {w:Expr->DE} (h:∀ e,QE X e (w e)):∀ {es:List Expr},es.all Bm=true->QA X es (Fc (es.map w))
 | [],_=>bl8
 | e::es,hs=>by
  rw [bt,aA] at hs
  exact a11 (h e) (Dm h hs.2) hs.1
theorem P3 {X:Cx} {w:Expr->DE} {op:BoolOp} {pos:Pos} (h:∀ e,QE X e (w e)):∀ {es:List Expr},QE X (.BoolOp op es pos) (Xb X.K op (es.map w))
 | []=>Bu
 | [e]=>bn0 (h e)
 | e::e'::es=>by
  cases op with
  | And=>exact bl9 (h e) (P3 h)
  | Or=>exact b50 (h e) (P3 h)
theorem P6 {X:Cx} {w:Expr->DT} {op:BoolOp} {pos:Pos} (h:∀ e,QT X e (w e)):∀ {es:List Expr},QW X (.BoolOp op es pos) (Xa op (es.map w))
 | []=>fun _ _ _ _ _ _ _ _ _ h=>h.elim
 | [e]=>by
  cases op with
  | And=>exact a32 (h e)
  | Or=>exact bo5 (h e)
 | e::e'::es=>by
  cases op with
  | And=>exact bo4 (h e) (P6 h)
  | Or=>exact b52 (h e) (P6 h)
section
variable {X:Cx} {G:Sg}
theorem a17 (O:GOk X G) {w:Expr->DE} (h:∀ e,QE X e (w e)) (a:Expr) (ops:List lC) (bs:List Expr) (pos:Pos):QE X (.Compare a ops bs pos) (aa7 G ops bs (w a) (bs.map w)):=by
 unfold aa7
 rw [<- O.K]
 split
 ·rename_i op b d e
  have:d=w b:=by simpa using e.symm
  subst this
  split
  ·exact bm2 O.units op (h a) (h b) ‹_›
  ·exact Bu
 ·rename_i op op' b c d d' e
  have:w b=d/\w c=d':=by simpa using e
  obtain⟨rfl,rfl⟩:=this
  split
  ·exact ao2 O.units op op' (h a) (h b) (h c) ‹_›
  ·exact Bu
 ·exact Bu
theorem a31 (O:GOk X G) {w:Expr->DE} (h:∀ e,QE X e (w e)) (a:Expr) (ops:List lC) (bs:List Expr) (pos:Pos):QT X (.Compare a ops bs pos) (Az (aa7 G ops bs (w a) (bs.map w))):=by
 unfold aa7
 rw [<- O.K]
 split
 ·rename_i op b d e
  have:d=w b:=by simpa using e.symm
  subst this
  split
  ·exact bo1 O.units op (h a) (h b) ‹_›
  ·exact fun _ _ _ _ _ _ _ _ h=>h.elim
 ·rename_i op op' b c d d' e
  have:w b=d/\w c=d':=by simpa using e
  obtain⟨rfl,rfl⟩:=this
  split
  ·exact ap0 O.units op op' (h a) (h b) (h c) ‹_›
  ·exact fun _ _ _ _ _ _ _ _ h=>h.elim
 ·exact fun _ _ _ _ _ _ _ _ h=>h.elim
theorem ao1 (O:GOk X G) {w:Expr->DE} (h:∀ e,QE X e (w e)) (x:Str) (es:List Expr) (p pos:Pos):QE X (.Call (.Name x p) es [] pos) (at0 G x es (es.map w)):=by
 unfold at0
 split
 ·rename_i hh
  obtain⟨hg,_,hs⟩:=hh
  have dd:=aj8 hg
  split
  ·rename_i i e
   obtain⟨hm,F⟩:=O.at_ x _ e
   split
   ·rename_i hl
    cases es with
    | nil=>exact ao0 F (by have:=hl.1;omega) (O.gl hg) hm dd.1
    | cons e es=>exact a16 F (by have:=hl.1;omega) (O.gl hg) hm (Dm h hs) hs dd.1
   ·exact Bu
  ·rename_i C oi e
   obtain⟨hm,kp,hi⟩:=O.at_ x _ e
   split
   ·cases es with
    | nil=>exact X2 (j:=0) hi (fun i z=>nomatch z) kp (O.gl hg) hm dd.1
    | cons e es=>exact Bu
   ·rename_i i
    split
    ·rename_i hl
     cases es with
     | nil=>exact X2 hi (fun i z=>by cases z;have:=hl.1;omega) kp (O.gl hg) hm dd.1
     | cons e es=>exact bm6 hi (fun i z=>by cases z;have:=hl.1;omega) kp (O.gl hg) hm (Dm h hs) hs dd.1
    ·exact Bu
  ·exact Bu
  ·rename_i e
   split
   ·rename_i hb
    split
    ·rename_i f r er
     split
     ·exact Bu
     ·rename_i hne
      cases es with
      | nil=>exact absurd rfl hne
      | cons e es=>
       rw [<- O.K] at er
       obtain⟨b1,b2⟩:=av3 O.units er O.calm
       exact bm1 b2 (O.gl hg) (O.bl x hb) b1 (Dm h hs) hs dd.2.2 dd.1
    ·exact Bu
   ·exact Bu
 ·exact Bu
theorem ao4 (O:GOk X G) {w:Expr->DE} (h:∀ e,QE X e (w e)) (o:Expr) (m:Str) (es:List Expr) (ap cp:Pos):QE X (.Call (.Attribute o m ap) es [] cp) (at5 G o m es ap cp (w o) (es.map w)):=by
 unfold at5
 rw [<- O.K]
 split
 ·rename_i hh
  obtain⟨h1,h2,h3,h4⟩:=hh
  split
  ·cases es with
   | nil=>exact bm7 (fun b hb=>al4 O.units hb) (h o) h1 h4
   | cons e es=>exact b49 (fun b hb=>al4 O.units hb) (h o) (Dm h h2) h1 h2 h3 h4
  ·rename_i l e
   cases es with
   | nil=>exact a23 (O.met m l e) (h o) h1 h4
   | cons e es=>exact bn1 (O.met m l ‹_›) (h o) (Dm h h2) h1 h2 h3 h4
 ·exact Bu
end
theorem Gd {X:Cx} {G:Sg} (O:GOk X G) {x:Str} (h:aj7 G x=true):Gl X x/\X.mg x=none:=by
 unfold aj7 at h
 rw [aA,aA] at h
 exact⟨O.gl h.1.1,O.bl _ h.2⟩
theorem a20 {X:Cx} {G:Sg} (O:GOk X G) {w:Expr->DE} (h:∀ e,QE X e (w e)) {x:Str} {es:List Expr} {p pos:Pos} {z:Fz} (e:Uz G x es=some z) :
  QE X (.Call (.Name x p) es [] pos) (fzD G.K w z):=by
 unfold Uz at e
 split at e
 ·split at e
  ·rename_i hh
   obtain⟨rfl,rfl,h1,h2,h3,h4⟩:=hh
   cases e
   rw [<- O.K]
   exact Z0 (O.calm▸h4) (Gd O h1).1 (Gd O h1).2 (Gd O h2).1 (Gd O h2).2 (h _) h3
  ·cases e
 ·split at e
  ·rename_i hh
   obtain⟨rfl,rfl,h1,h2,h3,h4⟩:=hh
   cases e
   rw [<- O.K]
   exact P5 (O.calm▸h4) (Gd O h1).1 (Gd O h1).2 (h _) h2 h3
  ·cases e
 ·cases e
theorem Rh {α:Type}:∀ {ks:List (Option α)},ks.all (·.isSome)=true->(ks.filterMap id).map some=ks
 | [],_=>rfl
 | none::_,h=>by simp at h
 | some k::ks,h=>by
  rw [bt,aA] at h
  show some k::(ks.filterMap id).map some=_
  rw [Rh h.2]
theorem bw6:∀ (n:Nat) (X:Cx) (G:Sg),GOk X G->(∀ e,QE X e (wE n G e))/\(∀ e,QT X e (wT n G e))/\(∀ tg e,QI X tg e (wI n G tg e)):=by
 intro n
 induction n with
 | zero=>
  intro X G O
  refine⟨fun e=>?_,fun e=>?_,fun tg e=>?_⟩
  ·unfold wE;exact Bu
  ·unfold wT;exact a87
  ·unfold wI;exact a86
 | succ n ih=>
  intro X G O
  obtain⟨hE,hT,hI⟩:=ih X G O
  have hv:∀ tg e,QI X tg e (Bd G.K (wE n G e)):=fun tg e=>by rw [<- O.K];exact ao7 (hE e)
  refine⟨fun e=>?_,fun e=>?_,fun tg e=>?_⟩
  ·unfold wE
   split
   ·exact ao3 _ _ _
   ·exact a22 O _ _
   ·rw [<- O.K];exact bm0 _ (hE _) (hE _)
   ·exact bm8 (hE _)
   ·rw [<- O.K];exact bm9 (hE _)
   ·exact bm4 (hE _)
   ·rw [<- O.K];exact P3 hE
   ·exact a17 O hE _ _ _ _
   ·exact b47 (hT _) (hE _) (hE _)
   ·split
    ·exact bm5 (Dm hE ‹_›)
    ·exact Bu
   ·split
    ·exact bn2 (Dm hE ‹_›)
    ·exact Bu
   ·rw [<- O.K]
    refine ao5 (hE _) ?_ ?_
    ·split
     ·exact X3
     ·exact X4 (hE _)
    ·split
     ·exact X3
     ·exact X4 (hE _)
   ·split
    ·rename_i hs
     rw [<- O.K];exact b48 O.units (hE _) (hE _) hs
    ·exact Bu
   ·split
    ·rw [<- O.K];exact a14 (hE _) (Ee ‹_› _ X.env _)
    ·exact Bu
   ·exact a21 hE _
   ·exact bm3 (hE _)
   ·split
    ·exact a20 O hE ‹_›
    ·exact ao1 O hE _ _ _ _
   ·rename_i ks vs p0
    split
    ·rename_i hh
     have e1:ks=[]:=by simpa using hh.1
     have e2:vs=[]:=by simpa using hh.2
     subst e1 e2
     exact a19
    ·split
     ·rename_i hh
      obtain⟨h1,h2,h3,h4⟩:=hh
      have e:=Rh h1
      have hl:(ks.filterMap id).length=ks.length:=by rw [<- ac (f:=some),e]
      have q:=a18 (X:=X) (pos:=p0) hE (ks:=ks.filterMap id) (vs:=vs) (by rw [hl];exact h2) (fun z=>by rw [z] at e;rw [<- e] at h4;simp at h4) (by rw [hl];exact h3)
      rw [e] at q
      exact q
     ·exact Bu
   ·exact ao4 O hE _ _ _ _ _
   ·split
    ·rename_i hh
     obtain⟨h1,h2,h3⟩:=hh
     refine X1 O (O.calm▸h1) h2 h3 (hI _ _) (fun X' O'=>Ty n X' _ O' _) (fun X' O'=>?_) (fun X' O'=>(ih X' _ O').1 _)
     split
     ·exact Td
     ·exact Te ((ih X' _ O').2.1 _)
     ·exact fun _ _ _ _ _ _ _ _ h=>h.elim
    ·exact Bu
   ·exact Bu
  ·unfold wT
   split
   ·exact bo2 (hT _)
   ·exact fun Ex m=>PW.pt (P6 hT Ex m)
   ·exact a31 O hE _ _ _ _
   ·exact a87
   ·rename_i h1 h2 h3 h4
    rw [<- O.K]
    refine bo3 (hE _) ?_
    cases e with
    | UnaryOp op a p=>cases op <;> first|rfl|exact absurd rfl (h1 _ _)
    | BoolOp op es p=>exact absurd rfl (h2 _ _ _)
    | Compare a b c p=>exact absurd rfl (h3 _ _ _ _)
    | IfExp a b c p=>exact absurd rfl (h4 _ _ _ _)
    | _=>rfl
  ·unfold wI
   split
   ·split
    ·rename_i hh
     obtain⟨rfl,h1,_,h2,h3⟩:=hh
     exact ao6 (O.gl h1) (O.bl _ h2) (Dm hE h3) h3
    ·split
     ·rename_i hh
      obtain⟨rfl,h1,_,h2,h3⟩:=hh
      split
      ·rw [<- O.K];exact a25 (O.gl h1) (O.bl _ h2) (Dm hE h3) h3
      ·exact a86
     ·exact hv _ _
   ·rw [<- O.K];exact ao7 (a24 (hE _))
   ·exact hv _ _
noncomputable def Cx.tr (X:Cx) (pn:List (Addr×Obj)) (xe:Value->al->Prop):Cx:={ X with pn:=pn,xe:=xe }
section
variable {X:Cx} {pins pins':List (Addr×Obj)} {σ:St} {H:Hp} {s:al} {a C:Addr} {dx:Option Addr} {xe:Value->al->Prop}
theorem b04 {pn:List (Addr×Obj)} (o:X.Ok):(X.tr pn xe).Ok:=⟨o.mod,o.kind,o.glob,o.blt,o.above,o.inj,o.has,o.cab,o.hd,o.frames,o.stk,o.exf,o.bs,o.bsz,o.noex,o.exfs,o.funs,o.frf,o.tk⟩
theorem az2 {pn:List (Addr×Obj)} (o:(X.tr pn xe).Ok):X.Ok:=⟨o.mod,o.kind,o.glob,o.blt,o.above,o.inj,o.has,o.cab,o.hd,o.frames,o.stk,o.exf,o.bs,o.bsz,o.noex,o.exfs,o.funs,o.frf,o.tk⟩
theorem bf5 (I:Inv X pins σ H s):Inv (X.tr X.pn xe) pins σ H s:=⟨b04 I.ok,I.os,I.bare,I.base,I.loc,I.cell,I.free,I.freeC,I.pin,I.hok,I.len⟩
theorem Hg (I:Inv (X.tr X.pn xe) pins σ H s):Inv X pins σ H s:=⟨az2 I.ok,I.os,I.bare,I.base,I.loc,I.cell,I.free,I.freeC,I.pin,I.hok,I.len⟩
theorem a41 {D:Qo} {f:Flow} (h:SP (X.tr X.pn xe) pins D f s):SP X pins D f s:=by
 cases f with
 | next=>obtain⟨σ',H',I,q⟩:=h;exact⟨σ',H',Hg I,q⟩
 | brk=>obtain⟨σ',H',I,q⟩:=h;exact⟨σ',H',Hg I,q⟩
 | cont=>obtain⟨σ',H',I,q⟩:=h;exact⟨σ',H',Hg I,q⟩
 | ret u=>obtain⟨v,σ',H',I,r,q⟩:=h;exact⟨v,σ',H',Hg I,r,q⟩
noncomputable def ah6 (tb:DS):DS:=fun D σ H=>tb { D with ex:=fun _ _ _=>False } σ H
theorem a29 {Y:Cx} {body:List Stmt} {h0:ExceptHandler} {hs:List ExceptHandler} {pos:Pos} {tb:DS} (hb:QSs (Y.tr Y.pn fun _ _=>False) body tb):QS Y (.Try body (h0::hs) [] [] pos) (ah6 tb):=by
 intro Ex m pins s σ H D I hw
 refine wpAny_Try_except ?_
 refine dn (hb (fun _ _ _=>False) K2 pins s σ H D (bf5 I) hw) (fun f s1 q=>?_) fun _ _ z=>z.elim
 have q:=a41 q
 cases f with
 | next=>exact jE q
 | _=>exact q
end
noncomputable def Ir:Expr->Bool
 | .ListComp _ _ _ _=>false
 | .SetComp _ _ _ _=>false
 | .DictComp _ _ _ _ _=>false
 | _=>true
theorem Iu {e:Expr} (h:Ir e=true) (t:Option Expr) (l:Nat) (env:Env):iw e t l env=pure false:=by
 cases e with
 | ListComp _ _ _ _=>cases h
 | SetComp _ _ _ _=>cases h
 | DictComp _ _ _ _ _=>cases h
 | _=>rfl
section
variable {X:Cx} {G:Sg} {st:Stmt} {rest:List Stmt} {t u:DS} {e:Expr} {de:DE} {pos p':Pos}
theorem Cv:QS X st Bo:=fun _ _ _ _ _ _ _ _ h=>h.elim
theorem a30:QSs X [] Ag:=fun _ _=>a08
theorem ao9 (h1:QS X st t) (h2:QSs X rest u):QSs X (st::rest) (Ah t u):=fun Ex m=>an9 (h1 Ex m) (h2 Ex m)
theorem a27:QS X (.Pass pos) Ag:=fun _ _=>a06
theorem bn5:QS X (.Break pos) bx3:=fun _ _=>an8
theorem bn6:QS X (.Continue pos) bx4:=fun _ _=>Tc
theorem bn9 (h:QE X e de):QS X (.Return (some e) pos) (Aw de):=fun Ex m=>bl3 (h Ex m)
theorem a28:QS X (.Return none pos) ah5:=fun _ _=>a07
theorem a26 (h:QE X e de) (hn:Ir e=true):QS X (.Expr e pos) (Cp de):=fun Ex m=>a05 (h Ex m) (Iu hn _ _ _)
theorem b51 {c:Expr} {a b:List Stmt} {tc:DT} (hc:QT X c tc) (ha:QSs X a t) (hb:QSs X b u):QS X (.If c a b pos) (dIf tc t u):=fun Ex m=>b45 (hc Ex m) (ha Ex m) (hb Ex m)
theorem ao8 {i:Nat} {x:Str} (O:GOk X G) (hi:Ei G.N x 0=some i) (hx:Vg G x=true) (h:QE X e de) (hn:iw e (some (.Name x p')) pos.line X.env=pure false):QS X (.Assign [.Name x p'] e pos) (Ap i de):=by
 obtain⟨h1,h2⟩:=Pz O hx
 exact fun Ex m=>bl4 (by rw [O.N];exact O.nd) (by rw [O.N];exact F2 hi) h1 (h Ex m) hn h2
variable {tg iter elt:Expr} {ifs:List Expr} {sc:Scope} {wi:DI} {g:DG} {tc:DT}
theorem Vn {i:Nat} {x:Str} {cp:Pos} (O:GOk X G) (hi:Ei G.N x 0=some i) (hx:Vg G x=true) (hc:X.calm=true) (hk:Fn G sc=true) (hs:K4 iter=true) (hq:QI X tg iter wi) (hg:∀ X',GOk X' (Dc G sc.names)->PG X' tg g)
  (ht:∀ X',GOk X' (Dc G sc.names)->au4 X' ifs tc) (he:∀ X',GOk X' (Dc G sc.names)->QE X' elt de) :
  QS X (.Assign [.Name x p'] (.ListComp elt [⟨tg,iter,ifs,0⟩] sc cp) pos) (Ap i (Bf (Gb G sc.names) wi g tc de)):=by
 obtain⟨h1,h2⟩:=Pz O hx
 have sw:iw (.ListComp elt [⟨tg,iter,ifs,0⟩] sc cp) (some (.Name x p')) pos.line X.env=pure (X.env.blockKind==.function&&X.env.kindOf x==some .local&&p'.line==(Expr.ListComp elt [⟨tg,iter,ifs,0⟩] sc cp).pos.line
   && !(sc.names.any fun (n,k)=>n==x&&(k==.local||k==.cell))):=rfl
 cases hb:(X.env.blockKind==.function&&X.env.kindOf x==some .local&&p'.line==(Expr.ListComp elt [⟨tg,iter,ifs,0⟩] sc cp).pos.line
   && !(sc.names.any fun (n,k)=>n==x&&(k==.local||k==.cell))) with
 | false=>
  rw [hb] at sw
  exact ao8 O hi hx (X1 O hc hk hs hq hg ht he) sw
 | true=>
  rw [hb] at sw
  simp only [aA] at hb
  have hl:X.env.scope.names.lookup x=some .local:=cJ hb.1.1.2
  intro Ex m pins s σ H D I h
  exact ah2 hc (by rw [O.N];exact O.nd) (by rw [O.N];exact F2 hi) hl (O3 O hk) (hq Ex m) (fun us Q2 fp C D s2 H2 I2 f2 hC=>
   have M:=K1 (N':=(Dc G sc.names).N) (cl:=Db X.env.cells sc.names []) (us:=us) (Q2:=Q2) (D:=D) m O.fr I2 f2 hC
   have K:=Xf O hk fp C s2 H2 (Br X sc (Db X.env.cells sc.names []) us Q2 D C)
   ⟨hg _ K,ht _ K _ M,he _ K _ M⟩) I h sw (fun x=>K5 hs X.env x)
theorem bn8 {body:List Stmt} (O:GOk X G) (ht:G.top=true) (hc:X.calm=true) (hi:QI X tg iter wi) (hg:PG X tg g) (hb:QSs X body t) (hs:K4 iter=true):QS X (.For tg iter body [] pos) (B4 wi g t):=by
 intro Ex m pins s σ H D I h
 refine dn (bl2 (O.own ht) hc (hi Ex m) hg (hb Ex m) (fun x=>K5 hs X.env x) pins s σ H { D with nx:=fun σ' H'=>Thaw H H' (D.nx σ') } I h) (fun f s' q=>?_) fun _ _ z=>z
 cases f with
 | next=>
  obtain⟨σ',H',I',q⟩:=q
  obtain⟨H2,I2,q2⟩:=Thaw.inv I I' q
  exact⟨σ',H2,I2,q2⟩
 | _=>exact q
noncomputable def am0:Expr->Bool
 | .Tuple _ _ _=>false
 | _=>true
theorem am1 {e:Expr} (h:am0 e=true) (tg:Expr) (env:Env):swappedStores [tg] e env=pure none:=by
 cases e with
 | Tuple _ _ _=>cases h
 | _=>cases tg <;> rfl
theorem bn4 {ts:List Expr} {kt:Nat} {pt:Pos} {g:DG} (h:QE X e de) (hg:PG X (.Tuple ts kt pt) g) (hn:Ir e=true) (ht:am0 e=true):QS X (.Assign [.Tuple ts kt pt] e pos) (Mx de g):=
 fun Ex m=>an7 (h Ex m) hg (show kH [.Tuple ts kt pt] e pos.line X.env=pure false from Iu hn (some (.Tuple ts kt pt)) pos.line X.env) (am1 ht _ _)
noncomputable def Fe (K:ae) (o i:DE):DG:=fun v σ H Q=>o σ H (fun x H1=>i σ H1 (fun y H2=>a90 x y v H2 (Q σ)) fun _ _=>False) fun _ _=>False
theorem bo0 {o i:Expr} {do' di:DE} (hu:X.A.units+64<cLine) (ho:QE X o do') (hi:QE X i di) (h:QE X e de) (hsl:Hn i=true):QS X (.Assign [.Subscript o i p'] e pos) (Mx de (Fe X.K do' di)):=by
 intro Ex m
 have hg:PG X (.Subscript o i p') (Fe X.K do' di):=bk9 (ho _ K2) (hi _ K2) (cb2 hu) (by
  intro v
  cases i with
  | Slice _ _ _ _=>cases hsl
  | _=>rfl)
 exact an7 (h Ex m) hg (show kH [.Subscript o i p'] e pos.line X.env=pure false from by show iw e (some (.Subscript o i p')) pos.line X.env=pure false;cases e <;> rfl) (by cases e <;> rfl)
noncomputable def O7 (K:ae) (f:Str) (o e:DE):DS:=fun D σ H=>e σ H (fun y H1=>o σ H1 (fun x H2=>ap5 K f x y H2 (D.nx σ)) (D.ex σ)) (D.ex σ)
theorem bn7 {o:Expr} {f:Str} {do':DE} (ho:QE X o do') (h:QE X e de):QS X (.Assign [.Attribute o f p'] e pos) (O7 X.K f do' de):=by
 intro Ex m pins s σ H D I hw
 refine plainObj_wpAny_Assign_Attribute (thn (h Ex m pins s σ H _ I hw) fun u s1 ⟨y,H1,I1,ry,q⟩=>thn (ho Ex m pins s1 σ H1 _ I1 q) fun ov s2 ⟨x,H2,I2,rx,q2⟩=>?_) (by cases e <;> rfl)
 exact cb1 I2 rx ry q2 fun H' s' I' hN=>⟨σ,H',I',hN⟩
end
theorem ce1 {X:Cx} {pn:List (Addr×Obj)} {xe:Value->al->Prop} {i:FI} (F:Hz X i):Hz (X.tr pn xe) i:=⟨F.kp,F.ok,F.room,F.binds,F.vals⟩
theorem bu0 {X:Cx} {G:Sg} (O:GOk X G) {pn:List (Addr×Obj)} {xe:Value->al->Prop} (ho:ku (model X.prog X.w) X.A X.env xe):GOk (X.tr pn xe) G where
 K:=O.K
 kind:=O.kind
 own:=fun _=>ho
 N:=O.N
 nd:=O.nd
 sc:=O.sc
 vis:=O.vis
 top:=O.top
 calm:=O.calm
 hd:=O.hd
 units:=O.units
 cel:=O.cel
 gb:=fun x g e=>by
  refine GBOk.to (X:=X) ?_ ?_ ?_ ?_ ?_ ?_ (O.gb x g e)
  ·rfl
  ·rfl
  ·rfl
  ·rfl
  ·exact fun _ r=>r
  ·exact fun i F=>ce1 F
 bl:=O.bl
 frm:=O.frm
 fr:=O.fr
mutual
noncomputable def wS:Nat->Sg->Stmt->DS
 | 0,_,_=>Bo
 | n+1,G,st=>match st with
  | .Pass _=>Ag
  | .Break _=>bx3
  | .Continue _=>bx4
  | .Return (some e) _=>Aw (wE n G e)
  | .Return none _=>ah5
  | .Expr e _=>if Ir e=true then Cp (wE n G e) else Bo
  | .If c a b _=>dIf (wT n G c) (wSs n G a) (wSs n G b)
  | .Assign [.Name x _] (.ListComp elt [⟨tg,iter,ifs,0⟩] sc _) _=>match Ei G.N x 0 with
   | some i=>if Vg G x=true/\G.calm=true/\Fn G sc=true/\K4 iter=true then
     Ap i (Bf (Gb G sc.names) (wI n G tg iter) (wG n (Dc G sc.names) tg) (match ifs with | []=>Bw | [c]=>wT n (Dc G sc.names) c|_=>tNo) (wE n (Dc G sc.names) elt)) else Bo
   | none=>Bo
  | .Assign [.Name x _] e _=>match Ei G.N x 0 with
   | some i=>if Vg G x=true/\Ir e=true then Ap i (wE n G e) else Bo
   | none=>Bo
  | .Assign [.Tuple ts kt pt] e _=>if Ir e=true/\am0 e=true then Mx (wE n G e) (wG n G (.Tuple ts kt pt)) else Bo
  | .Assign [.Attribute o f _] e _=>O7 G.K f (wE n G o) (wE n G e)
  | .Assign [.Subscript o i _] e _=>if Hn i=true then Mx (wE n G e) (Fe G.K (wE n G o) (wE n G i)) else Bo
  | .For tg iter body [] _=>if G.calm=true/\K4 iter=true/\G.top=true then B4 (wI n G tg iter) (wG n G tg) (wSs n G body) else Bo
  | .Try body (_::_) [] [] _=>ah6 (wSs n G body)
  | _=>Bo
noncomputable def wSs:Nat->Sg->List Stmt->DS
 | 0,_,_=>Bo
 | _+1,_,[]=>Ag
 | n+1,G,s::r=>Ah (wS n G s) (wSs n G r)
end
theorem ch2:∀ (n:Nat) (X:Cx) (G:Sg),GOk X G->(∀ s,QS X s (wS n G s))/\(∀ ss,QSs X ss (wSs n G ss)):=by
 intro n
 induction n with
 | zero=>
  intro X G O
  refine⟨fun s=>?_,fun s=>?_⟩
  ·unfold wS;exact Cv
  ·unfold wSs;exact fun _ _ _ _ _ _ _ _ h=>h.elim
 | succ n ih=>
  intro X G O
  obtain⟨hS,hSs⟩:=ih X G O
  obtain⟨hE,hT,hI⟩:=bw6 n X G O
  refine⟨fun s=>?_,fun s=>?_⟩
  ·unfold wS
   split
   ·exact a27
   ·exact bn5
   ·exact bn6
   ·exact bn9 (hE _)
   ·exact a28
   ·split
    ·exact a26 (hE _) ‹_›
    ·exact Cv
   ·exact b51 (hT _) (hSs _) (hSs _)
   ·split
    ·rename_i i e
     split
     ·rename_i hh
      obtain⟨h1,h2,h3,h4⟩:=hh
      refine Vn O e h1 (O.calm▸h2) h3 h4 (hI _ _) (fun X' O'=>Ty n X' _ O' _) (fun X' O'=>?_) (fun X' O'=>(bw6 n X' _ O').1 _)
      split
      ·exact Td
      ·exact Te ((bw6 n X' _ O').2.1 _)
      ·exact fun _ _ _ _ _ _ _ _ h=>h.elim
     ·exact Cv
    ·exact Cv
   ·split
    ·rename_i i e
     split
     ·rename_i hh
      exact ao8 O e hh.1 (hE _) (Iu hh.2 _ _ _)
     ·exact Cv
    ·exact Cv
   ·split
    ·rename_i hh
     exact bn4 (hE _) (Ty n X G O _) hh.1 hh.2
    ·exact Cv
   ·rw [<- O.K];exact bn7 (hE _) (hE _)
   ·split
    ·rename_i hh
     rw [<- O.K];exact bo0 O.units (hE _) (hE _) (hE _) hh
    ·exact Cv
   ·split
    ·rename_i hh
     exact bn8 O hh.2.2 (O.calm▸hh.1) (hI _ _) (Ty n X G O _) (hSs _) hh.2.1
    ·exact Cv
   ·exact a29 ((ih _ _ (bu0 O PassesOwn.never)).2 _)
   ·exact Cv
  ·cases s with
   | nil=>unfold wSs;exact a30
   | cons a r=>unfold wSs;exact ao9 (hS a) (hSs r)
section
variable {P:aW} {w:bE} {K:ae} {mg:Str->Option Value} {base:Heap}
structure FnIn (P:aW) (w:bE) (K:ae) (mg:Str->Option Value) (base:Heap) (k:Nat) (x:Str) (i:FI):Prop where
 at_:mg x=some (.ref i.f)
 kp:bu K (.ref i.f)=true
 ok:∃ CX,(∀ X':Cx,X'.prog=P->X'.w=w->W4 CX X')/\FnOk P w K mg base CX i.k i.f i.fd i.ps i.sp
 le:i.k<=k
 binds:∀ j,j<=i.dfs.length->Binds K i.fd i.ps (i.ds.drop j)
 vals:Vals i.dfs i.ds
structure FiIn (P:aW) (w:bE) (K:ae) (mg:Str->Option Value) (base:Heap) (k:Nat) (i:FI):Prop where
 kp:bu K (.ref i.f)=true
 ok:∃ CX,(∀ X':Cx,X'.prog=P->X'.w=w->W4 CX X')/\FnOk P w K mg base CX i.k i.f i.fd i.ps i.sp
 le:i.k<=k
 binds:∀ j,j<=i.dfs.length->Binds K i.fd i.ps (i.ds.drop j)
 vals:Vals i.dfs i.ds
theorem FiIn.mono {k k':Nat} {i:FI} (F:FiIn P w K mg base k i) (h:k<=k'):FiIn P w K mg base k' i:=⟨F.kp,F.ok,ax F.le h,F.binds,F.vals⟩
noncomputable def ch5 (P:aW) (w:bE) (K:ae) (mg:Str->Option Value) (base:Heap) (k:Nat) (C:Addr):Option FI->Prop
 | none=>cI K C=true/\aP K (.ref C) "__init__" = some (some (.builtin "object.__init__"))
 | some i=>cI K C=true/\aP K (.ref C) "__init__" = some (some (.ref i.f))/\dz K (.ref i.f)=true/\FiIn P w K mg base k i/\i.k+1<=k
structure ClsIn (P:aW) (w:bE) (K:ae) (mg:Str->Option Value) (base:Heap) (k:Nat) (x:Str) (C:Addr) (oi:Option FI):Prop where
 at_:mg x=some (.ref C)
 kp:bu K (.ref C)=true
 made:ch5 P w K mg base k C oi
theorem ClsIn.mono {k k':Nat} {x:Str} {C:Addr} {oi:Option FI} (F:ClsIn P w K mg base k x C oi) (h:k<=k'):ClsIn P w K mg base k' x C oi:=by
 refine⟨F.at_,F.kp,?_⟩
 cases oi with
 | none=>exact F.made
 | some i=>obtain⟨a,b,c,d,e⟩:=F.made;exact⟨a,b,c,d.mono h,ax e h⟩
structure MetIn (P:aW) (w:bE) (K:ae) (mg:Str->Option Value) (base:Heap) (k:Nat) (m:Str) (mi:MI):Prop where
 cls:Cls K mi.C
 at_:G3 K mi.C m mi.i.f
 fi:FiIn P w K mg base k mi.i
theorem MetIn.mono {k k':Nat} {m:Str} {mi:MI} (F:MetIn P w K mg base k m mi) (h:k<=k'):MetIn P w K mg base k' m mi:=⟨F.cls,F.at_,F.fi.mono h⟩
noncomputable def GBIn (P:aW) (w:bE) (K:ae) (mg:Str->Option Value) (base:Heap) (k:Nat) (x:Str):GB->Prop
 | .fn i=>FnIn P w K mg base k x i
 | .val v u=>mg x=some u/\RelV v u
 | .cls C oi=>ClsIn P w K mg base k x C oi
 | .met m l=>∀ mi∈l,MetIn P w K mg base k m mi
structure Tab (P:aW) (w:bE) (K:ae) (mg:Str->Option Value) (base:Heap) (k:Nat) (gb:List (Str×GB)) (bl:List Str):Prop where
 all:∀ x g,(x,g)∈gb->GBIn P w K mg base k x g
 bl:∀ x∈bl,mg x=none
theorem FnIn.mono {k k':Nat} {x:Str} {i:FI} (F:FnIn P w K mg base k x i) (h:k<=k'):FnIn P w K mg base k' x i:=⟨F.at_,F.kp,F.ok,ax F.le h,F.binds,F.vals⟩
theorem GBIn.mono {k k':Nat} {x:Str} {g:GB} (F:GBIn P w K mg base k x g) (h:k<=k'):GBIn P w K mg base k' x g:=by
 cases g with
 | fn i=>exact FnIn.mono F h
 | val v u=>exact F
 | cls C oi=>exact ClsIn.mono F h
 | met m l=>exact fun mi hm=>(F mi hm).mono h
theorem Tab.nil {bl:List Str} (h:∀ x∈bl,mg x=none):Tab P w K mg base 0 [] bl:=⟨fun _ _ h=>(by cases h),h⟩
theorem Tab.mono {k k':Nat} {gb:List (Str×GB)} {bl:List Str} (T:Tab P w K mg base k gb bl) (h:k<=k'):Tab P w K mg base k' gb bl:=⟨fun x g hx=>(T.all x g hx).mono h,T.bl⟩
theorem Tab.put {k:Nat} {gb:List (Str×GB)} {bl:List Str} {x:Str} {g:GB} (T:Tab P w K mg base k gb bl) (F:GBIn P w K mg base k x g):Tab P w K mg base k ((x,g)::gb) bl:=
 ⟨fun y j hy=>by
  rcases List.mem_cons.mp hy with e|e
  ·cases e;exact F
  ·exact T.all y j e,T.bl⟩
theorem Tab.cons {k:Nat} {gb:List (Str×GB)} {bl:List Str} {x:Str} {i:FI} (T:Tab P w K mg base k gb bl) (F:FnIn P w K mg base k x i):Tab P w K mg base k ((x,.fn i)::gb) bl:=T.put F
theorem Tab.consV {k:Nat} {gb:List (Str×GB)} {bl:List Str} {x:Str} {v:V} {u:Value} (T:Tab P w K mg base k gb bl) (F:mg x=some u) (r:RelV v u):Tab P w K mg base k ((x,.val v u)::gb) bl:=T.put ⟨F,r⟩
theorem Tab.consC {k:Nat} {gb:List (Str×GB)} {bl:List Str} {x:Str} {C:Addr} {oi:Option FI} (T:Tab P w K mg base k gb bl) (F:ClsIn P w K mg base k x C oi):Tab P w K mg base k ((x,.cls C oi)::gb) bl:=T.put F
theorem Tab.consM {k:Nat} {gb:List (Str×GB)} {bl:List Str} {x:Str} {m:Str} {l:List MI} (T:Tab P w K mg base k gb bl) (F:∀ mi∈l,MetIn P w K mg base k m mi):Tab P w K mg base k ((x,.met m l)::gb) bl:=T.put F
theorem GBIn.there {X:Cx} {k:Nat} {x:Str} {g:GB} (F:GBIn X.prog X.w X.K X.mg X.base k x g) (hr:Room k X.A):GBOk X x g:=by
 cases g with
 | fn i=>exact⟨F.at_,F.kp,F.ok,hr.mono F.le,F.binds,F.vals⟩
 | val v u=>exact F
 | cls C oi=>
  refine⟨F.at_,F.kp,?_⟩
  cases oi with
  | none=>exact F.made
  | some i=>obtain⟨a,b,c,d,e⟩:=F.made;exact⟨a,b,c,⟨d.kp,d.ok,hr.mono d.le,d.binds,d.vals⟩,hr.mono e⟩
 | met m l=>exact fun mi hm=>⟨(F mi hm).cls,(F mi hm).at_,⟨(F mi hm).fi.kp,(F mi hm).fi.ok,hr.mono (F mi hm).fi.le,(F mi hm).fi.binds,(F mi hm).fi.vals⟩⟩
theorem K8 (X:Cx):W4 CX0 X:=fun _ _ _ _ _ _ _ _ _ h=>h.elim
noncomputable def Bg (K:ae) (N:List Str) (sc:Scope) (gb:List (Str×GB)) (bl:List Str):Sg:=⟨K,N,sc.names,gb,bl,true,true⟩
noncomputable def Ay (N:List Str) (sc:Scope):Bool:=N.all fun x=>(sc.names.lookup x==some .local)||(sc.names.lookup x==some .cell)
noncomputable def Pe (Q:VK) (E:EK):Ol:=⟨fun _ H'=>Q .non H',Q,fun _ _=>False,fun _ _=>False,fun _=>E⟩
structure FunD (K:ae) (x qual:Str) (st:Stmt) (f:Addr) (fd:aB) (dV:Value):Prop where
 ex:∃ (oc:Value) (od:Option Addr) (kV doc pm:Value) (an:Option Addr) (cdv ct:Value) (osl:Array (Option Value)),
  fd=b7 x qual (B6 st) (Al st) (Ab st) dV kV doc pm an cdv ct/\K.lookup f=some ⟨oc,od,.func fd,osl⟩/\dg K cdv qual=true
 kp:bu K (.ref f)=true
theorem Fun.toD {x qual:Str} {st:Stmt} {f:Addr} {fd:aB} (F:Fun K x qual st f fd):FunD K x qual st f fd .none:=⟨F.ex,F.kp⟩
theorem ax0 {x qual:Str} {st:Stmt} {f:Addr} {oc:Value} {od an:Option Addr} {osl:Array (Option Value)} {dV kV doc pm cdv ct:Value} (l:K.lookup f=some ⟨oc,od,.func (b7 x qual (B6 st) (Al st) (Ab st) dV kV doc pm an cdv ct),osl⟩)
  (c:dg K cdv qual=true) (k:bu K (.ref f)=true):FunD K x qual st f (b7 x qual (B6 st) (Al st) (Ab st) dV kV doc pm an cdv ct) dV:=⟨⟨oc,od,kV,doc,pm,an,cdv,ct,osl,rfl,l,c⟩,k⟩
theorem FunD.ok {x qual:Str} {st:Stmt} {f:Addr} {fd:aB} {dV:Value} {N ps:List Str} {k:Nat} {sp:Sp} (F:FunD K x qual st f fd dV) (S:Am N ps (Ab st)) (len:∀ vs H Q E,sp vs H Q E->vs.length=ps.length)
  (hbody:∀ (cdv:Value) (A:bj) (outer:List Env) (s:al) (H:Hp) (vs:List V) (Q:VK) (E:XK),Room k (A.deeper (kU qual (Ab st) s.heap.objs.size f cdv))->sp vs H Q E ->
   ∃ t,PSs (Up CX0 P w K mg base N qual (Ab st) f cdv A outer s H E).nox (Al st) t/\t { nx:=fun _ H'=>Q .non H',rt:=Q } (Fg N vs) H):FnOk P w K mg base CX0 (k+1) f fd ps sp:=by
 obtain⟨oc,od,kV,doc,pm,an,cdv,ct,osl,rfl,lk,hcd⟩:=F.ex
 refine bx9 lk hcd S len fun A outer s H vs Q E hr hsp=>?_
 obtain⟨t,h,q⟩:=hbody cdv A outer s H vs Q E hr hsp
 exact⟨t,h.nox,q⟩
theorem Uf {fd:aB} {ps:List Str} {T:Addr} {o:Obj} {items:Array Value} {n:Nat} {ds:List Value} (hd:fd.defaults=.ref T) (ho:K.lookup T=some o) (hs:o.data=.seq items n)
  (h:∀ us:List Value,(us++ds).length=ps.length -> ∃ k:Option (Array Value)->Sem (List (Str×Value)),kE fd ⟨us,[]⟩=seqItems? fd.defaults >>= k/\k (some items)=pure (ps.zip (us++ds))):Binds K fd ps ds:=fun s us X hl=>by
 obtain⟨k,h1,h2⟩:=h us hl
 exact PySem.W.binds_K X hd ho hs h1 h2
theorem FunD.okW0 {x qual:Str} {st:Stmt} {f:Addr} {fd:aB} {N ps:List Str} {k n:Nat} {sp:Sp} {gb:List (Str×GB)} {bl:List Str} {t:DS} {dV:Value} (F:FunD K x qual st f fd dV) (S:Am N ps (Ab st)) (hv:Ay N (Ab st)=true)
  (T:Tab P w K mg base k gb bl) (rd:wSs n (Bg K N (Ab st) gb bl) (Al st)=t) (len:∀ vs H Q E,sp vs H Q E->vs.length=ps.length)
  (hbody:∀ (vs:List V) (H:Hp) (Q:VK) (E:XK),sp vs H Q E->t (Pe Q fun _ _=>False) (Fg N vs) H):FnOk P w K mg base CX0 (k+1) f fd ps sp:=by
 refine F.ok S len fun cdv A outer s H vs Q E hr h=>?_
 have O:GOk (Up CX0 P w K mg base N qual (Ab st) f cdv A outer s H E).nox (Bg K N (Ab st) gb bl):=by
  refine⟨rfl,S.kind,(fun _=>PassesOwn.never),rfl,S.nd,fun x=>rfl,fun x hx=>?_,fun _ _=>rfl,rfl,(fun _=>hr.hd),hr.units,fun x hx=>?_,fun x g e=>?_,fun x hx=>?_,(fun _=>⟨rfl,rfl⟩),⟨_,_,_,rfl,rfl,rfl⟩⟩
  ·have:=List.all_eq_true.mp hv x hx
   rw [dW] at this
   exact this.elim (fun z=>.inl (cJ z)) fun z=>.inr (.inl (cJ z))
  ·rcases hx with hx|hx
   ·exact Km hx
   ·exact absurd rfl (S.nofree _ (cb hx))
  ·exact (T.all x g e).there hr
  ·exact T.bl x (by have hx':bl.contains x=true:=hx;simpa using hx')
 refine⟨_,(ch2 n _ _ O).2 (Al st) (fun _ _ _=>False) (fun _ _ _ _ _ _ _ h=>h.elim),?_⟩
 rw [rd]
 exact hbody vs H Q E h
end
theorem Same.upd {H:Hp} {a:Addr} {o:HO} (h:H a=none):Same H (upd H a o):=fun b u e=>by rw [Ak (Aj e h)];exact e
theorem Same.set {H H':Hp} {a:Addr} {o:HO} (s:Same H H') (h:H a=none):Same H (L2.upd H' a o):=fun b u e=>by rw [Ak (Aj e h)];exact s b u e
theorem Same.seqT {K:ae} {H H':Hp} {a:Addr} {xs:List V} (e:Same H H') (h:SqT K H a xs):SqT K H' a xs:=by
 rcases h with (h|⟨o,h⟩)|h
 ·exact .inl (.inl (e _ _ h))
 ·exact .inl (.inr ⟨o,e _ _ h⟩)
 ·exact .inr h
structure D5 (J:It) (its:List V) (ok:Hp->Prop):Prop where
 go:∀ i H,ok H->i<its.length->J.go i H
 stop:∀ H,ok H->J.stop its.length H
 yld:∀ i H x H',ok H->i<its.length->J.yld i H x H'->H'=H/\its[i]? = some x
structure Jx (J:It) (its:List (V×V)) (ok:Hp->Prop):Prop where
 go:∀ i H,ok H->i<its.length->J.go i H
 stop:∀ H,ok H->J.stop its.length H
 yld:∀ i H v H',ok H->i<its.length->J.yld i H v H' -> ∃ T x y,H T=none/\v=.ref T/\its[i]? = some (x,y)/\H'=upd H T (.tup [x,y])
noncomputable def F1 (z:Str):List V:=z.cps.toList.map fun c=>V.str ⟨#[c]⟩
theorem bw7 (z:Str):D5 (Its z) (F1 z) (fun _=>True):=by
 have e:(F1 z).length=z.cps.size:=by unfold F1;simp
 refine⟨fun i H _ h=>?_,fun H _=>?_,fun i H x H' _ _ h=>?_⟩
 ·show i<z.cps.size;omega
 ·show (F1 z).length=z.cps.size;exact e
 ·obtain⟨h1,c,h2,h3⟩:=h
  refine⟨h1,?_⟩
  unfold F1
  rw [ai,jg,h2,h3]
  rfl
theorem As {K:ae} {a:Addr} (xs:List V):D5 (Itl K a) xs (fun H=>SqL K H a xs):=by
 refine⟨fun i H q h=>⟨xs,xs[i],q,by simp [h]⟩,fun H q=>⟨xs,q,ak _⟩,fun i H x H' q _ h=>?_⟩
 obtain⟨h1,h2⟩:=h
 exact⟨h1,h2 xs q⟩
theorem at9 {K:ae} {a:Addr} (xs:List V):D5 (Itt K a) xs (fun H=>SqT K H a xs):=by
 refine⟨fun i H q h=>⟨xs,xs[i],q,by simp [h]⟩,fun H q=>⟨xs,q,ak _⟩,fun i H x H' q _ h=>?_⟩
 obtain⟨h1,h2⟩:=h
 exact⟨h1,h2 xs q⟩
noncomputable def Tj (lo:Int) (n:Nat):List V:=(aw n).map fun (i:Nat)=>V.int (lo+(i:Int))
theorem Bc (lo:Int) (n:Nat):(Tj lo n).length=n:=by unfold Tj;simp
theorem Le {lo:Int} {n i:Nat} (h:i<n):(Tj lo n)[i]? = some (.int (lo+(i:Int))):=by unfold Tj;simp [h]
theorem Bq (lo:Int) (n:Nat):D5 (Itr lo n) (Tj lo n) (fun _=>True):=by
 refine⟨fun i H _ h=>?_,fun H _=>?_,fun i H x H' _ hi h=>?_⟩
 ·rw [Bc] at h;exact h
 ·show n<=(Tj lo n).length;rw [Bc];exact ak _
 ·obtain⟨h1,h2⟩:=h
  rw [Bc] at hi
  exact⟨h1,by rw [Le hi,h2]⟩
noncomputable def Ev:Nat->List V->List (V×V)
 | _,[]=>[]
 | k,x::r=>(.int k,x)::Ev (k+1) r
theorem Cc:∀ (k:Nat) (xs:List V),(Ev k xs).length=xs.length
 | _,[]=>rfl
 | k,_::r=>by rw [Ev,aI,aI,Cc (k+1) r]
theorem De:∀ {k i:Nat} {xs:List V} {x:V},xs[i]? = some x->(Ev k xs)[i]? = some (.int ((k+i:Nat):Int),x)
 | _,_,[],_,h=>by simp at h
 | k,0,y::r,x,h=>by
  simp only [c9,il] at h
  subst h
  rfl
 | k,i+1,y::r,x,h=>by
  rw [bZ] at h
  rw [Ev,bZ,De h]
  congr 4
  omega
theorem Qn {K:ae} {a:Addr} (xs:List V):Jx (Ite K a) (Ev 0 xs) (fun H=>SqL K H a xs):=by
 have e:=Cc 0 xs
 refine⟨fun i H q h=>⟨xs,xs[i]'(by omega),q,by simp⟩,fun H q=>⟨xs,q,by omega⟩,fun i H v H' q _ h=>?_⟩
 obtain⟨T,x,hT,h1,h2,h4⟩:=h
 refine⟨T,.int i,x,hT,h1,?_,h4⟩
 have:=De (k:=0) (h2 xs q)
 rw [cB] at this
 exact this
section
variable {J:It} {its:List V} {ok:Hp->Prop} {g:DG} {tb:DS} {D:Ol} {σ:St} {H:Hp}
theorem A5 (Y:D5 J its ok) (Pv:Nat->St->Hp->Prop) (h0:Pv 0 σ H) (hok:∀ i σ H,i<=its.length->Pv i σ H->ok H)
  (hs:∀ i x σ H,its[i]? = some x->Pv i σ H->g x σ H fun σ2 H2=>tb { D with nx:=Pv (i+1),ct:=Pv (i+1),bk:=D.nx } σ2 H2) (hd:∀ σ H,Pv its.length σ H->D.nx σ H):aa9 J g tb D σ H:=by
 refine⟨fun i m σ H=>m=its.length - i/\i<=its.length/\Pv i σ H,⟨its.length,by simp,bR _,h0⟩,?_⟩
 rintro i m σ H ⟨rfl,hi,p⟩
 by_cases hlt:i<its.length
 ·refine .inr ⟨Y.go i H (hok i σ H hi p) hlt,Pv (i+1),fun σ' H' p'=>⟨its.length - (i+1),by omega,rfl,hlt,p'⟩,fun x H' y=>?_⟩
  obtain⟨e,y2⟩:=Y.yld i H x H' (hok i σ H hi p) hlt y
  subst e
  exact hs i x σ _ y2 p
 ·have e:i=its.length:=by omega
  subst e
  exact .inl ⟨Y.stop H (hok _ σ H hi p),hd σ H p⟩
theorem Ph {its:List (V×V)} (Y:Jx J its ok) (Pv:Nat->St->Hp->Prop) (h0:Pv 0 σ H) (hok:∀ i σ H,i<=its.length->Pv i σ H->ok H)
  (hs:∀ i x y T σ H,its[i]? = some (x,y)->H T=none->Pv i σ H->g (.ref T) σ (upd H T (.tup [x,y])) fun σ2 H2=>tb { D with nx:=Pv (i+1),ct:=Pv (i+1),bk:=D.nx } σ2 H2) (hd:∀ σ H,Pv its.length σ H->D.nx σ H):aa9 J g tb D σ H:=by
 refine⟨fun i m σ H=>m=its.length - i/\i<=its.length/\Pv i σ H,⟨its.length,by simp,bR _,h0⟩,?_⟩
 rintro i m σ H ⟨rfl,hi,p⟩
 by_cases hlt:i<its.length
 ·refine .inr ⟨Y.go i H (hok i σ H hi p) hlt,Pv (i+1),fun σ' H' p'=>⟨its.length - (i+1),by omega,rfl,hlt,p'⟩,fun x H' y=>?_⟩
  obtain⟨T,u,v,hT,e1,e2,e3⟩:=Y.yld i H x H' (hok i σ H hi p) hlt y
  subst e1 e3
  exact hs i u v T σ _ e2 hT p
 ·have e:i=its.length:=by omega
  subst e
  exact .inl ⟨Y.stop H (hok _ σ H hi p),hd σ H p⟩
variable {tc:DT} {te:DE} {L:Addr} {R:Hp->Prop} {E:EK}
theorem Cs (Y:D5 J its ok) (Pv:Nat->St->Hp->Prop) (h0:Pv 0 σ H) (hok:∀ i σ H,i<=its.length->Pv i σ H->ok H)
  (hs:∀ i x σ H,its[i]? = some x->Pv i σ H->g x σ H fun σ3 H3=>tc σ3 H3 (fun b H4=>if b=true then te σ3 H4 (fun v H5=>∃ ys,H5 L=some (.lst ys)/\ys.length<sizeLine/\Pv (i+1) σ3 (upd H5 L (.lst (ys++[v])))) E else Pv (i+1) σ3 H4) E)
  (hd:∀ σ H,Pv its.length σ H->R H):E3 J g tc te L R σ H E:=by
 refine⟨fun i m σ H=>m=its.length - i/\i<=its.length/\Pv i σ H,⟨its.length,by simp,bR _,h0⟩,?_⟩
 rintro i m σ H ⟨rfl,hi,p⟩
 by_cases hlt:i<its.length
 ·refine .inr ⟨Y.go i H (hok i σ H hi p) hlt,Pv (i+1),fun σ' H' p'=>⟨its.length - (i+1),by omega,rfl,hlt,p'⟩,fun x H' y=>?_⟩
  obtain⟨e,y2⟩:=Y.yld i H x H' (hok i σ H hi p) hlt y
  subst e
  exact hs i x σ _ y2 p
 ·have e:i=its.length:=by omega
  subst e
  exact .inl ⟨Y.stop H (hok _ σ H hi p),hd σ H p⟩
theorem av5 {its:List (V×V)} (Y:Jx J its ok) (Pv:Nat->St->Hp->Prop) (h0:Pv 0 σ H) (hok:∀ i σ H,i<=its.length->Pv i σ H->ok H)
  (hs:∀ i x y T σ H,its[i]? = some (x,y)->H T=none->Pv i σ H->g (.ref T) σ (upd H T (.tup [x,y])) fun σ3 H3=>tc σ3 H3 (fun b H4=>if b=true then te σ3 H4 (fun v H5=>∃ ys,H5 L=some (.lst ys)/\ys.length<sizeLine/\Pv (i+1) σ3 (upd H5 L (.lst (ys++[v])))) E else Pv (i+1) σ3 H4) E)
  (hd:∀ σ H,Pv its.length σ H->R H):E3 J g tc te L R σ H E:=by
 refine⟨fun i m σ H=>m=its.length - i/\i<=its.length/\Pv i σ H,⟨its.length,by simp,bR _,h0⟩,?_⟩
 rintro i m σ H ⟨rfl,hi,p⟩
 by_cases hlt:i<its.length
 ·refine .inr ⟨Y.go i H (hok i σ H hi p) hlt,Pv (i+1),fun σ' H' p'=>⟨its.length - (i+1),by omega,rfl,hlt,p'⟩,fun x H' y=>?_⟩
  obtain⟨T,u,v,hT,e1,e2,e3⟩:=Y.yld i H x H' (hok i σ H hi p) hlt y
  subst e1 e3
  exact hs i u v T σ _ e2 hT p
 ·have e:i=its.length:=by omega
  subst e
  exact .inl ⟨Y.stop H (hok _ σ H hi p),hd σ H p⟩
theorem Fi {α β:Type} {its:List α} {i:Nat} {x:α} (h:its[i]? = some x) (p:α->Bool) (f:α->β):((its.take (i+1)).filter p).map f=((its.take i).filter p).map f++(if p x=true then [f x] else []):=by
 rw [bG,h]
 simp only [bW,fv,aq]
 congr 1
 cases e:p x <;> simp [e]
theorem Oy (Y:D5 J its ok) (Sg:St->Prop) (p:V->Bool) (f:V->V) (h0:H L=none) (hok:∀ H1,Same H H1->ok H1) (hn:its.length<sizeLine) (hσ:Sg σ)
  (hs:∀ x σ H1,x∈its->Sg σ->Same H H1 -> ∀ (Fin:V->St->Hp->Prop) (Skip:St->Hp->Prop),(∀ v σ3 H5,Sg σ3->Same H1 H5->p x=true->v=f x->Fin v σ3 H5)->(∀ σ3 H4,Sg σ3->Same H1 H4->p x=false->Skip σ3 H4) ->
   g x σ H1 fun σ3 H3=>tc σ3 H3 (fun b H4=>if b=true then te σ3 H4 (fun v H5=>Fin v σ3 H5) E else Skip σ3 H4) E)
  (hd:∀ H',Same H H'->H' L=some (.lst ((its.filter p).map f))->R H'):E3 J g tc te L R σ (upd H L (.lst [])) E:=by
 refine Cs Y (fun i σ' H'=>Sg σ'/\Same H H'/\H' L=some (.lst (((its.take i).filter p).map f))) ⟨hσ,Same.upd h0,Ad⟩ (fun i σ' H' _ q=>hok H' q.2.1) ?_ ?_
 ·rintro i x σ' H' hx ⟨q1,q2,q3⟩
  have hi:i<its.length:=(List.getElem?_eq_some_iff.mp hx).1
  refine hs x σ' H' (af hx) q1 q2 (fun v σ3 H5=>∃ ys,H5 L=some (.lst ys)/\ys.length<sizeLine/\Sg σ3/\Same H (upd H5 L (.lst (ys++[v])))/\upd H5 L (.lst (ys++[v])) L=some (.lst (((its.take (i+1)).filter p).map f)))
   (fun σ3 H4=>Sg σ3/\Same H H4/\H4 L=some (.lst (((its.take (i+1)).filter p).map f))) (fun v σ3 H5 s1 s2 hp hv=>?_) (fun σ3 H4 s1 s2 hp=>?_)
  ·refine⟨_,s2 _ _ q3,?_,s1,(q2.trans s2).set h0,?_⟩
   ·rw [ac]
    have h1:=cR p (its.take i)
    have h2:(its.take i).length<=i:=by rw [aF];omega
    omega
   ·rw [Ad,Fi hx,if_pos hp,hv]
  ·refine⟨s1,q2.trans s2,?_⟩
   rw [s2 _ _ q3,Fi hx,if_neg (by rw [hp];exact am),bQ]
 ·rintro σ' H' ⟨_,q2,q3⟩
  rw [aL] at q3
  exact hd H' q2 q3
end
section
variable {K:ae} {H H':Hp}
theorem Same.seqL {a:Addr} {xs:List V} (e:Same H H') (h:SqL K H a xs):SqL K H' a xs:=by
 rcases h with (h|⟨o,h⟩)|h
 ·exact .inl (.inl (e _ _ h))
 ·exact .inl (.inr ⟨o,e _ _ h⟩)
 ·exact .inr h
theorem Oq:AtL K H [] []:=by unfold AtL;rfl
theorem G8 {d:Dt} {ds:List Dt} {x:V} {xs:List V} (h:At K H d x) (t:AtL K H ds xs):AtL K H (d::ds) (x::xs):=by unfold AtL;exact⟨x,xs,rfl,h,t⟩
noncomputable def Jb (z:Str):Dt:=.at_ (.str z)
theorem W8 {z:Str}:At K H (Jb z) (.str z):=by unfold Jb At;exact⟨rfl,rfl⟩
theorem Ri:∀ {r:List Str},AtL K H (r.map Jb) (r.map V.str)
 | []=>Oq
 | _::_=>G8 W8 Ri
theorem av0 {a:Addr} {r:List Str} (h:SqT K H a (r.map V.str)):At K H (.tup (r.map Jb)) (.ref a):=by unfold At;exact⟨a,_,rfl,h,Ri⟩
theorem be1 {a:Addr} {ds:List Dt} {xs:List V} (h:SqT K H a xs) (g:AtL K H ds xs):At K H (.tup ds) (.ref a):=by unfold At;exact⟨a,xs,rfl,h,g⟩
theorem Ue {a:Addr} {ds:List Dt} {xs:List V} (h:SqL K H a xs) (g:AtL K H ds xs):At K H (.lst ds) (.ref a):=by unfold At;exact⟨a,xs,rfl,h,g⟩
theorem au8 {v:V} (f:Bs v=true):At K H (.at_ v) v:=by unfold At;exact⟨rfl,f⟩
end
theorem Ru (a b:Str):deq (Jb a) (Jb b)=decide (a=b):=by
 unfold Jb deq
 show (a==b)=_
 rw [cQ]
theorem Fq {α:Type} [DecidableEq α] {f:α->Dt} (h:∀ a b,deq (f a) (f b)=decide (a=b)):∀ (l l':List α),Dn (l.map f) (l'.map f)=decide (l=l')
 | [],[]=>by unfold fz Dn;rfl
 | [],_::_=>by unfold fz Dn;rfl
 | _::_,[]=>by unfold fz Dn;rfl
 | a::l,b::l'=>by
  rw [aQ,aQ]
  unfold Dn
  rw [h,Fq h l l',bH,aA,decide_eq_true_iff,decide_eq_true_iff,decide_eq_true_iff,List.cons.injEq]
theorem Fo {α:Type} {f:α->Dt} {n:Nat} (h:∀ a,dep (f a)<=n):∀ (l:List α),E4 (l.map f)<=n
 | []=>by unfold fz E4;exact bR _
 | a::l=>by
  rw [aQ]
  unfold E4
  exact Nat.max_le.mpr ⟨h a,Fo h l⟩
theorem Rt (z:Str):dep (Jb z)<=0:=by unfold Jb dep;exact ak _
section
variable {K:ae} {H H':Hp}
theorem ag1 {J:It} {its:List V} {ok:Hp->Prop} {te:DE} {σ:St} {D:Addr} {R:Hp->Prop} {E:EK} (Y:D5 J its ok) (Sg:St->Prop) (hD:H D=none) (hok:∀ H1,Same H H1->ok H1) (hn:its.length<sizeLine) (hσ:Sg σ) (hS:∀ σ x,Sg σ->Sg (σ.set 0 (some x)))
  (he:∀ x σ H1 Q1,x∈its->Sg σ->Same H H1->(∀ H2,Same H1 H2->Q1 (.bl true) H2)->te (σ.set 0 (some x)) H1 Q1 E) (k:∀ H',Same H H'->SqL K H' D ((its.map fun _=>true).map V.bl)->R H') :
  E3 J (gdN 0) Bw te D R σ (upd H D (.lst [])) E:=by
 refine Oy Y Sg (fun _=>true) (fun _=>.bl true) hD hok hn hσ ?_ ?_
 ·intro x σ H1 hx hs S Fin Skip hF hK
  exact he x σ H1 _ hx hs S fun H2 S2=>hF _ _ _ (hS _ _ hs) S2 rfl rfl
 ·intro H' S hD'
  exact k H' S (SqL.of (hD'.trans (by rw [List.filter_eq_self.mpr (fun _ _=>rfl),bd];rfl)))
theorem W7 (its:List V):((its.map fun _=>true).all fun b=>b)=true:=by rw [e8,aY];exact fun _ _=>rfl
end
end L2
namespace L2
open PySem PySem.Spec PySem.W
theorem Jd {K:ae} {fd:aB} {ps:List Str} {T:Addr} {o:Obj} {items:Array Value} {n:Nat} {ds:List Value} (m:Nat) (hd:fd.defaults=.ref T) (ho:K.lookup T=some o) (hs:o.data=.seq items n) (hm:m+ds.length=ps.length)
  (h:∀ us:List Value,us.length=m -> ∃ k:Option (Array Value)->Sem (List (Str×Value)),kE fd ⟨us,[]⟩=seqItems? fd.defaults >>= k/\k (some items)=pure (ps.zip (us++ds))):Binds K fd ps ds:=
 Uf hd ho hs fun us hl=>h us (by rw [aJ] at hl;omega)
end L2
namespace L2
open PySem PySem.Spec PyProof.Rows
section
variable {P:aW} {w:bE} {K:ae} {mg:Str->Option Value} {base:Heap} {x q:Str} {st:Stmt} {f:Addr} {d:aB} {ps:List Str}
noncomputable def bw9 (K:ae) (x q:Str) (st:Stmt) (f:Addr):Prop:=∃ d,Fun K x q st f d
structure TopD (K:ae) (q:Str) (st:Stmt) (f:Addr):Prop where
 at_:bC K bc q=some (some (.ref f))
 d:bw9 K q q st f
structure MetD (K:ae) (x q:Str) (st:Stmt) (f:Addr):Prop where
 fn:dz K (.ref f)=true
 d:bw9 K x q st f
theorem top_mk {oc:Value} {od an:Option Addr} {osl:Array (Option Value)} {kV doc pm cdv ct:Value} (a:bC K bc q=some (some (.ref f))) (l:K.lookup f=some ⟨oc,od,.func (b7 q q (B6 st) (Al st) (Ab st) .none kV doc pm an cdv ct),osl⟩)
  (c:dg K cdv q=true) (k:bu K (.ref f)=true):TopD K q st f:=⟨a,_,Uy l c k⟩
theorem met_mk {oc:Value} {od an:Option Addr} {osl:Array (Option Value)} {kV doc pm cdv ct:Value} (l:K.lookup f=some ⟨oc,od,.func (b7 x q (B6 st) (Al st) (Ab st) .none kV doc pm an cdv ct),osl⟩)
  (c:dg K cdv q=true) (k:bu K (.ref f)=true) (i:dz K (.ref f)=true):MetD K x q st f:=⟨i,_,Uy l c k⟩
structure DOk (K:ae) (mg:Str->Option Value) (q:Str) (st:Stmt) (f:Addr) (d:aB) (ps:List Str):Prop where
 F:FunD K q q st f d .none
 b:Binds K d ps []
 m:mg q=some (.ref f)
structure MOk (K:ae) (x q:Str) (st:Stmt) (f:Addr) (d:aB) (ps:List Str):Prop where
 F:FunD K x q st f d .none
 b:Binds K d ps []
 i:dz K (.ref f)=true
theorem TopD.ok {h:Heap} (D:TopD K q st f) (X:K.In h) (G:h.Ns bc mg) (hb:∀ (kV doc pm:Value) (an:Option Addr) (cdv ct:Value) (us:List Value),us.length=ps.length->kE (b7 q q (B6 st) (Al st) (Ab st) .none kV doc pm an cdv ct) ⟨us,[]⟩=pure (ps.zip us)):∃ d,DOk K mg q st f d ps:=by
 obtain⟨a,d,F⟩:=D
 exact⟨d,F.toD,F.binds hb,cP X G a⟩
theorem MetD.ok (D:MetD K x q st f) (hb:∀ (kV doc pm:Value) (an:Option Addr) (cdv ct:Value) (us:List Value),us.length=ps.length->kE (b7 x q (B6 st) (Al st) (Ab st) .none kV doc pm an cdv ct) ⟨us,[]⟩=pure (ps.zip us)):∃ d,MOk K x q st f d ps:=by
 obtain⟨a,d,F⟩:=D
 exact⟨d,F.toD,F.binds hb,a⟩
theorem b02 {i:FI} (h2:i.ds=[]) (b:Binds K i.fd i.ps []):∀ j,j<=i.dfs.length->Binds K i.fd i.ps (i.ds.drop j):=fun j _=>by
 rw [h2,List.drop_nil];exact b
theorem Tab.con {k:Nat} {gb:List (Str×GB)} {bl:List Str} (T:Tab P w K mg base k gb bl) (i:FI) (g:DOk K mg q st i.f i.fd i.ps) (ok:FnOk P w K mg base CX0 i.k i.f i.fd i.ps i.sp) (hk:i.k<=k:=by exact ak _) (h1:i.dfs=[]:=by rfl) (h2:i.ds=[]:=by rfl):Tab P w K mg base k ((q,.fn i)::gb) bl:=
 T.cons ⟨g.m,g.F.kp,⟨CX0,fun X' _ _=>K8 X',ok⟩,hk,b02 h2 g.b,by rw [h1,h2];exact .nil⟩
theorem MOk.fi {k:Nat} (i:FI) (g:MOk K x q st i.f i.fd i.ps) (ok:FnOk P w K mg base CX0 i.k i.f i.fd i.ps i.sp) (hk:i.k<=k:=by exact aC rfl) (h1:i.dfs=[]:=by rfl) (h2:i.ds=[]:=by rfl):FiIn P w K mg base k i:=
 ⟨g.F.kp,⟨CX0,fun X' _ _=>K8 X',ok⟩,hk,b02 h2 g.b,by rw [h1,h2];exact .nil⟩
theorem X8 {kb:Nat} {N:List Str} {gb:List (Str×GB)} {bl:List Str} (spR:Nat->Sp) (tR:Nat->DS) (g:DOk K mg q st f d ps) (S:Am N ps (Ab st)) (hv:Ay N (Ab st)=true) (T:Tab P w K mg base kb gb bl) (m:Nat)
  (rd:∀ n,wSs m (Bg K N (Ab st) ((q,.fn ⟨f,d,ps,kb+n+1,spR n,[],[]⟩)::gb) bl) (Al st)=tR n) (len:∀ n vs H Q E,spR n vs H Q E->vs.length=ps.length) (h0:∀ vs H Q E,¬ spR 0 vs H Q E)
  (hbody:∀ (n:Nat) (vs:List V) (H:Hp) (Q:VK) (E:XK),spR (n+1) vs H Q E->tR n (Pe Q fun _ _=>False) (Fg N vs) H):∀ n,FnOk P w K mg base CX0 (kb+n+1) f d ps (spR n)
 | 0=>g.F.okW0 (n:=m) S hv T rfl (len 0) fun vs H Q E h=>(h0 vs H Q E h).elim
 | n+1=>g.F.okW0 S hv ((T.mono (show kb<=kb+n+1 by omega)).con ⟨f,d,ps,kb+n+1,spR n,[],[]⟩ g (X8 spR tR g S hv T m rd len h0 hbody n)) (rd n) (len (n+1)) (hbody n)
theorem br0 {kb:Nat} {q1 q2:Str} {st1 st2:Stmt} {f1 f2:Addr} {d1 d2:aB} {ps1 ps2 N1 N2:List Str} {gb:List (Str×GB)} {bl:List Str} (spA spB:Nat->Sp) (tA tB:Nat->DS) (g1:DOk K mg q1 st1 f1 d1 ps1) (g2:DOk K mg q2 st2 f2 d2 ps2)
  (S1:Am N1 ps1 (Ab st1)) (hv1:Ay N1 (Ab st1)=true) (S2:Am N2 ps2 (Ab st2)) (hv2:Ay N2 (Ab st2)=true) (T:Tab P w K mg base kb gb bl) (m:Nat)
  (rdA:∀ n,wSs m (Bg K N1 (Ab st1) ((q2,.fn ⟨f2,d2,ps2,kb+2 * n+1,spB n,[],[]⟩)::gb) bl) (Al st1)=tA n) (rdB:∀ n,wSs m (Bg K N2 (Ab st2) ((q1,.fn ⟨f1,d1,ps1,kb+2 * n+2,spA n,[],[]⟩)::gb) bl) (Al st2)=tB n)
  (lenA:∀ n vs H Q E,spA n vs H Q E->vs.length=ps1.length) (lenB:∀ n vs H Q E,spB n vs H Q E->vs.length=ps2.length) (h0:∀ vs H Q E,¬ spB 0 vs H Q E)
  (bodyA:∀ (n:Nat) (vs:List V) (H:Hp) (Q:VK) (E:XK),spA n vs H Q E->tA n (Pe Q fun _ _=>False) (Fg N1 vs) H) (bodyB:∀ (n:Nat) (vs:List V) (H:Hp) (Q:VK) (E:XK),spB (n+1) vs H Q E->tB n (Pe Q fun _ _=>False) (Fg N2 vs) H) :
  ∀ n,FnOk P w K mg base CX0 (kb+2 * n+1) f2 d2 ps2 (spB n)/\FnOk P w K mg base CX0 (kb+2 * n+2) f1 d1 ps1 (spA n):=by
 have stepA:∀ n,FnOk P w K mg base CX0 (kb+2 * n+1) f2 d2 ps2 (spB n)->FnOk P w K mg base CX0 (kb+2 * n+2) f1 d1 ps1 (spA n):=fun n h=>
  g1.F.okW0 S1 hv1 ((T.mono (show kb<=kb+2 * n+1 by omega)).con ⟨f2,d2,ps2,kb+2 * n+1,spB n,[],[]⟩ g2 h) (rdA n) (lenA n) (bodyA n)
 intro n
 induction n with
 | zero=>
  have b:FnOk P w K mg base CX0 (kb+2 * 0+1) f2 d2 ps2 (spB 0):=⟨lenB 0,fun _ _ _ _ _ _ _ _ _ _ _ _ _ h=>(h0 _ _ _ _ h).elim⟩
  exact⟨b,stepA 0 b⟩
 | succ n ih=>
  have b:FnOk P w K mg base CX0 (kb+2 * (n+1)+1) f2 d2 ps2 (spB (n+1)):=
   g2.F.okW0 S2 hv2 ((T.mono (show kb<=kb+2 * n+2 by omega)).con ⟨f1,d1,ps1,kb+2 * n+2,spA n,[],[]⟩ g1 ih.2) (rdB n) (lenB (n+1)) (bodyB n)
  exact⟨b,stepA (n+1) b⟩
theorem one {C:Addr} {i:FI} {m:Str} {k:Nat} (h:MetIn P w K mg base k m ⟨C,i⟩):∀ mi∈[(⟨C,i⟩:MI)],MetIn P w K mg base k m mi:=fun mi hm=>by
 rw [br] at hm
 exact hm▸h
end
end L2
namespace Pn
open PySem L2
noncomputable abbrev Sw:=List (Str×List Str)
noncomputable def Bx (c:Nat):Bool:=decide (97<=c)&&decide (c<=122)
noncomputable def okW (z:Str):Prop:=1<=z.length/\z.length<=8/\z.cps.toList.all Bx=true
noncomputable def okL (l:List Str):Prop:=(∀ z∈l,okW z)/\l.Nodup/\l.length<=8
noncomputable def Hq (l:List Str):Prop:=okL l/\2<=l.length/\l.length<=4
noncomputable def Bt (sw:Sw):Nat:=sw.foldl (fun n x=>n * x.2.length) 1
noncomputable def okSw (sw:Sw):Prop:=1<=sw.length/\sw.length<=5/\(sw.map (·.1)).Nodup/\(∀ x∈sw,okW x.1/\Hq x.2)/\Bt sw<=256
noncomputable def Dr (acc:List (List Str)) (x:Str×List Str):List (List Str):=acc.flatMap fun a=>x.2.map fun z=>a++[z]
noncomputable def Af (sw:Sw):List (List Str):=sw.foldl Dr [[]]
noncomputable def Z6 (ns:List Nat):Int:=ns.foldl (fun (c:Int) n=>cD c (2 ^ n)) 0
noncomputable def G1 (ms:List Int):Int:=ms.foldl (fun c m=>cD c m) 0
noncomputable def Ea (p:Nat) (z:Str):Nat->List (List Str)->List Nat
 | _,[]=>[]
 | k,r::rs=>if r[p]? = some z then k::Ea p z (k+1) rs else Ea p z (k+1) rs
noncomputable def Cl (rows:List (List Str)) (p:Nat) (z:Str):Int:=Z6 (Ea p z 0 rows)
noncomputable def Cn (sw:Sw) (w:Str):Nat:=sw.findIdx fun x=>decide (x.1=w)
noncomputable def Jr (sw:Sw) (e:Str×List Str):Int:=G1 (e.2.map (Cl (Af sw) (Cn sw e.1)))
noncomputable def On (sw:Sw):Int:=2 ^ (Af sw).length - 1
noncomputable def ag4 (sw:Sw) (rule:Sw):Int:=rule.foldl (fun c e=>aS c (Jr sw e)) (On sw)
noncomputable def Jc (sw:Sw) (rules:List Sw):List Int:=rules.map (ag4 sw)
noncomputable def Go (sw:Sw) (rules:List Sw):Int:=aS (On sw) (be (G1 (Jc sw rules)))
noncomputable def Vh (sw:Sw) (e:Str×List Str):Prop:=e.2≠[]/\okL e.2 /\ ∃ x∈sw,x.1=e.1 /\ ∀ z∈e.2,z∈x.2
noncomputable def Gx (sw:Sw) (rule:Sw):Prop:=rule≠[]/\rule.length<=100/\(rule.map (·.1)).Nodup /\ ∀ e∈rule,Vh sw e
theorem Og (acc:List (List Str)) (x:Str×List Str):(Dr acc x).length=acc.length * x.2.length:=by
 unfold Dr
 induction acc with
 | nil=>simp
 | cons a acc ih=>rw [dm,aJ,ih,ac,aI,k9,k_,jp]
theorem Ht:∀ (sw:Sw) (acc:List (List Str)),(sw.foldl Dr acc).length=sw.foldl (fun n x=>n * x.2.length) acc.length
 | [],_=>rfl
 | x::sw,acc=>by rw [bg,bg,Ht sw,Og]
theorem Lf (sw:Sw):(Af sw).length=Bt sw:=Ht sw [[]]
noncomputable def K7 (k:Nat) (rs:List (List Str)):Prop:=rs.Nodup/\(∀ r∈rs,r.length=k) /\ ∀ r∈rs,∀ z∈r,okW z
theorem as3 {k:Nat} {acc:List (List Str)} {x:Str×List Str} (h:K7 k acc) (hx:Hq x.2):K7 (k+1) (Dr acc x):=by
 obtain⟨h1,h2,h3⟩:=h
 refine⟨?_,?_,?_⟩
 ·unfold Dr
  clear h3
  induction acc with
  | nil=>exact hX
  | cons a acc ih=>
   rw [dm,eE]
   rw [cF] at h1
   refine⟨?_,ih h1.2 (fun r hr=>h2 r (ar _ hr)),?_⟩
   ·refine List.Pairwise.map _ ?_ hx.1.2.1
    intro y z ne e
    exact ne (by simpa using e)
   ·intro r hr q hq e
    subst e
    obtain⟨y,hy,rfl⟩:=List.mem_map.mp hr
    obtain⟨b,hb,hq⟩:=List.mem_flatMap.mp hq
    obtain⟨z,hz,e⟩:=List.mem_map.mp hq
    have:b=a/\z=y:=by simpa using e
    rw [this.1] at hb
    exact h1.1 hb
 ·intro r hr
  obtain⟨b,hb,hq⟩:=List.mem_flatMap.mp hr
  obtain⟨z,hz,rfl⟩:=List.mem_map.mp hq
  rw [aJ,h2 b hb]
  rfl
 ·intro r hr y hy
  obtain⟨b,hb,hq⟩:=List.mem_flatMap.mp hr
  obtain⟨z,hz,rfl⟩:=List.mem_map.mp hq
  rcases List.mem_append.mp hy with hy|hy
  ·exact h3 b hb y hy
  ·have:y=z:=by simpa using hy
   subst this
   exact hx.1.1 _ hz
theorem Jq:∀ {sw:Sw} {k:Nat} {acc:List (List Str)},K7 k acc->(∀ x∈sw,Hq x.2)->K7 (k+sw.length) (sw.foldl Dr acc)
 | [],_,_,h,_=>h
 | x::sw,k,acc,h,hs=>by
  have:=Jq (as3 h (hs x (az))) (fun y hy=>hs y (ar _ hy))
  rw [bg,aI,show k+(sw.length+1)=k+1+sw.length by omega]
  exact this
theorem Hu {sw:Sw} (h:∀ x∈sw,Hq x.2):K7 sw.length (Af sw):=by
 have:=Jq (sw:=sw) (k:=0) (acc:=[[]]) ⟨by simp,by simp,by simp⟩ h
 rwa [cB] at this
theorem Cu:∀ {sw:Sw} {n:Nat},1<=n->(∀ x∈sw,Hq x.2)->n<=sw.foldl (fun n x=>n * x.2.length) n
 | [],n,_,_=>ak _
 | x::sw,n,h,hs=>by
  rw [bg]
  have h2:2<=x.2.length:=(hs x az).2.1
  have:n<=n * x.2.length:=Nat.le_mul_of_pos_right _ (by omega)
  exact ax this (Cu (by omega) (fun y hy=>hs y (ar _ hy)))
theorem okSw.sets {sw:Sw} (h:okSw sw):∀ x∈sw,Hq x.2:=fun x hx=>(h.2.2.2.1 x hx).2
theorem okSw.len {sw:Sw} (h:okSw sw):(Af sw).length<=256:=by rw [Lf];exact h.2.2.2.2
theorem okSw.pos {sw:Sw} (h:okSw sw):1<=(Af sw).length:=by rw [Lf];exact Cu (ak 1) h.sets
theorem Ob {sw:Sw} (h:okSw sw) (i:Nat):Bt (sw.take i)<=Bt sw:=by
 conv=>rhs;rw [<- List.take_append_drop i sw]
 unfold Bt
 rw [eC]
 exact Cu (Cu (ak 1) fun x hx=>h.sets x (dF hx)) fun x hx=>h.sets x (gv hx)
theorem Ck {α β:Type} {l:List α} {i:Nat} {x:α} (h:l[i]? = some x) (f:β->α->β) (b:β):(l.take (i+1)).foldl f b=f ((l.take i).foldl f b) x:=by
 rw [bG,h,bW,eC]
 rfl
theorem Bh {α β:Type} {l:List α} {i:Nat} {x:α} (h:l[i]? = some x) (f:α->β):(l.take (i+1)).map f=(l.take i).map f++[f x]:=by
 rw [bG,h,bW,aq]
 rfl
noncomputable abbrev Own (ok:Addr->Prop) (H:Hp) (a:Addr) (o:HO):Prop:=ok a/\H a=some o
noncomputable abbrev Kp (ok:Addr->Prop) (H:Hp) (ok':Addr->Prop) (H':Hp):Prop:=∀ a o,Own ok H a o->Own ok' H' a o
noncomputable abbrev fresh (H:Hp):Addr->Prop:=fun a=>H a=none
noncomputable abbrev any:Addr->Prop:=fun _=>True
theorem Kp.same {ok:Addr->Prop} {H H':Hp} (S:Same H H'):Kp ok H ok H':=fun a o h=>⟨h.1,S _ _ h.2⟩
theorem Kp.any {ok:Addr->Prop} {H:Hp}:Kp ok H Pn.any H:=fun a o h=>⟨trivial,h.2⟩
theorem Kp.weak {ok ok':Addr->Prop} {H:Hp} (h:∀ a,ok a->ok' a):Kp ok H ok' H:=fun a o q=>⟨h a q.1,q.2⟩
theorem Kp.trans {ok1 ok2 ok3:Addr->Prop} {H1 H2 H3:Hp} (h:Kp ok1 H1 ok2 H2) (g:Kp ok2 H2 ok3 H3):Kp ok1 H1 ok3 H3:=fun a o q=>g a o (h a o q)
theorem Z4 {H H':Hp} (S:Same H H') {a:Addr} (h:H' a=none):H a=none:=by
 cases e:H a with
 | none=>rfl
 | some o=>rw [S _ _ e] at h;cases h
theorem Kp.fresh {H1 H2 H:Hp} (S:Same H1 H2):Kp (fresh H2) H (Pn.fresh H1) H:=Kp.weak fun a h=>Z4 S h
theorem Kp.off {ok:Addr->Prop} {H:Hp} {p:Addr} {o:HO} (h:¬ ok p):Kp ok H ok (upd H p o):=fun a u q=>⟨q.1,by
 have n:a≠p:=fun e=>h (by rw [<- e];exact q.1)
 rw [Ak n];exact q.2⟩
noncomputable abbrev kR (x:(Str×List Str)×Addr):Key×V:=(.inr x.1.1,.ref x.2)
noncomputable abbrev C1 (r:List Str):HO:=.tup (r.map V.str)
noncomputable abbrev Bi (r:List Str):HO:=.lst (r.map V.str)
noncomputable def SwAt (ok:Addr->Prop) (H:Hp) (d:Addr) (sw:Sw):Prop:=∃ ds:List ((Str×List Str)×Addr),ds.map (·.1)=sw/\Own ok H d (.dK (ds.map kR)) /\ ∀ x∈ds,Own ok H x.2 (C1 x.1.2)
noncomputable def RuleAt (ok:Addr->Prop) (H:Hp) (d:Addr) (sw:Sw):Prop:=∃ ds:List ((Str×List Str)×Addr),ds.map (·.1)=sw/\Own ok H d (.dK (ds.map kR)) /\ ∀ x∈ds,Own ok H x.2 (Bi x.1.2)
noncomputable def TupsAt (ok:Addr->Prop) (H:Hp) (l:Addr) (rows:List (List Str)):Prop:=∃ ds:List (List Str×Addr),ds.map (·.1)=rows/\Own ok H l (.lst (ds.map fun x=>.ref x.2)) /\ ∀ x∈ds,Own ok H x.2 (C1 x.1)
noncomputable def bd7 (ok:Addr->Prop) (H:Hp) (l:Addr) (rows:List (List Str)):Prop:=∃ ds:List (List Str×Addr),ds.map (·.1)=rows/\Own ok H l (.lst (ds.map fun x=>.ref x.2)) /\ ∀ x∈ds,Own ok H x.2 (Bi x.1)
noncomputable def SwIn (ok:Addr->Prop) (H:Hp) (l:Addr) (sw:Sw):Prop:=∃ ds:List (((Str×List Str)×Addr)×Addr),ds.map (·.1.1)=sw/\Own ok H l (.lst (ds.map fun x=>.ref x.2)) /\ ∀ x∈ds,Own ok H x.2 (.tup [.str x.1.1.1,.ref x.1.2])/\Own ok H x.1.2 (Bi x.1.1.2)
noncomputable def K6 (k:Nat):List (List Str)->List (List Key×V)
 | []=>[]
 | r::rs=>(r.map .inr,.int (k:Int))::K6 (k+1) rs
noncomputable def NumAt (ok:Addr->Prop) (H:Hp) (n:Addr) (rows:List (List Str)):Prop:=Own ok H n (.dT (K6 0 rows))
noncomputable def Wg (rows:List (List Str)) (i:Nat) (l:List Str):HO:=.dK (l.map fun z=>(.inr z,.int (Cl rows i z)))
noncomputable def SetsAt (ok:Addr->Prop) (H:Hp) (d:Addr) (sw:Sw):Prop:=∃ ds:List ((Str×List Str)×Addr),ds.map (·.1)=sw/\Own ok H d (.dK (ds.map kR)) /\ ∀ i x,ds[i]? = some x->Own ok H x.2 (Wg (Af sw) i x.1.2)
noncomputable def RulesAt (ok:Addr->Prop) (H:Hp) (k:Addr) (rules:List Sw):Prop:=∃ ds:List (Sw×Addr),ds.map (·.1)=rules/\Own ok H k (.lst (ds.map fun x=>.ref x.2)) /\ ∀ x∈ds,RuleAt ok H x.2 x.1
section
variable {ok ok':Addr->Prop} {H H':Hp} {d:Addr} {sw:Sw} {rows:List (List Str)} {rules:List Sw}
theorem SwAt.mono (h:SwAt ok H d sw) (k:Kp ok H ok' H'):SwAt ok' H' d sw:=by
 obtain⟨ds,e,o,q⟩:=h;exact⟨ds,e,k _ _ o,fun x hx=>k _ _ (q x hx)⟩
theorem RuleAt.mono (h:RuleAt ok H d sw) (k:Kp ok H ok' H'):RuleAt ok' H' d sw:=by
 obtain⟨ds,e,o,q⟩:=h;exact⟨ds,e,k _ _ o,fun x hx=>k _ _ (q x hx)⟩
theorem TupsAt.mono (h:TupsAt ok H d rows) (k:Kp ok H ok' H'):TupsAt ok' H' d rows:=by
 obtain⟨ds,e,o,q⟩:=h;exact⟨ds,e,k _ _ o,fun x hx=>k _ _ (q x hx)⟩
theorem SwIn.mono (h:SwIn ok H d sw) (k:Kp ok H ok' H'):SwIn ok' H' d sw:=by
 obtain⟨ds,e,o,q⟩:=h;exact⟨ds,e,k _ _ o,fun x hx=>⟨k _ _ (q x hx).1,k _ _ (q x hx).2⟩⟩
theorem SetsAt.mono (h:SetsAt ok H d sw) (k:Kp ok H ok' H'):SetsAt ok' H' d sw:=by
 obtain⟨ds,e,o,q⟩:=h;exact⟨ds,e,k _ _ o,fun i x hx=>k _ _ (q i x hx)⟩
theorem RulesAt.mono (h:RulesAt ok H d rules) (k:Kp ok H ok' H'):RulesAt ok' H' d rules:=by
 obtain⟨ds,e,o,q⟩:=h;exact⟨ds,e,k _ _ o,fun x hx=>(q x hx).mono k⟩
theorem NumAt.mono (h:NumAt ok H d rows) (k:Kp ok H ok' H'):NumAt ok' H' d rows:=k _ _ h
end
noncomputable def bx8 (d l n s k b:Addr) (f:Int):List (Str×V):=[("settings", .ref d),("tuples", .ref l),("numbers", .ref n),("sets", .ref s),("kept_rules", .ref k),("bars", .ref b),("free", .int f)]
structure bx0 (C:Addr) (ok:Addr->Prop) (H:Hp) (p:Addr) (sw:Sw) (rules:List Sw) (dx d l n s k b:Addr):Prop where
 ins:Own ok H p (.ins C dx (bx8 d l n s k b (Go sw rules)))
 sws:SwAt ok H d sw
 tps:TupsAt ok H l (Af sw)
 nms:NumAt ok H n (Af sw)
 sts:SetsAt ok H s sw
 rls:RulesAt ok H k rules
 brs:Own ok H b (.lst ((Jc sw rules).map V.int))
noncomputable def PanelAt (C:Addr) (ok:Addr->Prop) (H:Hp) (p:Addr) (sw:Sw) (rules:List Sw):Prop:=∃ dx d l n s k b,bx0 C ok H p sw rules dx d l n s k b
theorem PanelAt.mono {C p:Addr} {ok ok':Addr->Prop} {H H':Hp} {sw:Sw} {rules:List Sw} (h:PanelAt C ok H p sw rules) (k:Kp ok H ok' H'):PanelAt C ok' H' p sw rules:=by
 obtain⟨dx,d,l,n,s,kk,b,h⟩:=h
 exact⟨dx,d,l,n,s,kk,b,⟨k _ _ h.ins,h.sws.mono k,h.tps.mono k,h.nms.mono k,h.sts.mono k,h.rls.mono k,k _ _ h.brs⟩⟩
noncomputable def SelfAt (C:Addr) (ok:Addr->Prop) (H:Hp) (p l s:Addr):Prop:=∃ dx fs,Own ok H p (.ins C dx fs)/\fs.lookup ("tuples" : Str)=some (.ref l)/\fs.lookup ("sets" : Str)=some (.ref s) /\ ∀ m∈(["all_choices", "box", "many", "term", "read_rule", "read_rules"]:List Str),fs.lookup m=none
theorem SelfAt.mono {C p l s:Addr} {ok ok':Addr->Prop} {H H':Hp} (h:SelfAt C ok H p l s) (k:Kp ok H ok' H'):SelfAt C ok' H' p l s:=by
 obtain⟨dx,fs,o,q⟩:=h;exact⟨dx,fs,k _ _ o,q⟩
theorem Qm {p:Addr} {o:Obj} (kvs:List (Key×V)):D5 (Itd p o kvs) (kvs.map fun kv=>kV kv.1) (fun H=>H p=some (.frz o (.dK kvs))):=by
 refine⟨fun i H q h=>⟨q,by simpa using h⟩,fun H q=>⟨q,by simp⟩,fun i H x H' q hi h=>?_⟩
 obtain⟨h1,k,v,h2,h3⟩:=h
 refine⟨h1,?_⟩
 rw [ai,h2,h3]
 rfl
theorem at8 {p:Addr} {o:Obj} (kvs:List (Key×V)):Jx (ab0 p o kvs) (Ev 0 (kvs.map fun kv=>kV kv.1)) (fun H=>H p=some (.frz o (.dK kvs))):=by
 have e:(Ev 0 (kvs.map fun kv=>kV kv.1)).length=kvs.length:=by rw [Cc];simp
 refine⟨fun i H q h=>⟨q,by omega⟩,fun H q=>⟨q,by omega⟩,fun i H x H' q hi h=>?_⟩
 obtain⟨T,k,v,hT,h1,h2,h3⟩:=h
 refine⟨T,.int i,kV k,hT,h1,?_,h3⟩
 have:=De (k:=0) (xs:=kvs.map fun kv=>kV kv.1) (i:=i) (x:=kV k) (by rw [ai,h2];rfl)
 rw [cB] at this
 exact this
theorem Same.thaw {H H':Hp} {p:Addr} {o:Obj} {kvs:List (Key×V)} (h:H p=some (.dK kvs)) (S:Same (upd H p (.frz o (.dK kvs))) H'):Same H (upd H' p (.dK kvs)):=by
 intro b u e
 by_cases hb:b=p
 ·subst hb;rw [Ad,<- h,e]
 ·rw [Ak hb];exact S _ _ (by rw [Ak hb];exact e)
theorem Gh {H:Hp} {d:Addr} {u:HO} (h:H d=some u):¬ Pn.fresh H d:=fun e=>by
 have e:H d=none:=e
 rw [h] at e
 cases e
theorem Ew {b:Bool} {A B:Prop} (e:b=false) (h:B):if b=true then A else B:=by subst e;exact Dv h
theorem R0 {b:Bool} {A B:Prop} (e:b=true) (h:A):if b=true then A else B:=by subst e;exact Eb h
theorem Ao {α β:Type} {l:List α} {f:α->β} {i:Nat} {x:β} (h:(l.map f)[i]? = some x):∃ m,l[i]? = some m/\x=f m:=by
 rw [ai] at h
 cases e:l[i]? with
 | none=>rw [e] at h;cases h
 | some m=>rw [e] at h;exact⟨m,rfl,by simpa using h.symm⟩
theorem An {α:Type} {l:List α} {i:Nat} {x:α} (h:l[i]? = some x):i<l.length:=(List.getElem?_eq_some_iff.mp h).1
theorem Dh {n i:Nat} {x:V} (h:(Tj 0 n)[i]? = some x):i<n/\x=.int (i:Int):=by
 have hi:=An h
 rw [Bc] at hi
 rw [Le hi] at h
 refine⟨hi,?_⟩
 have:V.int (0+(i:Int))=x:=by simpa using h
 rw [<- this,Int.zero_add]
theorem Dx (a b:Str):(a++b).length=a.length+b.length:=PySem.strLen_append a b
theorem am5 (a c:Nat):decide ([c]<[a])=decide (c<a):=by
 rw [bH,decide_eq_true_iff,decide_eq_true_iff,List.cons_lt_cons_iff]
 simp
theorem leL {s:Str} {a c:Nat} (h:s.cps.toList=[a]):(!decide ((⟨#[c]⟩:Str).cps.toList<s.cps.toList))=decide (a<=c):=by
 rw [h]
 show (!decide ([c]<[a]))=_
 rw [am5,<- decide_not]
 exact decide_eq_decide.mpr Nat.not_lt
theorem leR {s:Str} {a c:Nat} (h:s.cps.toList=[a]):(!decide (s.cps.toList<(⟨#[c]⟩:Str).cps.toList))=decide (c<=a):=by
 rw [h]
 show (!decide ([a]<[c]))=_
 rw [am5,<- decide_not]
 exact decide_eq_decide.mpr Nat.not_lt
theorem Yt {s1 s2:Str} {a b c:Nat} {Q:VK} {H:Hp} (h1:s1.cps.toList=[a]) (h2:s2.cps.toList=[b]) (k:Q (.bl (decide (a<=c)&&decide (c<=b))) H) :
  if (!decide ((⟨#[c]⟩:Str).cps.toList<s1.cps.toList))=true then Q (.bl (!decide (s2.cps.toList<(⟨#[c]⟩:Str).cps.toList))) H else Q (.bl false) H:=by
 rw [leL h1,leR h2]
 cases e:decide (a<=c) with
 | true=>rw [e,cC] at k;exact Eb k
 | false=>rw [e,hV] at k;exact Dv k
theorem Na {a b c:Int} {Q:VK} {H:Hp} (k:Q (.bl (decide (a<=c)&&decide (c<=b))) H):if decide (a<=c)=true then Q (.bl (decide (c<=b))) H else Q (.bl false) H:=by
 cases e:decide (a<=c) with
 | true=>rw [e,cC] at k;exact Eb k
 | false=>rw [e,hV] at k;exact Dv k
theorem av8 {s1 s2:Str} {a b c i:Nat} {Q:VK} {E:EK} {H:Hp} {σ:St} (h1:s1.cps.toList=[a]) (h2:s2.cps.toList=[b]) (hv:σ[i]? = some (some (.str ⟨#[c]⟩))) (k:Q (.bl (decide (a<=c)&&decide (c<=b))) H) :
  Ep Gz Gz (dC (.str s1)) (Aa i) (dC (.str s2)) σ H Q E:=by
 unfold Ep dC Aa
 rw [hv]
 exact Yt h1 h2 k
theorem Yn {K:ae} {z:Str} {te:DE} {p:Nat->Bool} {H:Hp} {Q:VK} {E:EK} (hz:z.length<=1000) (he:∀ (c:Nat) (σ:St) (H1:Hp) (Q1:VK),σ.length=1->Q1 (.bl (p c)) H1->te (σ.set 0 (some (.str ⟨#[c]⟩))) H1 Q1 E) (k:∀ H',Same H H'->Q (.bl (z.cps.toList.all p)) H') :
  ∀ D,H D=none->E3 (Its z) (gdN 0) Bw te D (fun H'=>Vo K [.ref D] H' Q) (Ul [none] [some (.str z)]) (upd H D (.lst [])) E:=by
 intro D hD
 refine Oy (bw7 z) (fun σ=>σ.length=1) (fun _=>true) (fun v=>match v with | .str y=>.bl (p (y.cps.getD 0 0))|_=>.non) hD (fun _ _=>bn) ?_ rfl ?_ ?_
 ·unfold F1
  rw [ac]
  exact aD (show z.cps.toList.length<=1000 from by have:z.cps.size<=1000:=hz;simpa using this) (by decide)
 ·intro x σ H1 hx hσ S Fin Skip hF hS
  obtain⟨c,hc,rfl⟩:=List.mem_map.mp hx
  refine he c σ H1 _ hσ ?_
  exact hF _ _ _ (by rw [jm];exact hσ) (Same.refl _) rfl rfl
 ·intro H' S hD'
  have e:((F1 z).filter fun _=>true).map (fun v=>match v with | .str y=>V.bl (p (y.cps.getD 0 0))|_=>.non)=(z.cps.toList.map p).map V.bl:=by
   unfold F1
   rw [List.filter_eq_self.mpr (fun _ _=>rfl),bd,bd]
   rfl
  refine⟨z.cps.toList.map p,SqL.of (hD'.trans (by rw [e])),?_⟩
  have e2:(z.cps.toList.map p).all (fun b=>b)=z.cps.toList.all p:=by rw [e8];rfl
  rw [e2]
  exact k H' S
theorem Rg {K:ae} {J:It} {its:List V} {ok:Hp->Prop} {te:DE} {σ:St} {H:Hp} {R:Hp->Addr->Prop} {E:EK} (Y:D5 J its ok) (Sg:St->Prop) (hok:∀ H1,Same H H1->ok H1) (hn:its.length<sizeLine) (hσ:Sg σ) (hS:∀ σ x,Sg σ->Sg (σ.set 0 (some x)))
  (he:∀ x σ H1 Q1,x∈its->Sg σ->Same H H1->(∀ H2,Same H1 H2->Q1 (.bl true) H2)->te (σ.set 0 (some x)) H1 Q1 E) (k:∀ D H',Same H H'->SqL K H' D ((its.map fun _=>true).map V.bl)->R H' D) :
  ∀ D,H D=none->E3 J (gdN 0) Bw te D (fun H'=>R H' D) σ (upd H D (.lst [])) E:=fun D hD=>ag1 (K:=K) Y Sg hD hok hn hσ hS he (k D)
theorem R8:∀ (xs acc:List Str),(acc++xs).Nodup->xs.foldl (fun σ k=>if σ.any (fun j=>decide (j=k)) then σ else σ++[k]) acc=acc++xs
 | [],acc,_=>by rw [List.foldl_nil,bQ]
 | x::xs,acc,h=>by
  have hx:(acc.any fun j=>decide (j=x))=false:=by
   rw [cn]
   intro j hj e
   have e:j=x:=by simpa using e
   subst e
   exact (List.nodup_append.mp h).2.2 j hj j az rfl
  rw [bg,hx]
  have h2:(acc++[x]++xs).Nodup:=by simpa using h
  show List.foldl _ (acc++[x]) xs=_
  rw [R8 xs (acc++[x]) h2]
  simp
theorem ay6 {xs:List Str} (h:xs.Nodup):Ez xs=xs:=R8 xs [] (by simpa using h)
theorem Da {κ:Type} [DecidableEq κ]:∀ {kvs:List (κ×V)} {i:Nat} {k:κ} {v:V},(kvs.map (·.1)).Nodup->kvs[i]? = some (k,v)->Bp kvs k=some v
 | [],_,_,_,_,e=>by simp at e
 | p::r,0,k,v,_,e=>by
  rw [c9] at e
  cases e
  exact Cb rfl
 | p::r,i+1,k,v,h,e=>by
  rw [bZ] at e
  rw [aQ,cF] at h
  have ne:¬ p.1=k:=fun z=>h.1 (List.mem_map.mpr ⟨(k,v),af e,z.symm⟩)
  rw [By ne]
  exact Da h.2 e
theorem Gk {κ:Type} [DecidableEq κ]:∀ {kvs:List (κ×V)} {k:κ},¬ k∈kvs.map (·.1)->Bp kvs k=none
 | [],_,_=>rfl
 | p::r,k,h=>by
  rw [aQ,aX,not_or] at h
  rw [By (fun e=>h.1 e.symm)]
  exact Gk h.2
theorem N3 {l:List Str} (h:l.Nodup):(l.map (fX:Str->Key)).Nodup:=List.Pairwise.map _ (fun a b ne e=>ne (by injection e)) h
theorem Xs (ds:List ((Str×List Str)×Addr)):(ds.map kR).map (·.1)=((ds.map (·.1)).map (·.1)).map (fX:Str->Key):=by simp [bd]
theorem E5 {ds:List ((Str×List Str)×Addr)} {sw:Sw} (e:ds.map (·.1)=sw) (h:(sw.map (·.1)).Nodup):((ds.map kR).map (·.1)).Nodup:=by
 rw [Xs,e]
 exact N3 h
theorem Ga (x y:Nat):cD (x:Int) (y:Int)=((x ||| y:Nat):Int):=by
 unfold cD
 have hx:¬ (0:Int)<=be (x:Int):=by unfold be;omega
 have hy:¬ (0:Int)<=be (y:Int):=by unfold be;omega
 rw [PyProof.Rows.bitAnd_nn hx hy]
 have e:∀ z:Nat,(be (be (z:Int)))=(z:Int):=fun z=>by unfold be;omega
 rw [e,e,e,aG,aG]
theorem B3 (x y:Nat):aS (x:Int) (y:Int)=((x &&& y:Nat):Int):=by
 rw [PyProof.Rows.bitAnd_pp (by omega) (by omega),aG,aG]
theorem C9 (n:Nat):(2:Int) ^ n=((2 ^ n:Nat):Int):=by simp
noncomputable def a37 (ns:List Nat):Nat:=ns.foldl (fun c n=>c ||| 2 ^ n) 0
theorem Tk:∀ (ns:List Nat) (c:Nat),ns.foldl (fun (c:Int) n=>cD c (2 ^ n)) (c:Int)=((ns.foldl (fun c n=>c ||| 2 ^ n) c:Nat):Int)
 | [],c=>rfl
 | n::ns,c=>by rw [bg,bg,C9,Ga,Tk ns]
theorem aq1 (ns:List Nat):Z6 ns=(a37 ns:Nat):=Tk ns 0
theorem Tl:∀ (ns:List Nat) (c k:Nat),(ns.foldl (fun c n=>c ||| 2 ^ n) c).testBit k=(c.testBit k||decide (k∈ns))
 | [],c,k=>by simp
 | n::ns,c,k=>by
  rw [bg,Tl ns,jP,Nat.testBit_two_pow,Bool.or_assoc]
  congr 1
  rw [bH,dW,decide_eq_true_iff,decide_eq_true_iff,decide_eq_true_iff,aX]
  exact or_congr ⟨Eq.symm,Eq.symm⟩ Iff.rfl
theorem aq2 (ns:List Nat) (k:Nat):(a37 ns).testBit k=decide (k∈ns):=by
 unfold a37
 rw [Tl,b5,ka]
noncomputable def F4 (ms:List Nat):Nat:=ms.foldl (fun c m=>c ||| m) 0
theorem Mp:∀ (ms:List Nat) (c:Nat),(ms.map fun m:Nat=>(m:Int)).foldl (fun c m=>cD c m) (c:Int)=((ms.foldl (fun c m=>c ||| m) c:Nat):Int)
 | [],c=>rfl
 | n::ns,c=>by rw [aQ,bg,bg,Ga,Mp ns]
theorem Mq (ms:List Nat):G1 (ms.map fun m:Nat=>(m:Int))=(F4 ms:Nat):=Mp ms 0
theorem Mr:∀ (ms:List Nat) (c k:Nat),(ms.foldl (fun c m=>c ||| m) c).testBit k=(c.testBit k||ms.any fun m=>m.testBit k)
 | [],c,k=>by simp
 | n::ns,c,k=>by rw [bg,Mr ns,jP,dL,Bool.or_assoc]
theorem Ms (ms:List Nat) (k:Nat):(F4 ms).testBit k=ms.any fun m=>m.testBit k:=by
 unfold F4
 rw [Mr,b5,ka]
noncomputable def Ju (rows:List (List Str)) (p:Nat) (z:Str) (k:Nat):Bool:=decide ((rows[k]?.bind fun r=>r[p]?)=some z)
theorem Xo (p:Nat) (z:Str):∀ (rows:List (List Str)) (j n:Nat),n∈Ea p z j rows ↔ j<=n/\(rows[n - j]?.bind fun r=>r[p]?)=some z
 | [],j,n=>by simp [Ea]
 | r::rows,j,n=>by
  have ih:=Xo p z rows (j+1) n
  have e:∀ b,(n=j/\b)\/(j+1<=n/\(rows[n - (j+1)]?.bind fun r=>r[p]?)=some z) ↔ j<=n/\((n=j/\b)\/(n≠j/\(rows[n - (j+1)]?.bind fun r=>r[p]?)=some z)):=fun b=>by
   constructor
   ·rintro (⟨h1,h2⟩|⟨h1,h2⟩)
    ·exact⟨by omega,.inl ⟨h1,h2⟩⟩
    ·exact⟨by omega,.inr ⟨by omega,h2⟩⟩
   ·rintro⟨h0,⟨h1,h2⟩|⟨h1,h2⟩⟩
    ·exact .inl ⟨h1,h2⟩
    ·exact .inr ⟨by omega,h2⟩
  have g:j<=n->(((r::rows)[n - j]?.bind fun r=>r[p]?)=some z ↔ ((n=j/\r[p]? = some z)\/(n≠j/\(rows[n - (j+1)]?.bind fun r=>r[p]?)=some z))):=fun h=>by
   by_cases hn:n=j
   ·subst hn
    simp
   ·have e2:n - j=(n - (j+1))+1:=by omega
    rw [e2,bZ]
    simp [hn]
  rw [Ea]
  by_cases hr:r[p]? = some z
  ·rw [if_pos hr,aX,ih]
   have:=e (r[p]? = some z)
   constructor
   ·intro h
    have h2:=this.mp (h.imp (fun x=>⟨x,hr⟩) id)
    exact⟨h2.1,(g h2.1).mpr h2.2⟩
   ·rintro⟨h1,h2⟩
    exact (this.mpr ⟨h1,(g h1).mp h2⟩).imp (fun x=>x.1) id
  ·rw [if_neg hr,ih]
   have:=e (r[p]? = some z)
   constructor
   ·intro h
    have h2:=this.mp (.inr h)
    exact⟨h2.1,(g h2.1).mpr h2.2⟩
   ·rintro⟨h1,h2⟩
    rcases this.mpr ⟨h1,(g h1).mp h2⟩ with h|h
    ·exact absurd h.2 hr
    ·exact h
noncomputable def Au (rows:List (List Str)) (p:Nat) (z:Str):Nat:=a37 (Ea p z 0 rows)
theorem Ip (rows:List (List Str)) (p:Nat) (z:Str):Cl rows p z=(Au rows p z:Nat):=aq1 _
theorem Df (rows:List (List Str)) (p:Nat) (z:Str) (k:Nat):(Au rows p z).testBit k=Ju rows p z k:=by
 unfold Au Ju
 rw [aq2]
 refine decide_eq_decide.mpr ?_
 rw [Xo]
 simp
noncomputable def Mh (sw:Sw) (e:Str×List Str):Nat:=F4 (e.2.map (Au (Af sw) (Cn sw e.1)))
theorem aa0 (sw:Sw) (e:Str×List Str):Jr sw e=(Mh sw e:Nat):=by
 unfold Jr Mh
 rw [<- Mq,bd]
 congr 1
 exact b_ fun z _=>Ip _ _ _
theorem aa1 (sw:Sw) (e:Str×List Str) (k:Nat):(Mh sw e).testBit k=e.2.any fun z=>Ju (Af sw) (Cn sw e.1) z k:=by
 unfold Mh
 rw [Ms,List.any_map]
 congr 1
 funext z
 exact Df _ _ _ _
noncomputable def Re (sw:Sw):Nat:=2 ^ (Af sw).length - 1
theorem Rc (sw:Sw):On sw=(Re sw:Nat):=by
 unfold On Re
 rw [C9]
 have:0<2 ^ (Af sw).length:=fB _
 omega
theorem Rf (sw:Sw) (k:Nat):(Re sw).testBit k=decide (k<(Af sw).length):=by
 unfold Re
 rw [Nat.testBit_two_pow_sub_one]
noncomputable def Js (sw:Sw) (rule:Sw):Nat:=rule.foldl (fun c e=>c &&& Mh sw e) (Re sw)
theorem Rl (sw:Sw):∀ (rule:Sw) (c:Nat),rule.foldl (fun c e=>aS c (Jr sw e)) (c:Int)=((rule.foldl (fun c e=>c &&& Mh sw e) c:Nat):Int)
 | [],c=>rfl
 | e::rule,c=>by rw [bg,bg,aa0,B3,Rl sw rule]
theorem ag5 (sw rule:Sw):ag4 sw rule=(Js sw rule:Nat):=by
 unfold ag4 Js
 rw [Rc,Rl]
theorem Rm (sw:Sw):∀ (rule:Sw) (c k:Nat),(rule.foldl (fun c e=>c &&& Mh sw e) c).testBit k=(c.testBit k&&rule.all fun e=>e.2.any fun z=>Ju (Af sw) (Cn sw e.1) z k)
 | [],c,k=>by simp
 | e::rule,c,k=>by rw [bg,Rm sw rule,bo,aa1,bt,Bool.and_assoc]
theorem ag6 (sw rule:Sw) (k:Nat):(Js sw rule).testBit k=(decide (k<(Af sw).length)&&rule.all fun e=>e.2.any fun z=>Ju (Af sw) (Cn sw e.1) z k):=by
 unfold Js
 rw [Rm,Rf]
noncomputable def Jk (sw:Sw) (rules:List Sw):Nat:=Re sw - (Re sw &&& F4 (rules.map (Js sw)))
theorem Nm (sw:Sw) (rules:List Sw):Go sw rules=(Jk sw rules:Nat):=by
 unfold Go Jk Jc
 have e:rules.map (ag4 sw)=(rules.map (Js sw)).map fun m:Nat=>(m:Int):=by
  rw [bd]
  exact b_ fun r _=>ag5 sw r
 rw [e,Mq,Rc,i9 (by omega) (by unfold be;omega),show be (be ((F4 (rules.map (Js sw)):Nat):Int))=((F4 (rules.map (Js sw)):Nat):Int) by unfold be;omega,aG,aG]
 have:=jq (n:=Re sw) (m:=F4 (rules.map (Js sw)))
 omega
theorem Ye (a b:Nat):a - (a &&& b)=a ^^^ (a &&& b):=by
 have h:(a ^^^ (a &&& b)) &&& (a &&& b)=0:=by
  refine gw fun k=>?_
  rw [bo,gO,bo,b5]
  cases a.testBit k <;> cases b.testBit k <;> rfl
 have h2:(a ^^^ (a &&& b)) ||| (a &&& b)=a:=by
  refine gw fun k=>?_
  rw [jP,gO,bo]
  cases a.testBit k <;> cases b.testBit k <;> rfl
 have h3:(a ^^^ (a &&& b))+(a &&& b)=(a ^^^ (a &&& b)) ||| (a &&& b):=by
  have e:=PyProof.Rows.bitOr_and ((a ^^^ (a &&& b):Nat):Int) ((a &&& b:Nat):Int)
  rw [Ga,B3,h] at e
  omega
 omega
theorem Nn (sw:Sw) (rules:List Sw) (k:Nat):(Jk sw rules).testBit k=(decide (k<(Af sw).length) && !rules.any fun r=>(Js sw r).testBit k):=by
 unfold Jk
 rw [Ye,gO,bo,Rf,Ms,List.any_map]
 show (_ ^^ (_&&rules.any fun r=>(Js sw r).testBit k))=_
 cases decide (k<(Af sw).length) <;> cases rules.any (fun r=>(Js sw r).testBit k) <;> rfl
theorem a43 {a b:Str} (h:a.cps.toList=b.cps.toList):a=b:=by
 cases a;cases b
 congr 1
 exact Array.toList_inj.mp h
end Pn
namespace K15
open PySem L2
set_option genInjectivity false in
set_option genSizeOfSpec false in
structure Adr where
 f_zav:Addr
 d_zav:aB
 f_zm:Addr
 d_zm:aB
 f_zaq:Addr
 d_zaq:aB
 f_zh:Addr
 d_zh:aB
 f_zak:Addr
 d_zak:aB
 f_zj:Addr
 d_zj:aB
 f_zi:Addr
 d_zi:aB
 f_zk:Addr
 d_zk:aB
 f_zaj:Addr
 d_zaj:aB
 f_zai:Addr
 d_zai:aB
 f_zao:Addr
 d_zao:aB
 f_zah:Addr
 d_zah:aB
 f_zal:Addr
 d_zal:aB
 f_zw:Addr
 d_zw:aB
 f_zan:Addr
 d_zan:aB
 f_zo:Addr
 d_zo:aB
 f_zu:Addr
 d_zu:aB
 f_zap:Addr
 d_zap:aB
 f_zr:Addr
 d_zr:aB
 f_zc:Addr
 d_zc:aB
 f_zt:Addr
 d_zt:aB
 f_zz:Addr
 d_zz:aB
 f_zar:Addr
 d_zar:aB
 f_ze:Addr
 d_ze:aB
 f_zs:Addr
 d_zs:aB
 f_zy:Addr
 d_zy:aB
 f_zp:Addr
 d_zp:aB
 f_zg:Addr
 d_zg:aB
 f_zd:Addr
 d_zd:aB
 f_zaa:Addr
 d_zaa:aB
 f_zl:Addr
 d_zl:aB
 f_zb:Addr
 d_zb:aB
 f_za:Addr
 d_za:aB
 f_zau:Addr
 d_zau:aB
 f_zf:Addr
 d_zf:aB
 f_zq:Addr
 d_zq:aB
 f_zad:Addr
 d_zad:aB
 f_zas:Addr
 d_zas:aB
 f_zat:Addr
 d_zat:aB
 f_zx:Addr
 d_zx:aB
 f_zam:Addr
 d_zam:aB
 f_zac:Addr
 d_zac:aB
 f_zn:Addr
 d_zn:aB
 f_zae:Addr
 d_zae:aB
 f_zab:Addr
 d_zab:aB
 f_zv:Addr
 d_zv:aB
 f_zag:Addr
 d_zag:aB
 f_zaf:Addr
 d_zaf:aB
 f_zaw:Addr
 d_zaw:aB
 dv_zq:Value
 du_zq:List Value
 c_zbg:Addr
 u_zbi:Value
 u_zbh:Value
 u_zaz:Value
 u_zax:Value
 u_zay:Value
 u_zba:Value
 u_zbb:Value
end K15
namespace K15
open PySem L2 Pn
structure bd5 (K:ae) (C:Addr):Prop where
 cl:Cls K C
 na:∀ f∈(["settings", "tuples", "numbers", "sets", "kept_rules", "bars", "free"]:List Str),NoAttr K C f
structure A0 (K:ae) (t:Adr):Prop where
 pf:bd5 K t.c_zbg
noncomputable def A8 (ns:List Int) (k:Nat):Int:=ns.getD k ((k+3) * 7919)
noncomputable def Yf (c:Int) (j:Nat):Nat:=97+((c / 26+7 * (1+(j:Int)) * (1+(j:Int))) % 26).toNat
noncomputable def Bv (c:Int) (k:Nat):Str:=
 if c % 4=3 then ⟨([97+((c / 4+(k:Int) / 8) % 26).toNat]++((aw 7).map (Yf c)).take (k % 8)).toArray⟩
 else
  let base:=([97+(c / 256 % 26).toNat]++(aw 7).map (Yf c)).take (1+c / 4 % 8).toNat
  let at_:=(c / 32 % (1+c / 4 % 8)).toNat
  ⟨(base.take at_++[97+((c / 6656+(k:Int)) % 26).toNat]++base.drop (at_+1)).toArray⟩
noncomputable def Fh (acc:List (List Nat)) (n:Nat):List (List Nat):=acc.flatMap fun a=>(aw n).map fun j=>a++[j]
noncomputable def Cf (sw:Sw):List (List Nat):=(sw.map (·.2.length)).foldl Fh [[]]
noncomputable def DigAt (H:Hp) (r:Addr) (rows:List (List Nat)):Prop:=∃ ds:List (List Nat×Addr),ds.map (·.1)=rows/\H r=some (.lst (ds.map fun x=>.ref x.2)) /\ ∀ x∈ds,H x.2=some (.lst (x.1.map fun n:Nat=>V.int (n:Int)))
noncomputable def okB (sw rule:Sw):Prop:=(rule.map (·.1)).Nodup /\ ∀ e∈rule,Vh sw e
noncomputable def Cd (sw:Sw) (i p:Nat):Option Str:=(Af sw)[i]?.bind fun r=>r[p]?
noncomputable def Cj (sw:Sw) (i p:Nat):Nat:=((Cf sw)[i]?.bind fun d=>d[p]?).getD 0
noncomputable def nmS (sw:Sw) (k:Nat):Str:=(sw.map (·.1)).getD k a_
noncomputable def Ca (sw:Sw) (ws:List Str) (i j:Nat):Bool:=ws.all fun x=>decide (Cd sw i (Cn sw x)=Cd sw j (Cn sw x))
noncomputable def Cg (sw:Sw) (ps:List Nat) (i j:Nat):Bool:=decide (ps.map (Cj sw i)=ps.map (Cj sw j))
noncomputable def Eg (n c w:Nat) (like:Nat->Nat->Bool):Option (Nat×Nat):=
 (aw n).findSome? fun i=>if (c.testBit i&&w.testBit i)=true then ((aw n).find? fun j=>w.testBit j && !c.testBit j&&like i j).map fun j=>(i,j) else none
noncomputable def Sy:Option (Nat×Nat)->Dt
 | none=>.at_ .non
 | some (i,j)=>.tup [.at_ (.int (i:Int)),.at_ (.int (j:Int))]
noncomputable def Cw (n a b:Nat) (like:Nat->Nat->Bool):Bool:=(aw n).any fun i=>a.testBit i&&(aw n).any fun j=>b.testBit j&&like i j
noncomputable def Be {α:Type}:Nat->List α->List (List α)
 | 0,_=>[[]]
 | k+1,l=>(aw l.length).flatMap fun i=>(l[i]?).elim [] fun x=>(Be k (l.drop (i+1))).map (x :: ·)
noncomputable def Cy {α:Type} (l:List α):List (List α):=(aw l.length).flatMap fun k=>Be k l
noncomputable def Cz (a b:Nat):Nat:=a - (a &&& b)
noncomputable def Gm (sw:Sw) (c w:Nat):List Str:=((Cy (sw.map (·.1))).find? fun ws=>!Cw (Af sw).length (c &&& w) (Cz w c) (Ca sw ws)).getD (sw.map (·.1))
noncomputable def Ec (n:Nat):List (List Nat):=Cy (aw n)++[aw n]
noncomputable def Ur (sw:Sw) (c w:Nat):List Nat:=((Ec sw.length).find? fun ps=>(Eg (Af sw).length c w (Cg sw ps)).isNone).getD []
noncomputable abbrev nO (l:List Nat):HO:=.lst (l.map fun n:Nat=>V.int (n:Int))
noncomputable def bd9 (H:Hp) (l:Addr) (ps:List (V×V)):Prop:=∃ Ts:List Addr,H l=some (.lst (Ts.map V.ref))/\Ts.length=ps.length /\ ∀ (j:Nat) x y T,ps[j]? = some (x,y)->Ts[j]? = some T->H T=some (.tup [x,y])
noncomputable def Et:List (List Str×List Sw)->Str->List Sw->List (List Str×List Sw)
 | [],z,bs=>[([z],bs)]
 | g::gs,z,bs=>if g.2=bs then (g.1++[z],g.2)::gs else g::Et gs z bs
noncomputable def En (rows:List (List Str)) (p:Nat) (f:Nat->List Sw) (m:Nat) (gs:List (List Str×List Sw)) (z:Str):List (List Str×List Sw):=if m &&& Au rows p z=0 then gs else Et gs z (f (m &&& Au rows p z))
noncomputable def grF (rows:List (List Str)) (p:Nat) (f:Nat->List Sw) (m:Nat) (zs:List Str):List (List Str×List Sw):=zs.foldl (En rows p f m) []
noncomputable def Fu (x:Str) (gs:List (List Str×List Sw)):List Sw:=if gs.length=1 then gs.flatMap (·.2) else gs.flatMap fun g=>g.2.map ((x,g.1) :: ·)
noncomputable def aq4 (sw:Sw) (x:Str):List Str:=(sw[Cn sw x]?).elim [] (·.2)
noncomputable def bxF (sw:Sw) (c:Nat):List Str->Nat->List Sw
 | [],m=>if m &&& c=0 then [] else [[]]
 | x::ws,m=>if m &&& c=0 then [] else if Cz m c=0 then [[]] else Fu x (grF (Af sw) (Cn sw x) (bxF sw c ws) m (aq4 sw x))
noncomputable def Cm (n m:Nat):List Nat:=(aw n).filter fun i=>m.testBit i
noncomputable def C6 (sw:Sw) (p:Nat) (zs:List Str) (m:Nat):List Nat:=(aw zs.length).filter fun j=>decide (m &&& Au (Af sw) p (zs.getD j a_)≠0)
noncomputable def Cq (sw:Sw) (i:Nat) (b:Sw):Bool:=b.all fun e=>decide ((Cd sw i (Cn sw e.1)).getD a_∈e.2)
noncomputable def okE (e:Str×List Str):Prop:=e.1.length<=8/\e.2.length<=4 /\ ∀ z∈e.2,z.length<=8
noncomputable def Sv (b:Sw):Prop:=b.length<=5 /\ ∀ e∈b,okE e
noncomputable def E2 (e:Str×List Str):Str:=e.1 ++ "=" ++ gF "," e.2
noncomputable def Ib (b:Sw):Str:=gF "&" (b.map E2)
noncomputable def Xg (bs:List Sw):Str:=if bs=[] then "-" else if bs=[[]] then "*" else gF "|" (bs.map Ib)
noncomputable def TermAt (H:Hp) (v:V) (e:Str×List Str):Prop:=∃ T u,v=.ref T/\H T=some (.tup [.str e.1,.ref u])/\H u=some (C1 e.2)
noncomputable def BoxAt (H:Hp) (a:Addr) (b:Sw):Prop:=∃ es:List ((Str×List Str)×V),es.map (·.1)=b/\H a=some (.lst (es.map (·.2))) /\ ∀ e∈es,TermAt H e.2 e.1
noncomputable def BxAt (ok:Addr->Prop) (H:Hp) (l:Addr) (bs:List Sw):Prop:=∃ es:List (Sw×Addr),es.map (·.1)=bs/\ok l/\H l=some (.lst (es.map fun x=>.ref x.2)) /\ ∀ e∈es,ok e.2/\e.2≠l/\BoxAt H e.2 e.1
noncomputable abbrev GE:=(List Str×List Sw)×Addr×Addr×Addr
noncomputable def gSs (g:Addr) (es:List GE):List Addr:=g::es.map (·.2.2.1)
noncomputable def gOk (ok:Addr->Prop) (g:Addr) (es:List GE):Addr->Prop:=fun a=>ok a /\ ¬ a∈gSs g es
structure GrE (mk:List V->HO) (ok:Addr->Prop) (H:Hp) (g:Addr) (es:List GE):Prop where
 o:ok g
 at_:H g=some (.lst (es.map fun e=>.ref e.2.1))
 nd:(gSs g es).Nodup
 one:∀ e∈es,H e.2.1=some (mk [.ref e.2.2.1,.ref e.2.2.2])/\H e.2.2.1=some (Bi e.1.1)/\ok e.2.2.1 /\ ¬ e.2.1∈gSs g es/\BxAt (gOk ok g es) H e.2.2.2 e.1.2
section
noncomputable def Wu (K:ae) (t:Adr):Sp:=fun vs H Q _=>∃ (a:Addr) (ns:List Nat),vs=[.ref a]/\SqL K H a (ns.map fun n:Nat=>V.int (n:Int))/\(∀ n∈ns,n<=1000)/\Q (.int (Z6 ns)) H
noncomputable def Qh (K:ae) (t:Adr):Sp:=fun vs H Q _=>∃ (a:Addr) (ms:List Int),vs=[.ref a]/\SqL K H a (ms.map V.int)/\Q (.int (G1 ms)) H
noncomputable def ar8 (K:ae) (t:Adr):Sp:=fun vs H Q _=>∃ (z:Str) (lo hi:Int),vs=[.str z,.int lo,.int hi]/\z.length<=1000/\Q (.bl (decide (lo<=(z.length:Int))&&decide ((z.length:Int)<=hi))) H
noncomputable def as2 (K:ae) (t:Adr):Sp:=fun vs H Q _=>∃ c,vs=[.str ⟨#[c]⟩]/\Q (.bl (Bx c)) H
noncomputable def Qi (K:ae) (t:Adr):Sp:=fun vs H Q _=>∃ z,vs=[.str z]/\okW z /\ ∀ H',Same H H'->Q (.bl true) H'
noncomputable def Yb (K:ae) (t:Adr):Sp:=fun vs H Q _=>∃ (a:Addr) (l:List Str),vs=[.ref a]/\SqL K H a (l.map V.str)/\okL l /\ ∀ H',Same H H'->Q (.bl true) H'
noncomputable def Wj (K:ae) (t:Adr):Sp:=fun vs H Q _=>∃ (a b:Addr) (w:Str) (l:List Str),vs=[.ref a]/\H a=some (.tup [.str w,.ref b])/\H b=some (Bi l)/\okW w/\Hq l /\ ∀ H',Same H H'->Q (.bl true) H'
noncomputable def ar3 (K:ae) (t:Adr):Sp:=fun vs H Q _=>∃ (a:Addr) (sw:Sw),vs=[.ref a]/\SwIn any H a sw/\okSw sw /\ ∀ H' d,Same H H'->SwAt (fresh H) H' d sw->Q (.ref d) H'
noncomputable def ar0 (K:ae) (t:Adr):Sp:=fun vs H Q _=>∃ (d:Addr) (sw:Sw),vs=[.ref d]/\SwAt any H d sw/\okSw sw /\ ∀ H' l,Same H H'->TupsAt (fresh H) H' l (Af sw)->Q (.ref l) H'
noncomputable def aq6 (K:ae) (t:Adr):Sp:=fun vs H Q _=>∃ (l:Addr) (rows:List (List Str)),vs=[.ref l]/\TupsAt any H l rows/\rows.Nodup/\rows.length<=256 /\ ∀ H' n,Same H H'->NumAt (fresh H) H' n rows->Q (.ref n) H'
noncomputable def ar1 (K:ae) (t:Adr):Sp:=fun vs H Q _=>∃ (d l:Addr) (sw:Sw),vs=[.ref d,.ref l]/\SwAt any H d sw/\TupsAt any H l (Af sw)/\okSw sw /\ ∀ H' s,Same H H'->SetsAt (fresh H) H' s sw->Q (.ref s) H'
noncomputable def ar6 (K:ae) (t:Adr):Sp:=fun vs H Q _=>∃ (r:Addr) (rule:Sw),vs=[.ref r]/\RuleAt any H r rule/\(rule.map (·.1)).Nodup/\rule.length<=100 /\ ∀ H' c,Same H H'->RuleAt (fresh H) H' c rule->Q (.ref c) H'
noncomputable def a98 (K:ae) (t:Adr):Sp:=fun vs H Q _=>∃ (p l s:Addr) (sw:Sw),vs=[.ref p]/\SelfAt t.c_zbg any H p l s/\TupsAt any H l (Af sw)/\Q (.int (Af sw).length) H
noncomputable def a92 (K:ae) (t:Adr):Sp:=fun vs H Q _=>∃ (p l s:Addr) (sw:Sw),vs=[.ref p]/\SelfAt t.c_zbg any H p l s/\TupsAt any H l (Af sw)/\(Af sw).length<=256/\Q (.int (On sw)) H
noncomputable def a99 (K:ae) (t:Adr):Sp:=fun vs H Q _=>∃ (p a l s:Addr) (w:Str) (ss:List Str) (sw:Sw),vs=[.ref p,.str w,.ref a]/\SelfAt t.c_zbg any H p l s/\SetsAt any H s sw/\okSw sw/\H a=some (Bi ss)/\Vh sw (w,ss) /\ ∀ H',Same H H'->Q (.int (Jr sw (w,ss))) H'
noncomputable def a94 (K:ae) (t:Adr):Sp:=fun vs H Q _=>∃ (p r l s:Addr) (sw rule:Sw),vs=[.ref p,.ref r]/\SelfAt t.c_zbg (· ≠ r) H p l s/\TupsAt (· ≠ r) H l (Af sw)/\SetsAt (· ≠ r) H s sw/\okSw sw/\RuleAt any H r rule/\Gx sw rule /\ ∀ H' c,Same H H'->RuleAt (fresh H) H' c rule->Q (.ref c) H'
noncomputable def Em (ok:Addr->Prop) (H:Hp) (v:V) (rules:List Sw):Prop:=(v=.non/\rules=[]) \/ ∃ k,v=.ref k/\RulesAt ok H k rules
noncomputable def a93 (K:ae) (t:Adr):Sp:=fun vs H Q _=>∃ (p l s:Addr) (ok:Addr->Prop) (v:V) (sw:Sw) (rules:List Sw),vs=[.ref p,v]/\SelfAt t.c_zbg ok H p l s/\TupsAt ok H l (Af sw)/\SetsAt ok H s sw/\okSw sw /\
 Em (fun a=>¬ ok a) H v rules/\(∀ r∈rules,Gx sw r)/\rules.length<=8 /\ ∀ H' k,Same H H'->RulesAt (fresh H) H' k rules->Q (.ref k) H'
noncomputable def ar7 (K:ae) (t:Adr):Sp:=fun vs H Q _=>∃ (p a dx:Addr) (v:V) (sw:Sw) (rules:List Sw),vs=[.ref p,.ref a,v]/\H p=some (.ins t.c_zbg dx [])/\SwIn (· ≠ p) H a sw/\okSw sw/\Em (· ≠ p) H v rules/\(∀ r∈rules,Gx sw r)/\rules.length<=8/\Go sw rules≠0 /\
 ∀ H',(∀ b o,b≠p->H b=some o->H' b=some o)->PanelAt t.c_zbg (fun b=>b=p\/H b=none) H' p sw rules->Q .non H'
noncomputable def Di (K:ae) (t:Adr):Sp:=fun vs H Q _=>∃ (a:Addr) (ns:List Int) (k:Nat),vs=[.ref a,.int k]/\SqL K H a (ns.map V.int)/\Q (.int (A8 ns k)) H
noncomputable def Yc (K:ae) (t:Adr):Sp:=fun vs H Q _=>∃ (c:Int) (n:Nat),vs=[.int c,.int n]/\n<=100 /\ ∀ H' l (ns:List Int),Same H H'->H l=none->H' l=some (.lst (ns.map V.int))->ns.length=n->(∀ i∈ns,0<=i)->Q (.ref l) H'
noncomputable def Ja (K:ae) (t:Adr):Sp:=fun vs H Q _=>∃ (c:Int) (k:Nat),vs=[.int c,.int k]/\k<=8 /\ ∀ H',Same H H'->Q (.str (Bv c k)) H'
noncomputable def ar5 (K:ae) (t:Adr):Sp:=fun vs H Q _=>∃ (a:Addr) (ns:List Int),vs=[.ref a]/\SqL K H a (ns.map V.int) /\ ∀ H' l sw,Same H H'->SwIn any H' l sw->okSw sw->Q (.ref l) H'
noncomputable def ar9 (K:ae) (t:Adr):Sp:=fun vs H Q _=>∃ (l:Addr) (sw:Sw),vs=[.ref l]/\SwIn any H l sw/\okSw sw /\ ∀ H' r,Same H H'->DigAt H' r (Cf sw)->Q (.ref r) H'
noncomputable def Wl (K:ae) (t:Adr):Sp:=fun vs H Q _=>∃ (a l:Addr) (ns:List Int) (sw:Sw),vs=[.ref a,.ref l]/\SqL K H a (ns.map V.int)/\SwIn any H l sw/\okSw sw /\ ∀ H' p rules,Same H H'->PanelAt t.c_zbg any H' p sw rules->Q (.ref p) H'
noncomputable def a95 (K:ae) (t:Adr):Sp:=fun vs H Q _=>∃ (p:Addr) (sw:Sw) (rules:List Sw),vs=[.ref p]/\PanelAt t.c_zbg any H p sw rules/\okSw sw /\
 ∀ H' q (ds:List (((Str×List Str)×Addr)×Addr)),Same H H'->H q=none->ds.map (·.1.1)=sw->H' q=some (.lst (ds.map fun x=>.ref x.2))->(∀ x∈ds,H' x.2=some (.tup [.str x.1.1.1,.ref x.1.2])/\H' x.1.2=some (C1 x.1.1.2))->Q (.ref q) H'
noncomputable def ba0 (K:ae) (t:Adr):Sp:=fun vs H Q _=>∃ (p r l s:Addr) (sw rule:Sw),vs=[.ref p,.ref r]/\SelfAt t.c_zbg (· ≠ r) H p l s/\TupsAt (· ≠ r) H l (Af sw)/\SetsAt (· ≠ r) H s sw/\okSw sw/\RuleAt any H r rule/\okB sw rule /\ ∀ H',Same H H'->Q (.int (ag4 sw rule)) H'
noncomputable def a97 (K:ae) (t:Adr):Sp:=fun vs H Q _=>∃ (p:Addr) (i:Nat) (x:Str×List Str) (sw:Sw) (rules:List Sw),vs=[.ref p,.str x.1]/\PanelAt t.c_zbg any H p sw rules/\okSw sw/\sw[i]? = some x /\ ∀ H' l,Same H H'->bd9 H' l (x.2.map fun z=>(V.str z,V.int (Cl (Af sw) i z)))->Q (.ref l) H'
noncomputable def Wr (K:ae) (t:Adr):Sp:=fun vs H Q _=>∃ (p:Addr) (c w:Nat) (sw:Sw) (rules:List Sw),vs=[.ref p,.int (c:Int),.int (w:Int)]/\PanelAt t.c_zbg any H p sw rules/\okSw sw/\c<2 ^ (Af sw).length/\w<2 ^ (Af sw).length /\ ∀ H' l,Same H H'->H l=none->H' l=some (Bi (Gm sw c w))->Q (.ref l) H'
noncomputable def Fb (K:ae) (t:Adr):Sp:=fun vs H Q _=>∃ (r l:Addr) (d:List Nat) (xs:List Int) (m:Nat),vs=[.ref r,.ref l,.int m]/\H r=some (nO d)/\d≠[]/\(∀ j∈d,j<4)/\H l=some (.lst (xs.map V.int))/\m<=xs.length/\m<=3 /\ ∀ k:Int,0<=k->k<64->Q (.int k) H
noncomputable def Qj (K:ae) (t:Adr):Sp:=fun vs H Q _=>∃ (r:Addr) (c:Int) (sw:Sw),vs=[.ref r,.int c]/\DigAt H r (Cf sw)/\okSw sw /\ ∀ H' (m:Nat),Same H H'->m<2 ^ (Af sw).length->Q (.int (m:Int)) H'
noncomputable def as1 (K:ae) (t:Adr):Sp:=fun vs H Q _=>∃ (r:Addr) (c:Int) (sw:Sw),vs=[.ref r,.int c]/\DigAt H r (Cf sw)/\okSw sw /\ ∀ H' (m:Nat),Same H H'->m<2 ^ (Af sw).length->Q (.int (m:Int)) H'
noncomputable def Ws (K:ae) (t:Adr):Sp:=fun vs H Q _=>∃ (r l:Addr) (c w:Nat) (ps:List Nat) (sw:Sw),vs=[.ref r,.int (c:Int),.int (w:Int),.ref l]/\DigAt H r (Cf sw)/\okSw sw/\c<2 ^ (Af sw).length/\w<2 ^ (Af sw).length/\H l=some (nO ps)/\ps.length<=5/\(∀ p∈ps,p<sw.length) /\ ∀ H' v,Same H H'->At K H' (Sy (Eg (Af sw).length c w (Cg sw ps))) v->Q v H'
noncomputable def Wk (K:ae) (t:Adr):Sp:=fun vs H Q _=>∃ n:Nat,vs=[.int n]/\1<=n/\n<=5 /\ ∀ H' r,Same H H'->DigAt H' r (Ec n)->Q (.ref r) H'
noncomputable def ar4 (K:ae) (t:Adr):Sp:=fun vs H Q _=>∃ (r:Addr) (c w:Nat) (sw:Sw),vs=[.ref r,.int (c:Int),.int (w:Int),.int (sw.length:Int)]/\DigAt H r (Cf sw)/\okSw sw/\c<2 ^ (Af sw).length/\w<2 ^ (Af sw).length /\ ∀ H' l,Same H H'->H' l=some (nO (Ur sw c w))->Q (.ref l) H'
noncomputable def Qk (K:ae) (t:Adr):Sp:=fun vs H Q _=>∃ (a:Addr) (ns:List Int),vs=[.ref a]/\SqL K H a (ns.map V.int)/\ns.length<=63 /\ ∀ H',Q (.bl true) H'
noncomputable def Hy (K:ae) (t:Adr) (n:Nat):Sp:=fun vs H Q _=>∃ (l:Addr) (k:Nat) (ws:List Str),vs=[.ref l,.int k]/\H l=some (Bi ws)/\ws.length<=5/\k<n /\ ∀ H' r,Same H H'->bd7 (fresh H) H' r (Be k ws)->Q (.ref r) H'
noncomputable def aq9 (K:ae) (t:Adr):Sp:=Hy K t 6
noncomputable def Hx (K:ae) (t:Adr) (n:Nat):Sp:=fun vs H Q _=>∃ (p l:Addr) (a b:Nat) (ws:List Str) (sw:Sw) (rules:List Sw),vs=[.ref p,.int (a:Int),.int (b:Int),.ref l]/\PanelAt t.c_zbg any H p sw rules/\okSw sw/\a<2 ^ (Af sw).length/\b<2 ^ (Af sw).length/\H l=some (Bi ws)/\ws.length<n/\n<=9/\(∀ x∈ws,x∈sw.map (·.1)) /\ ∀ H',Same H H'->Q (.bl (!Cw (Af sw).length a b (Ca sw ws))) H'
noncomputable def aq8 (K:ae) (t:Adr):Sp:=Hx K t 6
noncomputable def ar2 (K:ae) (t:Adr):Sp:=fun vs H Q _=>∃ (g b:Addr) (z:Str) (ok:Addr->Prop) (es:List GE) (bs:List Sw),vs=[.ref g,.str z,.ref b]/\GrE .tup ok H g es/\BxAt (gOk ok g es) H b bs/\(∀ a,H a=none->ok a)/\es.length<=4/\(∀ e∈es,e.1.1.length<=4) /\
 ∀ H' es',es'.map (·.1)=Et (es.map (·.1)) z bs->GrE .tup ok H' g es'->(∀ a o,¬ ok a->H a=some o->H' a=some o)->Q .non H'
noncomputable def Md (K:ae) (t:Adr) (n:Nat):Sp:=fun vs H Q _=>∃ (p l:Addr) (c m:Nat) (ws:List Str) (sw:Sw) (rules:List Sw),vs=[.ref p,.int (c:Int),.int (m:Int),.ref l]/\PanelAt t.c_zbg any H p sw rules/\okSw sw/\m<2 ^ (Af sw).length/\H l=some (Bi ws)/\ws.length<=n/\ws.length<=5/\(∀ x∈ws,x∈sw.map (·.1))/\Cw (Af sw).length (c &&& m) (Cz m c) (Ca sw ws)=false /\
 ∀ H' r,Same H H'->BxAt (fresh H) H' r (bxF sw c ws m)->Q (.ref r) H'
noncomputable def a96 (K:ae) (t:Adr):Sp:=Md K t 6
noncomputable def Qg (K:ae) (t:Adr) (n:Nat):Sp:=fun vs H Q _=>∃ (p l:Addr) (c m i:Nat) (x:Str×List Str) (ws:List Str) (sw:Sw) (rules:List Sw),vs=[.ref p,.int (c:Int),.int (m:Int),.ref l]/\PanelAt t.c_zbg any H p sw rules/\okSw sw/\m<2 ^ (Af sw).length/\H l=some (Bi (x.1::ws))/\ws.length<n/\ws.length<5/\sw[i]? = some x/\(∀ x∈ws,x∈sw.map (·.1))/\Cw (Af sw).length (c &&& m) (Cz m c) (Ca sw (x.1::ws))=false /\
 ∀ H' g es,Same H H'->GrE .tup (fresh H) H' g es->es.map (·.1)=grF (Af sw) i (bxF sw c ws) m x.2->Q (.ref g) H'
noncomputable def Me (K:ae) (t:Adr):Sp:=fun vs H Q _=>∃ (p:Addr) (c w:Nat) (sw:Sw) (rules:List Sw),vs=[.ref p,.int (c:Int),.int (w:Int)]/\PanelAt t.c_zbg any H p sw rules/\okSw sw/\c<2 ^ (Af sw).length/\w<2 ^ (Af sw).length /\ ∀ H' r,Same H H'->BxAt (fresh H) H' r (bxF sw c (Gm sw c w) w)->Q (.ref r) H'
noncomputable def Wq (K:ae) (t:Adr):Sp:=fun vs H Q _=>∃ (u:Addr) (e:Str×List Str),vs=[.str e.1,.ref u]/\H u=some (C1 e.2)/\okE e/\Q (.str (E2 e)) H
noncomputable def Wt (K:ae) (t:Adr):Sp:=fun vs H Q _=>∃ (a:Addr) (b:Sw),vs=[.ref a]/\BoxAt H a b/\Sv b /\ ∀ H',Same H H'->Q (.str (Ib b)) H'
noncomputable def Wp (K:ae) (t:Adr):Sp:=fun vs H Q _=>∃ (p:Addr) (c w:Nat) (sw:Sw) (rules:List Sw),vs=[.ref p,.int (c:Int),.int (w:Int)]/\PanelAt t.c_zbg any H p sw rules/\okSw sw/\c<2 ^ (Af sw).length/\w<2 ^ (Af sw).length /\ ∀ H',Same H H'->Q (.str (Xg (bxF sw c (Gm sw c w) w))) H'
noncomputable def as0 (K:ae) (t:Adr):Sp:=fun vs H Q _=>∃ (l:Addr) (bs:List Sw),vs=[.ref l]/\BxAt any H l bs/\Q (.bl true) H
noncomputable def Wm (K:ae) (t:Adr):Sp:=fun vs H Q _=>∃ (r l:Addr) (m p:Nat) (x:Str×List Str) (sw:Sw),vs=[.ref r,.ref l,.int (p:Int),.int (x.2.length:Int)]/\DigAt H r (Cf sw)/\okSw sw/\m<2 ^ (Af sw).length/\H l=some (nO (Cm (Af sw).length m))/\sw[p]? = some x /\
 ∀ H' q (es:List (Nat×Addr×Addr)),Same H H'->H q=none->es.map (·.1)=C6 sw p x.2 m->H' q=some (.lst (es.map fun e=>.ref e.2.1))->(∀ e∈es,H e.2.2=none/\H' e.2.1=some (.tup [.int (e.1:Int),.ref e.2.2])/\H' e.2.2=some (nO (Cm (Af sw).length (m &&& Au (Af sw) p (x.2.getD e.1 a_)))))->Q (.ref q) H'
noncomputable def Hw (K:ae) (t:Adr) (n:Nat):Sp:=fun vs H Q _=>∃ (s r l q:Addr) (c m:Nat) (ps:List Nat) (sw:Sw),vs=[.ref s,.ref r,.int (c:Int),.ref l,.ref q]/\SwIn any H s sw/\DigAt H r (Cf sw)/\okSw sw/\m<2 ^ (Af sw).length/\H l=some (nO (Cm (Af sw).length m))/\H q=some (nO ps)/\ps.length<n/\ps.length<=5/\(∀ p∈ps,p<sw.length)/\Cw (Af sw).length (c &&& m) (Cz m c) (Ca sw (ps.map (nmS sw)))=false /\
 ∀ H' b,Same H H'->BxAt (fresh H) H' b (bxF sw c (ps.map (nmS sw)) m)->Q (.ref b) H'
noncomputable def aq7 (K:ae) (t:Adr):Sp:=Hw K t 6
noncomputable def Wo (K:ae) (t:Adr):Sp:=fun vs H Q _=>∃ (s r l:Addr) (i:Nat) (d:List Nat) (bs:List Sw) (sw:Sw),vs=[.ref s,.ref r,.ref l]/\SwIn any H s sw/\okSw sw/\(Cf sw)[i]? = some d/\H r=some (nO d)/\BxAt any H l bs/\(∀ b∈bs,∀ e∈b,e.1∈sw.map (·.1)) /\ ∀ H',Same H H'->Q (.int ((bs.countP (Cq sw i):Nat):Int)) H'
noncomputable def Wn (K:ae) (t:Adr):Sp:=fun vs H Q _=>∃ (l:Addr) (bs:List Sw),vs=[.ref l]/\BxAt any H l bs/\bs.length<=1024/\(∀ b∈bs,Sv b) /\ ∀ H',Same H H'->Q (.str (Xg bs)) H'
end
end K15
namespace K15
open PySem L2
noncomputable def top (i:Nat):Stmt:=PySem.Challenge.pw_manyleaf_k15_whole_boxes.main.body.getD i (.Pass ⟨0,0,0,0⟩)
noncomputable def bl:List Str:=["all", "dict", "enumerate", "int", "isinstance", "len", "list", "range", "set", "sorted", "str", "tuple"]
section
variable (K:ae) (t:Adr)
noncomputable abbrev Ma:Stmt:=top 13
noncomputable abbrev ad3:List Str:=["words", "size", "found", "place", "word"]
noncomputable abbrev Ke:List Str:=["words", "size"]
noncomputable def a82:FI:=⟨t.f_zav,t.d_zav,Ke,7,aq9 K t,[],[]⟩
noncomputable abbrev V3:Stmt:=D0 (top 33) 13
noncomputable abbrev bc0:List Str:=["self", "word"]
noncomputable abbrev ae6:List Str:=["self", "word"]
noncomputable def ax7:FI:=⟨t.f_zm,t.d_zm,ae6,1,a97 K t,[],[]⟩
noncomputable abbrev Ly:Stmt:=top 14
noncomputable abbrev ac8:List Str:=["panel", "inside", "outside", "switches", "behind", "setting", "having"]
noncomputable abbrev Kd:List Str:=["panel", "inside", "outside", "switches"]
noncomputable def a77:FI:=⟨t.f_zaq,t.d_zaq,Kd,8,aq8 K t,[],[]⟩
noncomputable abbrev Vy:Stmt:=D0 (top 33) 4
noncomputable abbrev bb5:List Str:=["self"]
noncomputable abbrev ae3:List Str:=["self"]
noncomputable def bf2:FI:=⟨t.f_zh,t.d_zh,ae3,1,a95 K t,[],[]⟩
noncomputable abbrev Lr:Stmt:=top 12
noncomputable abbrev ac2:List Str:=["panel", "choices", "within", "words", "size", "picked"]
noncomputable abbrev Qz:List Str:=["panel", "choices", "within"]
noncomputable def a71:FI:=⟨t.f_zak,t.d_zak,Qz,9,Wr K t,[],[]⟩
noncomputable abbrev V0:Stmt:=top 18
noncomputable abbrev bb7:List Str:=["groups", "setting", "boxes", "settings", "others"]
noncomputable abbrev ae4:List Str:=["groups", "setting", "boxes"]
noncomputable def by7:FI:=⟨t.f_zj,t.d_zj,ae4,1,ar2 K t,[],[]⟩
noncomputable abbrev Vz:Stmt:=top 17
noncomputable abbrev bb6:List Str:=["panel", "choices", "part", "switches", "groups", "setting", "having", "boxes"]
noncomputable abbrev Ym:List Str:=["panel", "choices", "part", "switches"]
noncomputable abbrev V1:Stmt:=top 16
noncomputable abbrev bb8:List Str:=["panel", "choices", "part", "switches", "groups", "boxes", "settings", "others"]
noncomputable abbrev Ub:List Str:=["panel", "choices", "part", "switches"]
noncomputable def by8:FI:=⟨t.f_zk,t.d_zk,Ub,15,a96 K t,[],[]⟩
noncomputable abbrev Lq:Stmt:=top 15
noncomputable abbrev ac1:List Str:=["panel", "choices", "within"]
noncomputable abbrev Qy:List Str:=["panel", "choices", "within"]
noncomputable def a70:FI:=⟨t.f_zaj,t.d_zaj,Qy,16,Me K t,[],[]⟩
noncomputable abbrev Lp:Stmt:=top 21
noncomputable abbrev ac0:List Str:=["word", "settings", "listed"]
noncomputable abbrev Qx:List Str:=["word", "settings"]
noncomputable def a69:FI:=⟨t.f_zai,t.d_zai,Qx,1,Wq K t,[],[]⟩
noncomputable abbrev Lw:Stmt:=top 20
noncomputable abbrev ac6:List Str:=["box"]
noncomputable abbrev Q5:List Str:=["box"]
noncomputable def a75:FI:=⟨t.f_zao,t.d_zao,Q5,2,Wt K t,[],[]⟩
noncomputable abbrev Lo:Stmt:=top 19
noncomputable abbrev ab9:List Str:=["panel", "choices", "within", "boxes"]
noncomputable abbrev Qw:List Str:=["panel", "choices", "within"]
noncomputable def a68:FI:=⟨t.f_zah,t.d_zah,Qw,17,Wp K t,[],[]⟩
noncomputable abbrev Ls:Stmt:=top 42
noncomputable abbrev ac3:List Str:=["_law_script", "_law_k"]
noncomputable abbrev Q0:List Str:=["_law_script", "_law_k"]
noncomputable def a72:FI:=⟨t.f_zal,t.d_zal,Q0,1,Di K t,[],[]⟩
noncomputable abbrev Wc:Stmt:=top 43
noncomputable abbrev bd0:List Str:=["_law_cell_here", "_law_many", "_law_found", "_law_left", "_law_number", "_law_k"]
noncomputable abbrev af6:List Str:=["_law_cell_here", "_law_many"]
noncomputable def bz6:FI:=⟨t.f_zw,t.d_zw,af6,1,Yc K t,[],[]⟩
noncomputable abbrev Lv:Stmt:=top 44
noncomputable abbrev ac5:List Str:=["_law_cell_here", "_law_k", "_law_letters", "_law_tail", "_law_size", "_law_at", "_law_base"]
noncomputable abbrev Q4:List Str:=["_law_cell_here", "_law_k"]
noncomputable def a74:FI:=⟨t.f_zan,t.d_zan,Q4,1,Ja K t,[],[]⟩
noncomputable abbrev V5:Stmt:=top 45
noncomputable abbrev bc2:List Str:=["_law_script", "_law_cell_here", "_law_most", "_law_shift", "_law_found", "_law_total", "_law_x", "_law_size", "_law_settings"]
noncomputable abbrev ae8:List Str:=["_law_script"]
noncomputable def bz1:FI:=⟨t.f_zo,t.d_zo,ae8,2,ar5 K t,[],[]⟩
noncomputable abbrev Wa:Stmt:=top 46
noncomputable abbrev bc8:List Str:=["_law_switches_here", "_law_rows", "_law_word_here", "_law_settings", "_law_longer", "_law_row"]
noncomputable abbrev af4:List Str:=["_law_switches_here"]
noncomputable def bz4:FI:=⟨t.f_zu,t.d_zu,af4,1,ar9 K t,[],[]⟩
noncomputable abbrev Lx:Stmt:=top 8
noncomputable abbrev ac7:List Str:=["sets", "choices", "one"]
noncomputable abbrev Q6:List Str:=["sets"]
noncomputable def a76:FI:=⟨t.f_zap,t.d_zap,Q6,1,Qh K t,[],[]⟩
noncomputable abbrev V7:Stmt:=D0 (top 33) 3
noncomputable abbrev bc5:List Str:=["self"]
noncomputable abbrev af1:List Str:=["self"]
noncomputable def bf3:FI:=⟨t.f_zr,t.d_zr,af1,1,a98 K t,[],[]⟩
noncomputable abbrev Vt:Stmt:=D0 (top 33) 9
noncomputable abbrev bb0:List Str:=["self"]
noncomputable abbrev ad8:List Str:=["self"]
noncomputable def ax6:FI:=⟨t.f_zc,t.d_zc,ad8,2,a92 K t,[],[]⟩
noncomputable abbrev V9:Stmt:=top 25
noncomputable abbrev bc7:List Str:=["thing", "least", "greatest"]
noncomputable abbrev af3:List Str:=["thing", "least", "greatest"]
noncomputable def bz3:FI:=⟨t.f_zt,t.d_zt,af3,1,ar8 K t,[],[]⟩
noncomputable abbrev Wf:Stmt:=top 26
noncomputable abbrev bd3:List Str:=["sign"]
noncomputable abbrev af9:List Str:=["sign"]
noncomputable def bz8:FI:=⟨t.f_zz,t.d_zz,af9,1,as2 K t,[],[]⟩
noncomputable abbrev Lz:Stmt:=top 24
noncomputable abbrev ac9:List Str:=["thing"]
noncomputable abbrev Q7:List Str:=["thing"]
noncomputable def a78:FI:=⟨t.f_zar,t.d_zar,Q7,2,Qi K t,[],[]⟩
noncomputable abbrev Vv:Stmt:=top 34
noncomputable abbrev bb2:List Str:=["things"]
noncomputable abbrev ae0:List Str:=["things"]
noncomputable def by5:FI:=⟨t.f_ze,t.d_ze,ae0,3,Yb K t,[],[]⟩
noncomputable abbrev V8:Stmt:=D0 (top 33) 12
noncomputable abbrev bc6:List Str:=["self", "word", "settings"]
noncomputable abbrev af2:List Str:=["self", "word", "settings"]
noncomputable def bf4:FI:=⟨t.f_zs,t.d_zs,af2,4,a99 K t,[],[]⟩
noncomputable abbrev We:Stmt:=D0 (top 33) 11
noncomputable abbrev bd2:List Str:=["self", "terms", "choices", "word"]
noncomputable abbrev af8:List Str:=["self", "terms"]
noncomputable def ax8:FI:=⟨t.f_zy,t.d_zy,af8,5,ba0 K t,[],[]⟩
noncomputable abbrev V6:Stmt:=top 40
noncomputable abbrev bc3:List Str:=["rule", "copied", "word"]
noncomputable abbrev ae9:List Str:=["rule"]
noncomputable def bz2:FI:=⟨t.f_zp,t.d_zp,ae9,1,ar6 K t,[],[]⟩
noncomputable abbrev Vx:Stmt:=D0 (top 33) 2
noncomputable abbrev bb4:List Str:=["self", "rule"]
noncomputable abbrev ae2:List Str:=["self", "rule"]
noncomputable def bf1:FI:=⟨t.f_zg,t.d_zg,ae2,6,a94 K t,[],[]⟩
noncomputable abbrev Vu:Stmt:=D0 (top 33) 1
noncomputable abbrev bb1:List Str:=["self", "rules"]
noncomputable abbrev ad9:List Str:=["self", "rules"]
noncomputable def bf0:FI:=⟨t.f_zd,t.d_zd,ad9,7,a93 K t,[],[]⟩
noncomputable abbrev Lg:Stmt:=top 36
noncomputable abbrev ab2:List Str:=["switch"]
noncomputable abbrev Qq:List Str:=["switch"]
noncomputable def a61:FI:=⟨t.f_zaa,t.d_zaa,Qq,4,Wj K t,[],[]⟩
noncomputable abbrev V2:Stmt:=top 35
noncomputable abbrev bb9:List Str:=["switches", "settings", "many", "switch"]
noncomputable abbrev ae5:List Str:=["switches"]
noncomputable def by9:FI:=⟨t.f_zl,t.d_zl,ae5,5,ar3 K t,[],[]⟩
noncomputable abbrev Vs:Stmt:=top 37
noncomputable abbrev ba9:List Str:=["settings", "tuples", "word", "longer", "ahead"]
noncomputable abbrev ad7:List Str:=["settings"]
noncomputable def by4:FI:=⟨t.f_zb,t.d_zb,ad7,1,ar0 K t,[],[]⟩
noncomputable abbrev Vr:Stmt:=top 38
noncomputable abbrev ba8:List Str:=["tuples", "numbers", "number", "told"]
noncomputable abbrev ad6:List Str:=["tuples"]
noncomputable def by3:FI:=⟨t.f_za,t.d_za,ad6,1,aq6 K t,[],[]⟩
noncomputable abbrev L9:Stmt:=top 7
noncomputable abbrev ad2:List Str:=["numbers", "choices", "number"]
noncomputable abbrev Ra:List Str:=["numbers"]
noncomputable def a81:FI:=⟨t.f_zau,t.d_zau,Ra,1,Wu K t,[],[]⟩
noncomputable abbrev Vw:Stmt:=top 39
noncomputable abbrev bb3:List Str:=["settings", "tuples", "sets", "place", "word", "setting", "having"]
noncomputable abbrev ae1:List Str:=["settings", "tuples"]
noncomputable def by6:FI:=⟨t.f_zf,t.d_zf,ae1,2,ar1 K t,[],[]⟩
noncomputable abbrev Iz:Stmt:=D0 (top 33) 0
noncomputable abbrev bc4:List Str:=["self", "switches", "rules"]
noncomputable abbrev af0:List Str:=["self", "switches", "rules"]
noncomputable def aj5:FI:=⟨t.f_zq,t.d_zq,af0,8,ar7 K t,[.non],t.du_zq⟩
noncomputable abbrev Lk:Stmt:=top 47
noncomputable abbrev ab5:List Str:=["_law_script", "_law_switches_here", "_law_rules"]
noncomputable abbrev Qs:List Str:=["_law_script", "_law_switches_here"]
noncomputable def a64:FI:=⟨t.f_zad,t.d_zad,Qs,10,Wl K t,[],[]⟩
noncomputable abbrev L6:Stmt:=top 48
noncomputable abbrev ad0:List Str:=["_law_row", "_law_xs", "_law_many", "_law_key_here", "_law_j"]
noncomputable abbrev Q8:List Str:=["_law_row", "_law_xs", "_law_many"]
noncomputable def a79:FI:=⟨t.f_zas,t.d_zas,Q8,1,Fb K t,[],[]⟩
noncomputable abbrev L8:Stmt:=top 49
noncomputable abbrev ad1:List Str:=["_law_rows", "_law_cell_here", "_law_xs", "_law_found", "_law_number", "_law_inside", "_law_great"]
noncomputable abbrev Q9:List Str:=["_law_rows", "_law_cell_here"]
noncomputable def a80:FI:=⟨t.f_zat,t.d_zat,Q9,2,Qj K t,[],[]⟩
noncomputable abbrev Wd:Stmt:=top 50
noncomputable abbrev bd1:List Str:=["_law_rows", "_law_cell_here"]
noncomputable abbrev af7:List Str:=["_law_rows", "_law_cell_here"]
noncomputable def bz7:FI:=⟨t.f_zx,t.d_zx,af7,3,as1 K t,[],[]⟩
noncomputable abbrev Lu:Stmt:=top 51
noncomputable abbrev ac4:List Str:=["_law_rows", "_law_choices", "_law_within_here", "_law_places", "_law_outside", "_law_number", "_law_key_here"]
noncomputable abbrev Q3:List Str:=["_law_rows", "_law_choices", "_law_within_here", "_law_places"]
noncomputable def a73:FI:=⟨t.f_zam,t.d_zam,Q3,1,Ws K t,[],[]⟩
noncomputable abbrev Lj:Stmt:=top 52
noncomputable abbrev ab4:List Str:=["_law_end", "_law_found", "_law_bits", "_law_places"]
noncomputable abbrev Qr:List Str:=["_law_end"]
noncomputable def a63:FI:=⟨t.f_zac,t.d_zac,Qr,1,Wk K t,[],[]⟩
noncomputable abbrev V4:Stmt:=top 53
noncomputable abbrev bc1:List Str:=["_law_rows", "_law_choices", "_law_within_here", "_law_end", "_law_places"]
noncomputable abbrev ae7:List Str:=["_law_rows", "_law_choices", "_law_within_here", "_law_end"]
noncomputable def bz0:FI:=⟨t.f_zn,t.d_zn,ae7,2,ar4 K t,[],[]⟩
noncomputable abbrev Ll:Stmt:=top 54
noncomputable abbrev ab6:List Str:=["_law_rows", "_law_numbers", "_law_at", "_law_size", "_law_parts_here", "_law_j", "_law_part"]
noncomputable abbrev Qt:List Str:=["_law_rows", "_law_numbers", "_law_at", "_law_size"]
noncomputable def a65:FI:=⟨t.f_zae,t.d_zae,Qt,1,Wm K t,[],[]⟩
noncomputable abbrev Li:Stmt:=top 55
noncomputable abbrev ab3:List Str:=["_law_switches_here", "_law_rows", "_law_choices", "_law_numbers", "_law_places", "_law_inside", "_law_word_here", "_law_settings", "_law_groups", "_law_j", "_law_part", "_law_boxes_here", "_law_at", "_law_k", "_law_found", "_law_some", "_law_ahead"]
noncomputable abbrev Kc:List Str:=["_law_switches_here", "_law_rows", "_law_choices", "_law_numbers", "_law_places"]
noncomputable def a62:FI:=⟨t.f_zab,t.d_zab,Kc,8,aq7 K t,[],[]⟩
noncomputable abbrev Wb:Stmt:=top 56
noncomputable abbrev bc9:List Str:=["_law_found", "_law_box", "_law_term"]
noncomputable abbrev af5:List Str:=["_law_found"]
noncomputable def bz5:FI:=⟨t.f_zv,t.d_zv,af5,1,as0 K t,[],[]⟩
noncomputable abbrev Ln:Stmt:=top 57
noncomputable abbrev ab8:List Str:=["_law_switches_here", "_law_row", "_law_boxes_here", "_law_word_here", "_law_settings", "_law_words", "_law_times_here", "_law_box", "_law_there", "_law_at"]
noncomputable abbrev Qv:List Str:=["_law_switches_here", "_law_row", "_law_boxes_here"]
noncomputable def a67:FI:=⟨t.f_zag,t.d_zag,Qv,1,Wo K t,[],[]⟩
noncomputable abbrev Lm:Stmt:=top 58
noncomputable abbrev ab7:List Str:=["_law_boxes_here"]
noncomputable abbrev Qu:List Str:=["_law_boxes_here"]
noncomputable def a66:FI:=⟨t.f_zaf,t.d_zaf,Qu,1,Wn K t,[],[]⟩
noncomputable abbrev E1:Stmt:=top 59
noncomputable abbrev ad4:List Str:=["_law_script", "_law_switches_here", "_law_rows", "_law_panel_here", "_law_choices", "_law_within_here", "_law_number", "_law_numbers", "_law_places", "_law_due", "_law_found", "_law_box"]
noncomputable abbrev Rb:List Str:=["_law_script"]
noncomputable def C4:List MI:=[⟨t.c_zbg,ax6 K t⟩]
noncomputable def Pr:List MI:=[⟨t.c_zbg,ax8 K t⟩]
noncomputable def Ps:List MI:=[⟨t.c_zbg,bf3 K t⟩]
noncomputable def Gg:List MI:=[⟨t.c_zbg,ax7 K t⟩]
noncomputable def E8:List MI:=[⟨t.c_zbg,bf1 K t⟩]
noncomputable def Es:List MI:=[⟨t.c_zbg,bf0 K t⟩]
noncomputable def Fx:List MI:=[⟨t.c_zbg,bf2 K t⟩]
noncomputable def Pt:List MI:=[⟨t.c_zbg,bf4 K t⟩]
noncomputable def Bk (K:ae) (t:Adr):List (Str×GB):=[("Panel", .val (.ref t.c_zbg) (.ref t.c_zbg)),("ALL", .val (.str "*") t.u_zbi),("NONE", .val (.str "-") t.u_zbh),("MOST_SWITCHES", .val (.int 5) t.u_zaz),("LEAST_SETTINGS", .val (.int 2) t.u_zax),("MOST_SETTINGS", .val (.int 4) t.u_zay),("MOST_CHOICES", .val (.int 256) t.u_zba),("MOST_RULES", .val (.int 8) t.u_zbb)]
noncomputable def D9:List (Str×GB):=("", .met "many" (Ps K t))::("", .met "parted" (Gg K t))::("", .met "switches" (Fx K t))::("add_to_groups", .fn (by7 K t))::("tell_term", .fn (a69 K t))::("_law_cell", .fn (a72 K t))::("_law_stream", .fn (bz6 K t))::("_law_word", .fn (a74 K t))::("_law_digits", .fn (bz4 K t))::("union_of", .fn (a76 K t))::("has_length", .fn (bz3 K t))::("is_letter", .fn (bz8 K t))::("copied_rule", .fn (bz2 K t))::("settings_of_choices", .fn (by4 K t))::("numbers_by_settings", .fn (by3 K t))::("set_of", .fn (a81 K t))::("_law_key", .fn (a79 K t))::("_law_pair", .fn (a73 K t))::("_law_lists", .fn (a63 K t))::("_law_parts", .fn (a65 K t))::("_law_formed", .fn (bz5 K t))::("_law_times", .fn (a67 K t))::("_law_shown", .fn (a66 K t))::Bk K t
noncomputable def Y7:List (Str×GB):=("", .met "all_choices" (C4 K t))::("tell_box", .fn (a75 K t))::("_law_switches", .fn (bz1 K t))::("is_word", .fn (a78 K t))::("sets_of_settings", .fn (by6 K t))::("_law_set", .fn (a80 K t))::("_law_deciding", .fn (bz0 K t))::D9 K t
noncomputable def Y8:List (Str×GB):=("are_unlike_words", .fn (by5 K t))::("_law_within", .fn (bz7 K t))::Y7 K t
noncomputable def Y9:List (Str×GB):=("", .met "term" (Pt K t))::("is_switch", .fn (a61 K t))::Y8 K t
noncomputable def ax1:List (Str×GB):=("", .met "box" (Pr K t))::("read_switches", .fn (by9 K t))::Y9 K t
noncomputable def ax2:List (Str×GB):=("", .met "read_rule" (E8 K t))::ax1 K t
noncomputable def ax3:List (Str×GB):=("", .met "read_rules" (Es K t))::("picks", .fn (a82 K t))::ax2 K t
noncomputable def ax4:List (Str×GB):=("decides", .fn (a77 K t))::("_law_boxes", .fn (a62 K t))::ax3 K t
noncomputable def ax5:List (Str×GB):=("deciding", .fn (a71 K t))::("Panel", .cls t.c_zbg (some (aj5 K t)))::ax4 K t
noncomputable def a56:List (Str×GB):=("_law_panel", .fn (a64 K t))::ax5 K t
noncomputable def a57:List (Str×GB):=a56 K t
noncomputable def a58:List (Str×GB):=a57 K t
noncomputable def a59:List (Str×GB):=a58 K t
noncomputable def a60:List (Str×GB):=a59 K t
noncomputable def Xl:List (Str×GB):=("boxes_of_part", .fn (by8 K t))::a60 K t
noncomputable def Xm:List (Str×GB):=("boxes_of", .fn (a70 K t))::Xl K t
noncomputable def ai8:List (Str×GB):=("tell_cond", .fn (a68 K t))::Xm K t
end
noncomputable def ba4 (K:ae) (t:Adr) (n:Nat):DS:=
 (Ah (dIf (Az (Ae (Ax K false) (Aa 1) (dC (.int 0)))) (Ah (Aw (Bl (Ac (Bl Ai) Ai)))
  Ag) Ag)
 (Ah (Ap 2 (Bl Ai))
 (Ah (B4 (iEn K (Ac (Aa 0) Ai)) (gdT K 2 [(gdN 3),(gdN 4)]) (Ah (Cp (dMt (rMt K [⟨"list", "list.extend", D4⟩]) (Aa 2) (Ac (Bf [none,some 4] (Bd K (dFn (spE (Hy K t n) []) (Ac (dSl K (Aa 0) (Dd (Ae (Bb K) (Aa 3) (dC (.int 1)))) Ce) (Ac (Ae X6 (Aa 1) (dC (.int 1))) Ai)))) (gdN 0) Bw (Ae (Bb K) (Bl (Ac (Aa 1) Ai)) (Aa 0))) Ai)))
  Ag))
 (Ah (Aw (Aa 2))
 Ag))))
theorem bq8 (K:ae) (t:Adr) (n:Nat):wSs 40 (Bg K ad3 (Ab Ma) (("picks", .fn ⟨t.f_zav,t.d_zav,Ke,0+n+1,Hy K t n,[],[]⟩)::Bk K t) bl) (Al Ma)=ba4 K t n:=by kernel_rfl
theorem bt3:Am ad3 Ke (Ab Ma):=⟨rfl,rfl,rfl,by decide +kernel,rfl,by decide +kernel,by decide +kernel⟩
theorem bw4:Ay ad3 (Ab Ma)=true:=by decide +kernel
noncomputable def cl7 (K:ae) (t:Adr):DS:=
 (Ah (Aw (dUn (Fa K) (Ae (Aq K) (dUn (Dw K "sets") (Aa 0)) (Aa 1))))
 Ag)
theorem b69 (K:ae) (t:Adr):wSs 40 (Bg K bc0 (Ab V3) (Bk K t) bl) (Al V3)=cl7 K t:=by kernel_rfl
theorem b95:Am bc0 ae6 (Ab V3):=⟨rfl,rfl,rfl,by decide +kernel,rfl,by decide +kernel,by decide +kernel⟩
theorem cf7:Ay bc0 (Ab V3)=true:=by decide +kernel
noncomputable def ba3 (K:ae) (t:Adr) (n:Nat):DS:=
 (Ah (dIf (dOr (Az (Ae (Ax K false) (Aa 1) (dC (.int 0)))) (Az (Ae (Ax K false) (Aa 2) (dC (.int 0))))) (Ah (Aw (dC (.bl true)))
  Ag) Ag)
 (Ah (dIf (Az (Ae (Ax K false) (Aa 3) (Bl Ai))) (Ah (Aw (dC (.bl false)))
  Ag) Ag)
 (Ah (Ap 4 (dSl K (Aa 3) (Dd (dC (.int 1))) Ce))
 (Ah (B4 (Bd K (Ha "parted" 1 (Gg K t) (Aa 0) (Ac (Ae (Aq K) (Aa 3) (dC (.int 0))) Ai))) (gdT K 2 [(gdN 5),(gdN 6)]) (Ah (dIf (D6 (Dy K (dFn (spE (Hx K t n) []) (Ac (Aa 0) (Ac (Ae B0 (Aa 1) (Aa 6)) (Ac (Ae B0 (Aa 2) (Aa 6)) (Ac (Aa 4) Ai))))))) (Ah (Aw (dC (.bl false)))
   Ag) Ag)
  Ag))
 (Ah (Aw (dC (.bl true)))
 Ag)))))
theorem bq3 (K:ae) (t:Adr) (n:Nat):wSs 40 (Bg K ac8 (Ab Ly) (("decides", .fn ⟨t.f_zaq,t.d_zaq,Kd,1+n+1,Hx K t n,[],[]⟩)::D9 K t) bl) (Al Ly)=ba3 K t n:=by kernel_rfl
theorem bs8:Am ac8 Kd (Ab Ly):=⟨rfl,rfl,rfl,by decide +kernel,rfl,by decide +kernel,by decide +kernel⟩
theorem bv9:Ay ac8 (Ab Ly)=true:=by decide +kernel
noncomputable def cl4 (K:ae) (t:Adr):DS:=
 (Ah (Aw (dUn (Fa K) (dUn (Dw K "settings") (Aa 0))))
 Ag)
theorem b64 (K:ae) (t:Adr):wSs 40 (Bg K bb5 (Ab Vy) (Bk K t) bl) (Al Vy)=cl4 K t:=by kernel_rfl
theorem b90:Am bb5 ae3 (Ab Vy):=⟨rfl,rfl,rfl,by decide +kernel,rfl,by decide +kernel,by decide +kernel⟩
theorem cf2:Ay bb5 (Ab Vy)=true:=by decide +kernel
noncomputable def cc7 (K:ae) (t:Adr):DS:=
 (Ah (Ap 3 (Bf [none,none] (Bd K (Ha "switches" 0 (Fx K t) (Aa 0) Ai)) (gdT K 2 [(gdN 0),(gdN 1)]) Bw (Aa 0)))
 (Ah (B4 (Ft (Ac (dFn (fun vs H Q _=>(Ci K) vs H Q) (Ac (Aa 3) Ai)) Ai)) (gdN 4) (Ah (B4 (Bd K (dFn (spE (aq9 K t) []) (Ac (Aa 3) (Ac (Aa 4) Ai)))) (gdN 5) (Ah (dIf (Dy K (dFn (spE (aq8 K t) []) (Ac (Aa 0) (Ac (Ae B0 (Aa 1) (Aa 2)) (Ac (Ae B0 (Aa 2) (dUn Oc (Aa 1))) (Ac (Aa 5) Ai)))))) (Ah (Aw (Aa 5))
    Ag) Ag)
   Ag))
  Ag))
 (Ah (Aw (Aa 3))
 Ag)))
theorem bp7 (K:ae) (t:Adr):wSs 40 (Bg K ac2 (Ab Lr) (ax4 K t) bl) (Al Lr)=cc7 K t:=by kernel_rfl
theorem bs2:Am ac2 Qz (Ab Lr):=⟨rfl,rfl,rfl,by decide +kernel,rfl,by decide +kernel,by decide +kernel⟩
theorem bv3:Ay ac2 (Ab Lr)=true:=by decide +kernel
noncomputable def cl5 (K:ae) (t:Adr):DS:=
 (Ah (B4 (Bd K (Aa 0)) (gdT K 2 [(gdN 3),(gdN 4)]) (Ah (dIf (Az (Ae (Ax K false) (Aa 4) (Aa 2))) (Ah (Cp (dMt (rMt K [⟨"list", "list.append", Ch⟩]) (Aa 3) (Ac (Aa 1) Ai)))
   (Ah ah5
   Ag)) Ag)
  Ag))
 (Ah (Cp (dMt (rMt K [⟨"list", "list.append", Ch⟩]) (Aa 0) (Ac (Fj (Ac (Bl (Ac (Aa 1) Ai)) (Ac (Aa 2) Ai))) Ai)))
 Ag))
theorem b66 (K:ae) (t:Adr):wSs 40 (Bg K bb7 (Ab V0) (Bk K t) bl) (Al V0)=cl5 K t:=by kernel_rfl
theorem b92:Am bb7 ae4 (Ab V0):=⟨rfl,rfl,rfl,by decide +kernel,rfl,by decide +kernel,by decide +kernel⟩
theorem cf4:Ay bb7 (Ab V0)=true:=by decide +kernel
noncomputable def cd8 (K:ae) (t:Adr) (n:Nat):DS:=
 (Ah (Ap 4 (Bl Ai))
 (Ah (B4 (Bd K (Ha "parted" 1 (Gg K t) (Aa 0) (Ac (Ae (Aq K) (Aa 3) (dC (.int 0))) Ai))) (gdT K 2 [(gdN 5),(gdN 6)]) (Ah (dIf (Az (Ae (Ax K true) (Ae B0 (Aa 2) (Aa 6)) (dC (.int 0)))) (Ah (Ap 7 (dFn (spE (Md K t n) []) (Ac (Aa 0) (Ac (Aa 1) (Ac (Ae B0 (Aa 2) (Aa 6)) (Ac (dSl K (Aa 3) (Dd (dC (.int 1))) Ce) Ai))))))
   (Ah (Cp (dFn (spE (ar2 K t) []) (Ac (Aa 4) (Ac (Aa 5) (Ac (Aa 7) Ai)))))
   Ag)) Ag)
  Ag))
 (Ah (Aw (Aa 4))
 Ag)))
theorem b65 (K:ae) (t:Adr) (n:Nat):wSs 40 (Bg K bb6 (Ab Vz) (("boxes_of_part", .fn ⟨t.f_zk,t.d_zk,Ub,1+2 * n+2,Md K t n,[],[]⟩)::D9 K t) bl) (Al Vz)=cd8 K t n:=by kernel_rfl
theorem b91:Am bb6 Ym (Ab Vz):=⟨rfl,rfl,rfl,by decide +kernel,rfl,by decide +kernel,by decide +kernel⟩
theorem cf3:Ay bb6 (Ab Vz)=true:=by decide +kernel
noncomputable def cd9 (K:ae) (t:Adr) (n:Nat):DS:=
 (Ah (dIf (Az (Ae (Ax K false) (Ae B0 (Aa 2) (Aa 1)) (dC (.int 0)))) (Ah (Aw (Bl Ai))
  Ag) Ag)
 (Ah (dIf (Az (Ae (Ax K false) (Ae B0 (Aa 2) (dUn Oc (Aa 1))) (dC (.int 0)))) (Ah (Aw (Bl (Ac (Bl Ai) Ai)))
  Ag) Ag)
 (Ah (Ap 4 (dFn (spE (Qg K t n) []) (Ac (Aa 0) (Ac (Aa 1) (Ac (Aa 2) (Ac (Aa 3) Ai))))))
 (Ah (dIf (Az (Ae (Ax K false) (dFn (fun vs H Q _=>(Ci K) vs H Q) (Ac (Aa 4) Ai)) (dC (.int 1)))) (Ah (Aw (Ae (Aq K) (Ae (Aq K) (Aa 4) (dC (.int 0))) (dC (.int 1))))
  Ag) Ag)
 (Ah (Ap 5 (Bl Ai))
 (Ah (B4 (Bd K (Aa 4)) (gdT K 2 [(gdN 6),(gdN 7)]) (Ah (Cp (dMt (rMt K [⟨"list", "list.extend", D4⟩]) (Aa 5) (Ac (Bf [none,some 6,some 3] (Bd K (Aa 7)) (gdN 0) Bw (Ae (Bb K) (Bl (Ac (Fj (Ac (Ae (Aq K) (Aa 2) (dC (.int 0))) (Ac (dFn (fun vs H Q _=>(F0 K) vs H Q) (Ac (Aa 1) Ai)) Ai))) Ai)) (Aa 0))) Ai)))
  Ag))
 (Ah (Aw (Aa 5))
 Ag)))))))
theorem b67 (K:ae) (t:Adr) (n:Nat):wSs 40 (Bg K bb8 (Ab V1) (("groups_of_part", .fn ⟨t.f_zi,t.d_zi,Ym,1+2 * n+1,Qg K t n,[],[]⟩)::D9 K t) bl) (Al V1)=cd9 K t n:=by kernel_rfl
theorem b93:Am bb8 Ub (Ab V1):=⟨rfl,rfl,rfl,by decide +kernel,rfl,by decide +kernel,by decide +kernel⟩
theorem cf5:Ay bb8 (Ab V1)=true:=by decide +kernel
noncomputable def cc6 (K:ae) (t:Adr):DS:=
 (Ah (Aw (dFn (spE (a96 K t) []) (Ac (Aa 0) (Ac (Aa 1) (Ac (Aa 2) (Ac (dFn (spE (Wr K t) []) (Ac (Aa 0) (Ac (Aa 1) (Ac (Aa 2) Ai)))) Ai))))))
 Ag)
theorem bp6 (K:ae) (t:Adr):wSs 40 (Bg K ac1 (Ab Lq) (Xl K t) bl) (Al Lq)=cc6 K t:=by kernel_rfl
theorem bs1:Am ac1 Qy (Ab Lq):=⟨rfl,rfl,rfl,by decide +kernel,rfl,by decide +kernel,by decide +kernel⟩
theorem bv2:Ay ac1 (Ab Lq)=true:=by decide +kernel
noncomputable def cc5 (K:ae) (t:Adr):DS:=
 (Ah (Ap 2 (dMt (rMt K [⟨"str", "str.join", Gq K⟩]) (dC (.str ",")) (Ac (Aa 1) Ai)))
 (Ah (Aw (Xh a_ [(dUn a33 (Aa 0)),(dC (.str "=")),(dUn a33 (Aa 2))]))
 Ag))
theorem bp5 (K:ae) (t:Adr):wSs 40 (Bg K ac0 (Ab Lp) (Bk K t) bl) (Al Lp)=cc5 K t:=by kernel_rfl
theorem bs0:Am ac0 Qx (Ab Lp):=⟨rfl,rfl,rfl,by decide +kernel,rfl,by decide +kernel,by decide +kernel⟩
theorem bv1:Ay ac0 (Ab Lp)=true:=by decide +kernel
noncomputable def cd1 (K:ae) (t:Adr):DS:=
 (Ah (Aw (dMt (rMt K [⟨"str", "str.join", Gq K⟩]) (dC (.str "&")) (Ac (Bf [none,none] (Bd K (Aa 0)) (gdT K 2 [(gdN 0),(gdN 1)]) Bw (dFn (spE (Wq K t) []) (Ac (Aa 0) (Ac (Aa 1) Ai)))) Ai)))
 Ag)
theorem bq1 (K:ae) (t:Adr):wSs 40 (Bg K ac6 (Ab Lw) (D9 K t) bl) (Al Lw)=cd1 K t:=by kernel_rfl
theorem bs6:Am ac6 Q5 (Ab Lw):=⟨rfl,rfl,rfl,by decide +kernel,rfl,by decide +kernel,by decide +kernel⟩
theorem bv7:Ay ac6 (Ab Lw)=true:=by decide +kernel
noncomputable def cc4 (K:ae) (t:Adr):DS:=
 (Ah (Ap 3 (dFn (spE (Me K t) []) (Ac (Aa 0) (Ac (Aa 1) (Ac (Aa 2) Ai)))))
 (Ah (dIf (Az (Ae (Ax K false) (Aa 3) (Bl Ai))) (Ah (Aw (dC (.str "-")))
  Ag) Ag)
 (Ah (dIf (Az (Ae (Ax K false) (Aa 3) (Bl (Ac (Bl Ai) Ai)))) (Ah (Aw (dC (.str "*")))
  Ag) Ag)
 (Ah (Aw (dMt (rMt K [⟨"str", "str.join", Gq K⟩]) (dC (.str "|")) (Ac (Bf [none] (Bd K (Aa 3)) (gdN 0) Bw (dFn (spE (Wt K t) []) (Ac (Aa 0) Ai))) Ai)))
 Ag))))
theorem bp4 (K:ae) (t:Adr):wSs 40 (Bg K ab9 (Ab Lo) (Xm K t) bl) (Al Lo)=cc4 K t:=by kernel_rfl
theorem br9:Am ab9 Qw (Ab Lo):=⟨rfl,rfl,rfl,by decide +kernel,rfl,by decide +kernel,by decide +kernel⟩
theorem bv0:Ay ab9 (Ab Lo)=true:=by decide +kernel
noncomputable def cc8 (K:ae) (t:Adr):DS:=
 (Ah (dIf (Az (Ae b54 (Aa 1) (dFn (fun vs H Q _=>(Ci K) vs H Q) (Ac (Aa 0) Ai)))) (Ah (Aw (Ae (Aq K) (Aa 0) (Aa 1)))
  Ag) Ag)
 (Ah (Aw (Ae (Cr K) (Ae (Bb K) (Aa 1) (dC (.int 3))) (dC (.int 7919))))
 Ag))
theorem bp8 (K:ae) (t:Adr):wSs 40 (Bg K ac3 (Ab Ls) (Bk K t) bl) (Al Ls)=cc8 K t:=by kernel_rfl
theorem bs3:Am ac3 Q0 (Ab Ls):=⟨rfl,rfl,rfl,by decide +kernel,rfl,by decide +kernel,by decide +kernel⟩
theorem bv4:Ay ac3 (Ab Ls)=true:=by decide +kernel
noncomputable def cm7 (K:ae) (t:Adr):DS:=
 (Ah (Ap 2 (Bl Ai))
 (Ah (Ap 3 (Ae Co (Aa 0) (dC (.int 2))))
 (Ah (Ap 4 (Ae (Bb K) (Ae A3 (Aa 0) (dC (.int 2147483629))) (dC (.int 17))))
 (Ah (B4 (Ft (Ac (Aa 1) Ai)) (gdN 5) (Ah (Ap 4 (Ae A3 (Ae (Bb K) (Ae (Bb K) (Ae (Cr K) (Aa 4) (dC (.int 48271))) (Ae (Cr K) (dC (.int 7919)) (Aa 5))) (dC (.int 1))) (dC (.int 2147483647))))
  (Ah (dIf (Mw (Az (Ae (Ax K false) (Ae A3 (Aa 0) (dC (.int 2))) (dC (.int 1)))) (Mw (Az (Ae (Ax K true) (Aa 3) (dC (.int 0)))) (Az (Ae (Ax K true) (Aa 3) (dUn Tf (dC (.int 1))))))) (Ah (Cp (dMt (rMt K [⟨"list", "list.append", Ch⟩]) (Aa 2) (Ac (Ae A3 (Aa 3) (dC (.int 268435456))) Ai)))
   (Ah (Ap 3 (Ae Co (Aa 3) (dC (.int 268435456))))
   Ag)) (Ah (Cp (dMt (rMt K [⟨"list", "list.append", Ch⟩]) (Aa 2) (Ac (Ae Co (Ae A3 (Ae (Bb K) (Ae (Cr K) (Ae A3 (Ae (Cr K) (Aa 4) (Aa 4)) (dC (.int 2147483629))) (dC (.int 16807))) (Aa 5)) (dC (.int 2147483587))) (dC (.int 8))) Ai)))
   Ag))
  Ag)))
 (Ah (Aw (Aa 2))
 Ag)))))
theorem b79 (K:ae) (t:Adr):wSs 40 (Bg K bd0 (Ab Wc) (Bk K t) bl) (Al Wc)=cm7 K t:=by kernel_rfl
theorem ca5:Am bd0 af6 (Ab Wc):=⟨rfl,rfl,rfl,by decide +kernel,rfl,by decide +kernel,by decide +kernel⟩
theorem cg7:Ay bd0 (Ab Wc)=true:=by decide +kernel
noncomputable def cd0 (K:ae) (t:Adr):DS:=
 (Ah (Ap 2 (dC (.str "abcdefghijklmnopqrstuvwxyz")))
 (Ah (Ap 3 (dMt (rMt K [⟨"str", "str.join", Gq K⟩]) (dC (.str "")) (Ac (Bf [none,some 0,some 2] (Ft (Ac (dC (.int 1)) (Ac (dC (.int 8)) Ai))) (gdN 0) Bw (Ae (Aq K) (Aa 2) (Ae A3 (Ae (Bb K) (Ae Co (Aa 1) (dC (.int 26))) (Ae (Cr K) (Ae (Cr K) (dC (.int 7)) (Aa 0)) (Aa 0))) (dC (.int 26))))) Ai)))
 (Ah (dIf (Az (Ae (Ax K false) (Ae A3 (Aa 0) (dC (.int 4))) (dC (.int 3)))) (Ah (Aw (Ae (Bb K) (Ae (Aq K) (Aa 2) (Ae A3 (Ae (Bb K) (Ae Co (Aa 0) (dC (.int 4))) (Ae Co (Aa 1) (dC (.int 8)))) (dC (.int 26)))) (dSl K (Aa 3) Ce (Dd (Ae A3 (Aa 1) (dC (.int 8)))))))
  Ag) Ag)
 (Ah (Ap 4 (Ae (Bb K) (dC (.int 1)) (Ae A3 (Ae Co (Aa 0) (dC (.int 4))) (dC (.int 8)))))
 (Ah (Ap 5 (Ae A3 (Ae Co (Aa 0) (dC (.int 32))) (Aa 4)))
 (Ah (Ap 6 (dSl K (Ae (Bb K) (Ae (Aq K) (Aa 2) (Ae A3 (Ae Co (Aa 0) (dC (.int 256))) (dC (.int 26)))) (Aa 3)) Ce (Dd (Aa 4))))
 (Ah (Aw (Ae (Bb K) (Ae (Bb K) (dSl K (Aa 6) Ce (Dd (Aa 5))) (Ae (Aq K) (Aa 2) (Ae A3 (Ae (Bb K) (Ae Co (Aa 0) (dC (.int 6656))) (Aa 1)) (dC (.int 26))))) (dSl K (Aa 6) (Dd (Ae (Bb K) (Aa 5) (dC (.int 1)))) Ce)))
 Ag)))))))
theorem bq0 (K:ae) (t:Adr):wSs 40 (Bg K ac5 (Ab Lv) (Bk K t) bl) (Al Lv)=cd0 K t:=by kernel_rfl
theorem bs5:Am ac5 Q4 (Ab Lv):=⟨rfl,rfl,rfl,by decide +kernel,rfl,by decide +kernel,by decide +kernel⟩
theorem bv6:Ay ac5 (Ab Lv)=true:=by decide +kernel
noncomputable def cl9 (K:ae) (t:Adr):DS:=
 (Ah (Ap 1 (dFn (spE (Di K t) []) (Ac (Aa 0) (Ac (dC (.int 0)) Ai))))
 (Ah (Ap 2 (Ae (Aq K) (Bl (Ac (dC (.int 24)) (Ac (dC (.int 256)) Ai))) (dFn (fun vs H Q _=>ap2 vs H Q) (Ac (Ae (Ax K false) (Ae A3 (Ae Co (Aa 1) (dC (.int 5))) (dC (.int 8))) (dC (.int 3))) Ai))))
 (Ah (Ap 3 (Ae (Cr K) (Ae A3 (Ae Co (dFn (spE (Di K t) []) (Ac (Aa 0) (Ac (dC (.int 1)) Ai))) (dC (.int 3))) (dC (.int 2))) (dC (.int 5))))
 (Ah (Ap 4 (Bl Ai))
 (Ah (Ap 5 (dC (.int 1)))
 (Ah (B4 (Bd K (dFn (spE (Yc K t) []) (Ac (Aa 1) (Ac (Ae (Bb K) (dC (.int 1)) (Ae A3 (Aa 1) (dC (.int 5)))) Ai)))) (gdN 6) (Ah (Ap 7 (Ae (Bb K) (dC (.int 2)) (Ae A3 (Aa 6) (dC (.int 3)))))
  (Ah (dIf (Az (Ae Z1 (Ae (Cr K) (Aa 5) (Aa 7)) (Aa 2))) (Ah (Ap 7 (dC (.int 2)))
   Ag) Ag)
  (Ah (dIf (Az (Ae Gz (Ae (Cr K) (Aa 5) (Aa 7)) (Aa 2))) (Ah (Ap 5 (Ae (Cr K) (Aa 5) (Aa 7)))
   (Ah (Ap 8 (Bf [none,some 0,some 3] (Ft (Ac (Aa 7) Ai)) (gdN 0) Bw (dFn (spE (Ja K t) []) (Ac (dFn (spE (Di K t) []) (Ac (Aa 1) (Ac (dC (.int 1)) Ai))) (Ac (Ae (Bb K) (Aa 2) (Aa 0)) Ai)))))
   (Ah (Cp (dMt (rMt K [⟨"list", "list.append", Ch⟩]) (Aa 4) (Ac (Fj (Ac (dFn (spE (Ja K t) []) (Ac (dFn (spE (Di K t) []) (Ac (Aa 0) (Ac (dC (.int 1)) Ai))) (Ac (dFn (fun vs H Q _=>(Ci K) vs H Q) (Ac (Aa 4) Ai)) Ai))) (Ac (Aa 8) Ai))) Ai)))
   Ag))) Ag)
  Ag))))
 (Ah (Aw (Aa 4))
 Ag)))))))
theorem b71 (K:ae) (t:Adr):wSs 40 (Bg K bc2 (Ab V5) (D9 K t) bl) (Al V5)=cl9 K t:=by kernel_rfl
theorem b97:Am bc2 ae8 (Ab V5):=⟨rfl,rfl,rfl,by decide +kernel,rfl,by decide +kernel,by decide +kernel⟩
theorem cf9:Ay bc2 (Ab V5)=true:=by decide +kernel
noncomputable def cm5 (K:ae) (t:Adr):DS:=
 (Ah (Ap 1 (Bl (Ac (Bl Ai) Ai)))
 (Ah (B4 (Bd K (Aa 0)) (gdT K 2 [(gdN 2),(gdN 3)]) (Ah (Ap 4 (Bl Ai))
  (Ah (B4 (Bd K (Aa 1)) (gdN 5) (Ah (Cp (dMt (rMt K [⟨"list", "list.extend", D4⟩]) (Aa 4) (Ac (Bf [none,some 5] (Ft (Ac (dFn (fun vs H Q _=>(Ci K) vs H Q) (Ac (Aa 3) Ai)) Ai)) (gdN 0) Bw (Ae (Bb K) (Aa 1) (Bl (Ac (Aa 0) Ai)))) Ai)))
   Ag))
  (Ah (Ap 1 (Aa 4))
  Ag))))
 (Ah (Aw (Aa 1))
 Ag)))
theorem b77 (K:ae) (t:Adr):wSs 40 (Bg K bc8 (Ab Wa) (Bk K t) bl) (Al Wa)=cm5 K t:=by kernel_rfl
theorem ca3:Am bc8 af4 (Ab Wa):=⟨rfl,rfl,rfl,by decide +kernel,rfl,by decide +kernel,by decide +kernel⟩
theorem cg5:Ay bc8 (Ab Wa)=true:=by decide +kernel
noncomputable def cd2 (K:ae) (t:Adr):DS:=
 (Ah (Ap 1 (dC (.int 0)))
 (Ah (B4 (Bd K (Aa 0)) (gdN 2) (Ah (Ap 1 (Ae ap4 (Aa 1) (Aa 2)))
  Ag))
 (Ah (Aw (Aa 1))
 Ag)))
theorem bq2 (K:ae) (t:Adr):wSs 40 (Bg K ac7 (Ab Lx) (Bk K t) bl) (Al Lx)=cd2 K t:=by kernel_rfl
theorem bs7:Am ac7 Q6 (Ab Lx):=⟨rfl,rfl,rfl,by decide +kernel,rfl,by decide +kernel,by decide +kernel⟩
theorem bv8:Ay ac7 (Ab Lx)=true:=by decide +kernel
noncomputable def cm2 (K:ae) (t:Adr):DS:=
 (Ah (Aw (dFn (fun vs H Q _=>(Ci K) vs H Q) (Ac (dUn (Dw K "tuples") (Aa 0)) Ai)))
 Ag)
theorem b74 (K:ae) (t:Adr):wSs 40 (Bg K bc5 (Ab V7) (Bk K t) bl) (Al V7)=cm2 K t:=by kernel_rfl
theorem ca0:Am bc5 af1 (Ab V7):=⟨rfl,rfl,rfl,by decide +kernel,rfl,by decide +kernel,by decide +kernel⟩
theorem cg2:Ay bc5 (Ab V7)=true:=by decide +kernel
noncomputable def ck9 (K:ae) (t:Adr):DS:=
 (Ah (Aw (Ae X6 (Ae Jp (dC (.int 1)) (Ha "many" 0 (Ps K t) (Aa 0) Ai)) (dC (.int 1))))
 Ag)
theorem b59 (K:ae) (t:Adr):wSs 40 (Bg K bb0 (Ab Vt) (D9 K t) bl) (Al Vt)=ck9 K t:=by kernel_rfl
theorem b85:Am bb0 ad8 (Ab Vt):=⟨rfl,rfl,rfl,by decide +kernel,rfl,by decide +kernel,by decide +kernel⟩
theorem ce7:Ay bb0 (Ab Vt)=true:=by decide +kernel
noncomputable def cm4 (K:ae) (t:Adr):DS:=
 (Ah (Aw (Ng K (dFn (fun vs H Q _=>(Gn K) vs H Q) (Ac (Aa 0) (Ac (dC (.ty "str")) Ai))) (Ep Gz Gz (Aa 1) (dFn (fun vs H Q _=>(Ci K) vs H Q) (Ac (Aa 0) Ai)) (Aa 2))))
 Ag)
theorem b76 (K:ae) (t:Adr):wSs 40 (Bg K bc7 (Ab V9) (Bk K t) bl) (Al V9)=cm4 K t:=by kernel_rfl
theorem ca2:Am bc7 af3 (Ab V9):=⟨rfl,rfl,rfl,by decide +kernel,rfl,by decide +kernel,by decide +kernel⟩
theorem cg4:Ay bc7 (Ab V9)=true:=by decide +kernel
noncomputable def ce0 (K:ae) (t:Adr):DS:=
 (Ah (Aw (Ep Gz Gz (dC (.str "a")) (Aa 0) (dC (.str "z"))))
 Ag)
theorem b82 (K:ae) (t:Adr):wSs 40 (Bg K bd3 (Ab Wf) (Bk K t) bl) (Al Wf)=ce0 K t:=by kernel_rfl
theorem ca8:Am bd3 af9 (Ab Wf):=⟨rfl,rfl,rfl,by decide +kernel,rfl,by decide +kernel,by decide +kernel⟩
theorem ch0:Ay bd3 (Ab Wf)=true:=by decide +kernel
noncomputable def cd3 (K:ae) (t:Adr):DS:=
 (Ah (Aw (Ng K (dFn (spE (ar8 K t) []) (Ac (Aa 0) (Ac (dC (.int 1)) (Ac (dC (.int 8)) Ai)))) (dFn (fun vs H Q _=>(Vo K) vs H Q) (Ac (Bf [none] (Bd K (Aa 0)) (gdN 0) Bw (dFn (spE (as2 K t) []) (Ac (Aa 0) Ai))) Ai))))
 Ag)
theorem bq4 (K:ae) (t:Adr):wSs 40 (Bg K ac9 (Ab Lz) (D9 K t) bl) (Al Lz)=cd3 K t:=by kernel_rfl
theorem bs9:Am ac9 Q7 (Ab Lz):=⟨rfl,rfl,rfl,by decide +kernel,rfl,by decide +kernel,by decide +kernel⟩
theorem bw0:Ay ac9 (Ab Lz)=true:=by decide +kernel
noncomputable def cl1 (K:ae) (t:Adr):DS:=
 (Ah (dIf (dOr (D6 (Dy K (dFn (fun vs H Q _=>(Gn K) vs H Q) (Ac (Aa 0) (Ac (dC (.ty "list")) Ai))))) (D6 (Dy K (dFn (fun vs H Q _=>(Vo K) vs H Q) (Ac (Bf [none] (Bd K (Aa 0)) (gdN 0) Bw (dFn (spE (Qi K t) []) (Ac (Aa 0) Ai))) Ai))))) (Ah (Aw (dC (.bl false)))
  Ag) Ag)
 (Ah (Aw (Ae (Ax K false) (dUn (J6 K) (Aa 0)) (dFn (fun vs H Q _=>(Ci K) vs H Q) (Ac (Aa 0) Ai))))
 Ag))
theorem b61 (K:ae) (t:Adr):wSs 40 (Bg K bb2 (Ab Vv) (Y7 K t) bl) (Al Vv)=cl1 K t:=by kernel_rfl
theorem b87:Am bb2 ae0 (Ab Vv):=⟨rfl,rfl,rfl,by decide +kernel,rfl,by decide +kernel,by decide +kernel⟩
theorem ce9:Ay bb2 (Ab Vv)=true:=by decide +kernel
noncomputable def cm3 (K:ae) (t:Adr):DS:=
 (Ah (dIf (dOr (D6 (Dy K (dFn (fun vs H Q _=>(Gn K) vs H Q) (Ac (Aa 1) (Ac (dC (.ty "str")) Ai))))) (Az (Ae (Vq K true) (Aa 1) (dUn (Dw K "sets") (Aa 0))))) (Ah Bo
  Ag) Ag)
 (Ah (dIf (dOr (D6 (Dy K (dFn (spE (Yb K t) []) (Ac (Aa 2) Ai)))) (Az (Ae (Ax K false) (Aa 2) (Bl Ai)))) (Ah Bo
  Ag) Ag)
 (Ah (dIf (D6 (Dy K (dFn (fun vs H Q _=>(Vo K) vs H Q) (Ac (Bf [none,some 0,some 1] (Bd K (Aa 2)) (gdN 0) Bw (Ae (Vq K false) (Aa 0) (Ae (Aq K) (dUn (Dw K "sets") (Aa 1)) (Aa 2)))) Ai)))) (Ah Bo
  Ag) Ag)
 (Ah (Aw (dFn (spE (Qh K t) []) (Ac (Bf [none,some 0,some 1] (Bd K (Aa 2)) (gdN 0) Bw (Ae (Aq K) (Ae (Aq K) (dUn (Dw K "sets") (Aa 1)) (Aa 2)) (Aa 0))) Ai)))
 Ag))))
theorem b75 (K:ae) (t:Adr):wSs 40 (Bg K bc6 (Ab V8) (Y8 K t) bl) (Al V8)=cm3 K t:=by kernel_rfl
theorem ca1:Am bc6 af2 (Ab V8):=⟨rfl,rfl,rfl,by decide +kernel,rfl,by decide +kernel,by decide +kernel⟩
theorem cg3:Ay bc6 (Ab V8)=true:=by decide +kernel
noncomputable def cm9 (K:ae) (t:Adr):DS:=
 (Ah (dIf (D6 (Dy K (dFn (fun vs H Q _=>(Gn K) vs H Q) (Ac (Aa 1) (Ac (dC (.ty "dict")) Ai))))) (Ah Bo
  Ag) Ag)
 (Ah (Ap 2 (Ha "all_choices" 0 (C4 K t) (Aa 0) Ai))
 (Ah (B4 (Bd K (Aa 1)) (gdN 3) (Ah (Ap 2 (Ae B0 (Aa 2) (Ha "term" 2 (Pt K t) (Aa 0) (Ac (Aa 3) (Ac (Ae (Aq K) (Aa 1) (Aa 3)) Ai)))))
  Ag))
 (Ah (Aw (Aa 2))
 Ag))))
theorem b81 (K:ae) (t:Adr):wSs 40 (Bg K bd2 (Ab We) (Y9 K t) bl) (Al We)=cm9 K t:=by kernel_rfl
theorem ca7:Am bd2 af8 (Ab We):=⟨rfl,rfl,rfl,by decide +kernel,rfl,by decide +kernel,by decide +kernel⟩
theorem cg9:Ay bd2 (Ab We)=true:=by decide +kernel
noncomputable def cm0 (K:ae) (t:Adr):DS:=
 (Ah (Ap 1 Jf)
 (Ah (B4 (Bd K (Aa 0)) (gdN 2) (Ah (Mx (dFn (fun vs H Q _=>(Lb K true) vs H Q) (Ac (Ae (Aq K) (Aa 0) (Aa 2)) Ai)) (Fe K (Aa 1) (Aa 2)))
  Ag))
 (Ah (Aw (Aa 1))
 Ag)))
theorem b72 (K:ae) (t:Adr):wSs 40 (Bg K bc3 (Ab V6) (Bk K t) bl) (Al V6)=cm0 K t:=by kernel_rfl
theorem b98:Am bc3 ae9 (Ab V6):=⟨rfl,rfl,rfl,by decide +kernel,rfl,by decide +kernel,by decide +kernel⟩
theorem cg0:Ay bc3 (Ab V6)=true:=by decide +kernel
noncomputable def cl3 (K:ae) (t:Adr):DS:=
 (Ah (dIf (dOr (D6 (Dy K (dFn (fun vs H Q _=>(Gn K) vs H Q) (Ac (Aa 1) (Ac (dC (.ty "dict")) Ai))))) (Az (Ae (Ax K false) (dFn (fun vs H Q _=>(Ci K) vs H Q) (Ac (Aa 1) Ai)) (dC (.int 0))))) (Ah Bo
  Ag) Ag)
 (Ah (ah6 (Ah (Cp (Ha "box" 1 (Pr K t) (Aa 0) (Ac (Aa 1) Ai)))
  Ag))
 (Ah (Aw (dFn (spE (ar6 K t) []) (Ac (Aa 1) Ai)))
 Ag)))
theorem b63 (K:ae) (t:Adr):wSs 40 (Bg K bb4 (Ab Vx) (ax1 K t) bl) (Al Vx)=cl3 K t:=by kernel_rfl
theorem b89:Am bb4 ae2 (Ab Vx):=⟨rfl,rfl,rfl,by decide +kernel,rfl,by decide +kernel,by decide +kernel⟩
theorem cf1:Ay bb4 (Ab Vx)=true:=by decide +kernel
noncomputable def cl0 (K:ae) (t:Adr):DS:=
 (Ah (dIf (Az (Ae (a34 false) (Aa 1) (dC .non))) (Ah (Aw (Bl Ai))
  Ag) Ag)
 (Ah (dIf (dOr (D6 (Dy K (dFn (fun vs H Q _=>(Gn K) vs H Q) (Ac (Aa 1) (Ac (dC (.ty "list")) Ai))))) (Az (Ae Z1 (dFn (fun vs H Q _=>(Ci K) vs H Q) (Ac (Aa 1) Ai)) (dC (.int 8))))) (Ah Bo
  Ag) Ag)
 (Ah (Aw (Bf [none,some 0] (Bd K (Aa 1)) (gdN 0) Bw (Ha "read_rule" 1 (E8 K t) (Aa 1) (Ac (Aa 0) Ai))))
 Ag)))
theorem b60 (K:ae) (t:Adr):wSs 40 (Bg K bb1 (Ab Vu) (ax2 K t) bl) (Al Vu)=cl0 K t:=by kernel_rfl
theorem b86:Am bb1 ad9 (Ab Vu):=⟨rfl,rfl,rfl,by decide +kernel,rfl,by decide +kernel,by decide +kernel⟩
theorem ce8:Ay bb1 (Ab Vu)=true:=by decide +kernel
noncomputable def cb8 (K:ae) (t:Adr):DS:=
 (Ah (dIf (dOr (D6 (Dy K (dFn (fun vs H Q _=>(Gn K) vs H Q) (Ac (Aa 0) (Ac (dC (.ty "tuple")) Ai))))) (dOr (Az (Ae (Ax K true) (dFn (fun vs H Q _=>(Ci K) vs H Q) (Ac (Aa 0) Ai)) (dC (.int 2)))) (D6 (Dy K (dFn (spE (Qi K t) []) (Ac (Ae (Aq K) (Aa 0) (dC (.int 0))) Ai)))))) (Ah (Aw (dC (.bl false)))
  Ag) Ag)
 (Ah (Aw (Ng K (dFn (spE (Yb K t) []) (Ac (Ae (Aq K) (Aa 0) (dC (.int 1))) Ai)) (Ep Gz Gz (dC (.int 2)) (dFn (fun vs H Q _=>(Ci K) vs H Q) (Ac (Ae (Aq K) (Aa 0) (dC (.int 1))) Ai)) (dC (.int 4)))))
 Ag))
theorem bo7 (K:ae) (t:Adr):wSs 40 (Bg K ab2 (Ab Lg) (Y8 K t) bl) (Al Lg)=cb8 K t:=by kernel_rfl
theorem br2:Am ab2 Qq (Ab Lg):=⟨rfl,rfl,rfl,by decide +kernel,rfl,by decide +kernel,by decide +kernel⟩
theorem bu3:Ay ab2 (Ab Lg)=true:=by decide +kernel
noncomputable def cl6 (K:ae) (t:Adr):DS:=
 (Ah (dIf (dOr (D6 (Dy K (dFn (fun vs H Q _=>(Gn K) vs H Q) (Ac (Aa 0) (Ac (dC (.ty "list")) Ai))))) (D6 (Az (Ep Gz Gz (dC (.int 1)) (dFn (fun vs H Q _=>(Ci K) vs H Q) (Ac (Aa 0) Ai)) (dC (.int 5)))))) (Ah Bo
  Ag) Ag)
 (Ah (Ap 1 Jf)
 (Ah (Ap 2 (dC (.int 1)))
 (Ah (B4 (Bd K (Aa 0)) (gdN 3) (Ah (dIf (dOr (D6 (Dy K (dFn (spE (Wj K t) []) (Ac (Aa 3) Ai)))) (Az (Ae (Vq K false) (Ae (Aq K) (Aa 3) (dC (.int 0))) (Aa 1)))) (Ah Bo
   Ag) Ag)
  (Ah (Mx (dFn (fun vs H Q _=>(F0 K) vs H Q) (Ac (Ae (Aq K) (Aa 3) (dC (.int 1))) Ai)) (Fe K (Aa 1) (Ae (Aq K) (Aa 3) (dC (.int 0)))))
  (Ah (Ap 2 (Ae (Cr K) (Aa 2) (dFn (fun vs H Q _=>(Ci K) vs H Q) (Ac (Ae (Aq K) (Aa 3) (dC (.int 1))) Ai))))
  Ag))))
 (Ah (dIf (Az (Ae Z1 (Aa 2) (dC (.int 256)))) (Ah Bo
  Ag) Ag)
 (Ah (Aw (Aa 1))
 Ag))))))
theorem b68 (K:ae) (t:Adr):wSs 40 (Bg K bb9 (Ab V2) (Y9 K t) bl) (Al V2)=cl6 K t:=by kernel_rfl
theorem b94:Am bb9 ae5 (Ab V2):=⟨rfl,rfl,rfl,by decide +kernel,rfl,by decide +kernel,by decide +kernel⟩
theorem cf6:Ay bb9 (Ab V2)=true:=by decide +kernel
noncomputable def ck8 (K:ae) (t:Adr):DS:=
 (Ah (Ap 1 (Bl (Ac (Fj Ai) Ai)))
 (Ah (B4 (Bd K (Aa 0)) (gdN 2) (Ah (Ap 3 (Bl Ai))
  (Ah (B4 (Bd K (Aa 1)) (gdN 4) (Ah (Cp (dMt (rMt K [⟨"list", "list.extend", D4⟩]) (Aa 3) (Ac (Bf [none,some 4] (Bd K (Ae (Aq K) (Aa 0) (Aa 2))) (gdN 0) Bw (Ae (Bb K) (Aa 1) (Fj (Ac (Aa 0) Ai)))) Ai)))
   Ag))
  (Ah (Ap 1 (Aa 3))
  Ag))))
 (Ah (Aw (Aa 1))
 Ag)))
theorem b58 (K:ae) (t:Adr):wSs 40 (Bg K ba9 (Ab Vs) (Bk K t) bl) (Al Vs)=ck8 K t:=by kernel_rfl
theorem b84:Am ba9 ad7 (Ab Vs):=⟨rfl,rfl,rfl,by decide +kernel,rfl,by decide +kernel,by decide +kernel⟩
theorem ce6:Ay ba9 (Ab Vs)=true:=by decide +kernel
noncomputable def ck7 (K:ae) (t:Adr):DS:=
 (Ah (Ap 1 Jf)
 (Ah (B4 (iEn K (Ac (Aa 0) Ai)) (gdT K 2 [(gdN 2),(gdN 3)]) (Ah (Mx (Aa 2) (Fe K (Aa 1) (Aa 3)))
  Ag))
 (Ah (Aw (Aa 1))
 Ag)))
theorem b57 (K:ae) (t:Adr):wSs 40 (Bg K ba8 (Ab Vr) (Bk K t) bl) (Al Vr)=ck7 K t:=by kernel_rfl
theorem b83:Am ba8 ad6 (Ab Vr):=⟨rfl,rfl,rfl,by decide +kernel,rfl,by decide +kernel,by decide +kernel⟩
theorem ce5:Ay ba8 (Ab Vr)=true:=by decide +kernel
noncomputable def cd6 (K:ae) (t:Adr):DS:=
 (Ah (Ap 1 (dC (.int 0)))
 (Ah (B4 (Bd K (Aa 0)) (gdN 2) (Ah (Ap 1 (Ae ap4 (Aa 1) (Ae Jp (dC (.int 1)) (Aa 2))))
  Ag))
 (Ah (Aw (Aa 1))
 Ag)))
theorem bq7 (K:ae) (t:Adr):wSs 40 (Bg K ad2 (Ab L9) (Bk K t) bl) (Al L9)=cd6 K t:=by kernel_rfl
theorem bt2:Am ad2 Ra (Ab L9):=⟨rfl,rfl,rfl,by decide +kernel,rfl,by decide +kernel,by decide +kernel⟩
theorem bw3:Ay ad2 (Ab L9)=true:=by decide +kernel
noncomputable def cl2 (K:ae) (t:Adr):DS:=
 (Ah (Ap 2 Jf)
 (Ah (B4 (iEn K (Ac (Aa 0) Ai)) (gdT K 2 [(gdN 3),(gdN 4)]) (Ah (Mx Jf (Fe K (Aa 2) (Aa 4)))
  (Ah (B4 (Bd K (Ae (Aq K) (Aa 0) (Aa 4))) (gdN 5) (Ah (Ap 6 (Bf [none,none,some 3,some 5] (iEn K (Ac (Aa 1) Ai)) (gdT K 2 [(gdN 0),(gdN 1)]) (Az (Ae (Ax K false) (Ae (Aq K) (Aa 1) (Aa 2)) (Aa 3))) (Aa 0)))
   (Ah (Mx (dFn (spE (Wu K t) []) (Ac (Aa 6) Ai)) (Fe K (Ae (Aq K) (Aa 2) (Aa 4)) (Aa 5)))
   Ag)))
  Ag)))
 (Ah (Aw (Aa 2))
 Ag)))
theorem b62 (K:ae) (t:Adr):wSs 40 (Bg K bb3 (Ab Vw) (D9 K t) bl) (Al Vw)=cl2 K t:=by kernel_rfl
theorem b88:Am bb3 ae1 (Ab Vw):=⟨rfl,rfl,rfl,by decide +kernel,rfl,by decide +kernel,by decide +kernel⟩
theorem cf0:Ay bb3 (Ab Vw)=true:=by decide +kernel
noncomputable def cm1 (K:ae) (t:Adr):DS:=
 (Ah (O7 K "settings" (Aa 0) (dFn (spE (ar3 K t) []) (Ac (Aa 1) Ai)))
 (Ah (O7 K "tuples" (Aa 0) (dFn (spE (ar0 K t) []) (Ac (dUn (Dw K "settings") (Aa 0)) Ai)))
 (Ah (O7 K "numbers" (Aa 0) (dFn (spE (aq6 K t) []) (Ac (dUn (Dw K "tuples") (Aa 0)) Ai)))
 (Ah (O7 K "sets" (Aa 0) (dFn (spE (ar1 K t) []) (Ac (dUn (Dw K "settings") (Aa 0)) (Ac (dUn (Dw K "tuples") (Aa 0)) Ai))))
 (Ah (O7 K "kept_rules" (Aa 0) (Ha "read_rules" 1 (Es K t) (Aa 0) (Ac (Aa 2) Ai)))
 (Ah (O7 K "bars" (Aa 0) (Bf [none,some 0] (Bd K (dUn (Dw K "kept_rules") (Aa 0))) (gdN 0) Bw (Ha "box" 1 (Pr K t) (Aa 1) (Ac (Aa 0) Ai))))
 (Ah (O7 K "free" (Aa 0) (Ae B0 (Ha "all_choices" 0 (C4 K t) (Aa 0) Ai) (dUn Oc (dFn (spE (Qh K t) []) (Ac (dUn (Dw K "bars") (Aa 0)) Ai)))))
 (Ah (dIf (Az (Ae (Ax K false) (dUn (Dw K "free") (Aa 0)) (dC (.int 0)))) (Ah Bo
  Ag) Ag)
 Ag))))))))
theorem b73 (K:ae) (t:Adr):wSs 40 (Bg K bc4 (Ab Iz) (ax3 K t) bl) (Al Iz)=cm1 K t:=by kernel_rfl
theorem b99:Am bc4 af0 (Ab Iz):=⟨rfl,rfl,rfl,by decide +kernel,rfl,by decide +kernel,by decide +kernel⟩
theorem cg1:Ay bc4 (Ab Iz)=true:=by decide +kernel
noncomputable def cc0 (K:ae) (t:Adr):DS:=
 (Ah (Ap 2 (Bl Ai))
 (Ah (dIf (Az (Ae (Ax K false) (Ae A3 (dFn (spE (Di K t) []) (Ac (Aa 0) (Ac (dC (.int 2)) Ai))) (dC (.int 3))) (dC (.int 1)))) (Ah (Ap 2 (Bl (Ac (ah4 [((Ae (Aq K) (Ae (Aq K) (Aa 1) (dC (.int 0))) (dC (.int 0))),(Bl (Ac (Ae (Aq K) (Ae (Aq K) (Ae (Aq K) (Aa 1) (dC (.int 0))) (dC (.int 1))) (dC (.int 0))) Ai)))]) Ai)))
  Ag) Ag)
 (Ah (dIf (Az (Ae (Ax K false) (Ae A3 (dFn (spE (Di K t) []) (Ac (Aa 0) (Ac (dC (.int 2)) Ai))) (dC (.int 3))) (dC (.int 2)))) (Ah (Ap 2 (dC .non))
  Ag) Ag)
 (Ah (Aw (dFn (mkC t.c_zbg (some (aj5 K t)) 1) (Ac (Bf [none,none] (Bd K (Aa 1)) (gdT K 2 [(gdN 0),(gdN 1)]) Bw (Fj (Ac (Aa 0) (Ac (dFn (fun vs H Q _=>(Lb K true) vs H Q) (Ac (Aa 1) Ai)) Ai)))) (Ac (Aa 2) Ai))))
 Ag))))
theorem bp0 (K:ae) (t:Adr):wSs 40 (Bg K ab5 (Ab Lk) (ax5 K t) bl) (Al Lk)=cc0 K t:=by kernel_rfl
theorem br5:Am ab5 Qs (Ab Lk):=⟨rfl,rfl,rfl,by decide +kernel,rfl,by decide +kernel,by decide +kernel⟩
theorem bu6:Ay ab5 (Ab Lk)=true:=by decide +kernel
noncomputable def cd4 (K:ae) (t:Adr):DS:=
 (Ah (Ap 3 (dC (.int 0)))
 (Ah (B4 (Ft (Ac (Aa 2) Ai)) (gdN 4) (Ah (Ap 3 (Ae (Bb K) (Ae (Cr K) (dC (.int 4)) (Aa 3)) (Ae (Aq K) (Aa 0) (Ae A3 (Ae (Aq K) (Aa 1) (Aa 4)) (dFn (fun vs H Q _=>(Ci K) vs H Q) (Ac (Aa 0) Ai))))))
  Ag))
 (Ah (Aw (Aa 3))
 Ag)))
theorem bq5 (K:ae) (t:Adr):wSs 40 (Bg K ad0 (Ab L6) (Bk K t) bl) (Al L6)=cd4 K t:=by kernel_rfl
theorem bt0:Am ad0 Q8 (Ab L6):=⟨rfl,rfl,rfl,by decide +kernel,rfl,by decide +kernel,by decide +kernel⟩
theorem bw1:Ay ad0 (Ab L6)=true:=by decide +kernel
noncomputable def cd5 (K:ae) (t:Adr):DS:=
 (Ah (dIf (Mw (Az (Ae (Ax K false) (Ae A3 (Aa 1) (dC (.int 2))) (dC (.int 1)))) (D6 (Az (Ep Gz Gz (dUn Tf (dC (.int 1))) (Ae Dq (Ae Co (Aa 1) (dC (.int 2))) (dFn (fun vs H Q _=>(Ci K) vs H Q) (Ac (Aa 0) Ai))) (dC (.int 0)))))) (Ah (Aw (Ae A3 (Ae Co (Aa 1) (dC (.int 2))) (Ae Jp (dC (.int 1)) (dFn (fun vs H Q _=>(Ci K) vs H Q) (Ac (Aa 0) Ai)))))
  Ag) Ag)
 (Ah (Ap 2 (dFn (spE (Yc K t) []) (Ac (Ae Co (Aa 1) (dC (.int 2))) (Ac (dC (.int 8)) Ai))))
 (Ah (Ap 3 (dC (.int 0)))
 (Ah (B4 (Ft (Ac (dFn (fun vs H Q _=>(Ci K) vs H Q) (Ac (Aa 0) Ai)) Ai)) (gdN 4) (Ah (Ap 5 (Ae (Ax K false) (Ae A3 (Ae A3 (Ae A3 (Ae (Cr K) (Ae (Bb K) (Ae (Aq K) (Aa 2) (dC (.int 4))) (Ae (Cr K) (dC (.int 7919)) (Aa 4))) (dC (.int 48271))) (dC (.int 2147483647))) (dC (.int 1009))) (dC (.int 2))) (dC (.int 1))))
  (Ah (dIf (Az (Ae (Ax K false) (Ae A3 (Ae (Aq K) (Aa 2) (dC (.int 0))) (dC (.int 6))) (dC (.int 1)))) (Ah (Ap 5 (Ae (Ax K false) (Ae B0 (Ae Dq (Ae (Aq K) (Aa 2) (dC (.int 4))) (dFn (spE (Fb K t) []) (Ac (Ae (Aq K) (Aa 0) (Aa 4)) (Ac (dSl K (Aa 2) (Dd (dC (.int 1))) Ce) (Ac (dC (.int 1)) Ai))))) (dC (.int 1))) (dC (.int 1))))
   Ag) Ag)
  (Ah (dIf (Az (Ae (Ax K false) (Ae A3 (Ae (Aq K) (Aa 2) (dC (.int 0))) (dC (.int 6))) (dC (.int 2)))) (Ah (Ap 5 (Ae (Ax K false) (Ae B0 (Ae Dq (Ae (Aq K) (Aa 2) (dC (.int 4))) (dFn (spE (Fb K t) []) (Ac (Ae (Aq K) (Aa 0) (Aa 4)) (Ac (dSl K (Aa 2) (Dd (dC (.int 1))) Ce) (Ac (dC (.int 2)) Ai))))) (dC (.int 1))) (dC (.int 1))))
   Ag) Ag)
  (Ah (dIf (Az (Ae (Ax K false) (Ae A3 (Ae (Aq K) (Aa 2) (dC (.int 0))) (dC (.int 6))) (dC (.int 3)))) (Ah (Ap 6 (Ae (Bb K) (Ae (Bb K) (Ae (Cr K) (Ae (Aq K) (Aa 2) (dC (.int 4))) (Ae Tg (dC (.int 2)) (dC (.int 56)))) (Ae (Cr K) (Ae (Aq K) (Aa 2) (dC (.int 5))) (Ae Tg (dC (.int 2)) (dC (.int 28))))) (Ae (Aq K) (Aa 2) (dC (.int 6)))))
   (Ah (Ap 5 (Ae (Ax K false) (Ae B0 (Ae Dq (Aa 6) (dFn (spE (Fb K t) []) (Ac (Ae (Aq K) (Aa 0) (Aa 4)) (Ac (dSl K (Aa 2) (Dd (dC (.int 1))) Ce) (Ac (dC (.int 3)) Ai))))) (dC (.int 1))) (dC (.int 1))))
   Ag)) Ag)
  (Ah (dIf (Az (Ae (Ax K false) (Ae A3 (Ae (Aq K) (Aa 2) (dC (.int 0))) (dC (.int 6))) (dC (.int 4)))) (Ah (Ap 5 (Ae (Ax K false) (Ae (Ax K false) (Aa 4) (Ae A3 (Ae (Aq K) (Aa 2) (dC (.int 4))) (dFn (fun vs H Q _=>(Ci K) vs H Q) (Ac (Aa 0) Ai)))) (Ae (Ax K false) (Ae A3 (Ae (Aq K) (Aa 2) (dC (.int 5))) (dC (.int 2))) (dC (.int 1)))))
   Ag) Ag)
  (Ah (dIf (Mw (Az (Ae (Ax K false) (Ae A3 (Ae (Aq K) (Aa 2) (dC (.int 0))) (dC (.int 6))) (dC (.int 5)))) (Az (Ae Z1 (Ae A3 (Ae (Aq K) (Aa 2) (dC (.int 5))) (dC (.int 3))) (dC (.int 0))))) (Ah (Ap 5 (Ae (Ax K false) (Ae A3 (Ae (Aq K) (Aa 2) (dC (.int 5))) (dC (.int 3))) (dC (.int 1))))
   Ag) Ag)
  (Ah (dIf (Dy K (Aa 5)) (Ah (Ap 3 (Ae ap4 (Aa 3) (Ae Jp (dC (.int 1)) (Aa 4))))
   Ag) Ag)
  Ag))))))))
 (Ah (Aw (Aa 3))
 Ag)))))
theorem bq6 (K:ae) (t:Adr):wSs 40 (Bg K ad1 (Ab L8) (D9 K t) bl) (Al L8)=cd5 K t:=by kernel_rfl
theorem bt1:Am ad1 Q9 (Ab L8):=⟨rfl,rfl,rfl,by decide +kernel,rfl,by decide +kernel,by decide +kernel⟩
theorem bw2:Ay ad1 (Ab L8)=true:=by decide +kernel
noncomputable def cm8 (K:ae) (t:Adr):DS:=
 (Ah (dIf (Az (Ae (Ax K false) (Ae A3 (Aa 1) (dC (.int 2))) (dC (.int 0)))) (Ah (Aw (Ae X6 (Ae Jp (dC (.int 1)) (dFn (fun vs H Q _=>(Ci K) vs H Q) (Ac (Aa 0) Ai))) (dC (.int 1))))
  Ag) Ag)
 (Ah (Aw (dFn (spE (Qj K t) []) (Ac (Aa 0) (Ac (Ae Co (Aa 1) (dC (.int 2))) Ai))))
 Ag))
theorem b80 (K:ae) (t:Adr):wSs 40 (Bg K bd1 (Ab Wd) (Y7 K t) bl) (Al Wd)=cm8 K t:=by kernel_rfl
theorem ca6:Am bd1 af7 (Ab Wd):=⟨rfl,rfl,rfl,by decide +kernel,rfl,by decide +kernel,by decide +kernel⟩
theorem cg8:Ay bd1 (Ab Wd)=true:=by decide +kernel
noncomputable def cc9 (K:ae) (t:Adr):DS:=
 (Ah (Ap 4 Jf)
 (Ah (B4 (Ft (Ac (dFn (fun vs H Q _=>(Ci K) vs H Q) (Ac (Aa 0) Ai)) Ai)) (gdN 5) (Ah (dIf (Mw (Az (Ae (Ax K false) (Ae B0 (Ae Dq (Aa 2) (Aa 5)) (dC (.int 1))) (dC (.int 1)))) (Az (Ae (Ax K false) (Ae B0 (Ae Dq (Aa 1) (Aa 5)) (dC (.int 1))) (dC (.int 0))))) (Ah (Cp (dMt (rMt K [⟨"dict", "dict.setdefault", Lc⟩]) (Aa 4) (Ac (dFn (fun vs H Q _=>(F0 K) vs H Q) (Ac (Bf [none,some 5,some 0] (Bd K (Aa 3)) (gdN 0) Bw (Ae (Aq K) (Ae (Aq K) (Aa 2) (Aa 1)) (Aa 0))) Ai)) (Ac (Aa 5) Ai))))
   Ag) Ag)
  Ag))
 (Ah (B4 (Ft (Ac (dFn (fun vs H Q _=>(Ci K) vs H Q) (Ac (Aa 0) Ai)) Ai)) (gdN 5) (Ah (Ap 6 (dFn (fun vs H Q _=>(F0 K) vs H Q) (Ac (Bf [none,some 5,some 0] (Bd K (Aa 3)) (gdN 0) Bw (Ae (Aq K) (Ae (Aq K) (Aa 2) (Aa 1)) (Aa 0))) Ai)))
  (Ah (dIf (Mw (Az (Ae (Ax K false) (Ae B0 (Ae Dq (Aa 2) (Aa 5)) (dC (.int 1))) (dC (.int 1)))) (Mw (Az (Ae (Ax K false) (Ae B0 (Ae Dq (Aa 1) (Aa 5)) (dC (.int 1))) (dC (.int 1)))) (Az (Ae (Vq K false) (Aa 6) (Aa 4))))) (Ah (Aw (Fj (Ac (Aa 5) (Ac (Ae (Aq K) (Aa 4) (Aa 6)) Ai))))
   Ag) Ag)
  Ag)))
 (Ah (Aw (dC .non))
 Ag))))
theorem bp9 (K:ae) (t:Adr):wSs 40 (Bg K ac4 (Ab Lu) (Bk K t) bl) (Al Lu)=cc9 K t:=by kernel_rfl
theorem bs4:Am ac4 Q3 (Ab Lu):=⟨rfl,rfl,rfl,by decide +kernel,rfl,by decide +kernel,by decide +kernel⟩
theorem bv5:Ay ac4 (Ab Lu)=true:=by decide +kernel
noncomputable def cb9 (K:ae) (t:Adr):DS:=
 (Ah (Ap 1 (Bl Ai))
 (Ah (B4 (Ft (Ac (Ae Jp (dC (.int 1)) (Aa 0)) Ai)) (gdN 2) (Ah (Ap 3 (Bf [none,some 2] (Ft (Ac (Aa 0) Ai)) (gdN 0) (Az (Ae (Ax K false) (Ae B0 (Ae Dq (Aa 1) (Aa 0)) (dC (.int 1))) (dC (.int 1)))) (Aa 0)))
  (Ah (Cp (dMt (rMt K [⟨"list", "list.append", Ch⟩]) (Aa 1) (Ac (Fj (Ac (dFn (fun vs H Q _=>(Ci K) vs H Q) (Ac (Aa 3) Ai)) (Ac (Aa 3) Ai))) Ai)))
  Ag)))
 (Ah (Aw (Bf [none] (Bd K (dFn (fun vs H Q _=>(ap7 K true) vs H Q) (Ac (Aa 1) Ai))) (gdN 0) Bw (Ae (Aq K) (Aa 0) (dC (.int 1)))))
 Ag)))
theorem bo9 (K:ae) (t:Adr):wSs 40 (Bg K ab4 (Ab Lj) (Bk K t) bl) (Al Lj)=cb9 K t:=by kernel_rfl
theorem br4:Am ab4 Qr (Ab Lj):=⟨rfl,rfl,rfl,by decide +kernel,rfl,by decide +kernel,by decide +kernel⟩
theorem bu5:Ay ab4 (Ab Lj)=true:=by decide +kernel
noncomputable def cl8 (K:ae) (t:Adr):DS:=
 (Ah (B4 (Bd K (dFn (spE (Wk K t) []) (Ac (Aa 3) Ai))) (gdN 4) (Ah (dIf (Az (Ae (a34 false) (dFn (spE (Ws K t) []) (Ac (Aa 0) (Ac (Aa 1) (Ac (Aa 2) (Ac (Aa 4) Ai))))) (dC .non))) (Ah (Aw (Aa 4))
   Ag) Ag)
  Ag))
 (Ah (Aw (dC .non))
 Ag))
theorem b70 (K:ae) (t:Adr):wSs 40 (Bg K bc1 (Ab V4) (D9 K t) bl) (Al V4)=cl8 K t:=by kernel_rfl
theorem b96:Am bc1 ae7 (Ab V4):=⟨rfl,rfl,rfl,by decide +kernel,rfl,by decide +kernel,by decide +kernel⟩
theorem cf8:Ay bc1 (Ab V4)=true:=by decide +kernel
noncomputable def cc1 (K:ae) (t:Adr):DS:=
 (Ah (Ap 4 (Bl Ai))
 (Ah (B4 (Ft (Ac (Aa 3) Ai)) (gdN 5) (Ah (Ap 6 (Bf [none,some 2,some 5,some 0] (Bd K (Aa 1)) (gdN 0) (Az (Ae (Ax K false) (Ae (Aq K) (Ae (Aq K) (Aa 3) (Aa 0)) (Aa 1)) (Aa 2))) (Aa 0)))
  (Ah (dIf (Az (Ae (Ax K true) (Aa 6) (Bl Ai))) (Ah (Cp (dMt (rMt K [⟨"list", "list.append", Ch⟩]) (Aa 4) (Ac (Fj (Ac (Aa 5) (Ac (Aa 6) Ai))) Ai)))
   Ag) Ag)
  Ag)))
 (Ah (Aw (Aa 4))
 Ag)))
theorem bp1 (K:ae) (t:Adr):wSs 40 (Bg K ab6 (Ab Ll) (Bk K t) bl) (Al Ll)=cc1 K t:=by kernel_rfl
theorem br6:Am ab6 Qt (Ab Ll):=⟨rfl,rfl,rfl,by decide +kernel,rfl,by decide +kernel,by decide +kernel⟩
theorem bu7:Ay ab6 (Ab Ll)=true:=by decide +kernel
noncomputable def ba2 (K:ae) (t:Adr) (n:Nat):DS:=
 (Ah (Ap 5 (Bf [none,some 2] (Bd K (Aa 3)) (gdN 0) (Az (Ae (Ax K false) (Ae B0 (Ae Dq (Aa 1) (Aa 0)) (dC (.int 1))) (dC (.int 1)))) (Aa 0)))
 (Ah (dIf (Az (Ae (Ax K false) (Aa 5) (Bl Ai))) (Ah (Aw (Bl Ai))
  Ag) Ag)
 (Ah (dIf (Az (Ae (Ax K false) (Aa 5) (Aa 3))) (Ah (Aw (Bl (Ac (Bl Ai) Ai)))
  Ag) Ag)
 (Ah (Mx (Ae (Aq K) (Aa 0) (Ae (Aq K) (Aa 4) (dC (.int 0)))) (gdT K 2 [(gdN 6),(gdN 7)]))
 (Ah (Ap 8 (Bl Ai))
 (Ah (B4 (Bd K (dFn (spE (Wm K t) []) (Ac (Aa 1) (Ac (Aa 3) (Ac (Ae (Aq K) (Aa 4) (dC (.int 0))) (Ac (dFn (fun vs H Q _=>(Ci K) vs H Q) (Ac (Aa 7) Ai)) Ai)))))) (gdT K 2 [(gdN 9),(gdN 10)]) (Ah (Ap 11 (dFn (spE (Hw K t n) []) (Ac (Aa 0) (Ac (Aa 1) (Ac (Aa 2) (Ac (Aa 10) (Ac (dSl K (Aa 4) (Dd (dC (.int 1))) Ce) Ai)))))))
  (Ah (Ap 12 (dFn (fun vs H Q _=>(Ci K) vs H Q) (Ac (Aa 8) Ai)))
  (Ah (B4 (Ft (Ac (dFn (fun vs H Q _=>(Ci K) vs H Q) (Ac (Aa 8) Ai)) Ai)) (gdN 13) (Ah (dIf (Az (Ae (Ax K false) (Ae (Aq K) (Ae (Aq K) (Aa 8) (Aa 13)) (dC (.int 1))) (Aa 11))) (Ah (Ap 12 (Aa 13))
    Ag) Ag)
   Ag))
  (Ah (dIf (Az (Ae (Ax K false) (Aa 12) (dFn (fun vs H Q _=>(Ci K) vs H Q) (Ac (Aa 8) Ai)))) (Ah (Cp (dMt (rMt K [⟨"list", "list.append", Ch⟩]) (Aa 8) (Ac (Bl (Ac (Bl Ai) (Ac (Aa 11) Ai))) Ai)))
   Ag) Ag)
  (Ah (Cp (dMt (rMt K [⟨"list", "list.append", Ch⟩]) (Ae (Aq K) (Ae (Aq K) (Aa 8) (Aa 12)) (dC (.int 0))) (Ac (Ae (Aq K) (Aa 7) (Aa 9)) Ai)))
  Ag))))))
 (Ah (Ap 14 (Bl Ai))
 (Ah (B4 (Bd K (Aa 8)) (gdT K 2 [(gdN 15),(gdN 11)]) (Ah (Ap 16 (Bl (Ac (Fj (Ac (Aa 6) (Ac (dFn (fun vs H Q _=>(F0 K) vs H Q) (Ac (Aa 15) Ai)) Ai))) Ai)))
  (Ah (dIf (Az (Ae (Ax K false) (dFn (fun vs H Q _=>(Ci K) vs H Q) (Ac (Aa 8) Ai)) (dC (.int 1)))) (Ah (Ap 16 (Bl Ai))
   Ag) Ag)
  (Ah (Cp (dMt (rMt K [⟨"list", "list.extend", D4⟩]) (Aa 14) (Ac (Bf [none,some 16] (Bd K (Aa 11)) (gdN 0) Bw (Ae (Bb K) (Aa 1) (Aa 0))) Ai)))
  Ag))))
 (Ah (Aw (Aa 14))
 Ag)))))))))
theorem bo8 (K:ae) (t:Adr) (n:Nat):wSs 40 (Bg K ab3 (Ab Li) (("_law_boxes", .fn ⟨t.f_zab,t.d_zab,Kc,1+n+1,Hw K t n,[],[]⟩)::D9 K t) bl) (Al Li)=ba2 K t n:=by kernel_rfl
theorem br3:Am ab3 Kc (Ab Li):=⟨rfl,rfl,rfl,by decide +kernel,rfl,by decide +kernel,by decide +kernel⟩
theorem bu4:Ay ab3 (Ab Li)=true:=by decide +kernel
noncomputable def cm6 (K:ae) (t:Adr):DS:=
 (Ah (dIf (D6 (Dy K (dFn (fun vs H Q _=>(Gn K) vs H Q) (Ac (Aa 0) (Ac (dC (.ty "list")) Ai))))) (Ah (Aw (dC (.bl false)))
  Ag) Ag)
 (Ah (B4 (Bd K (Aa 0)) (gdN 1) (Ah (dIf (D6 (Dy K (dFn (fun vs H Q _=>(Gn K) vs H Q) (Ac (Aa 1) (Ac (dC (.ty "list")) Ai))))) (Ah (Aw (dC (.bl false)))
   Ag) Ag)
  (Ah (B4 (Bd K (Aa 1)) (gdN 2) (Ah (dIf (dOr (D6 (Dy K (dFn (fun vs H Q _=>(Gn K) vs H Q) (Ac (Aa 2) (Ac (dC (.ty "tuple")) Ai))))) (dOr (Az (Ae (Ax K true) (dFn (fun vs H Q _=>(Ci K) vs H Q) (Ac (Aa 2) Ai)) (dC (.int 2)))) (D6 (Dy K (dFn (fun vs H Q _=>(Gn K) vs H Q) (Ac (Ae (Aq K) (Aa 2) (dC (.int 0))) (Ac (dC (.ty "str")) Ai))))))) (Ah (Aw (dC (.bl false)))
    Ag) Ag)
   (Ah (dIf (D6 (Dy K (dFn (fun vs H Q _=>(Gn K) vs H Q) (Ac (Ae (Aq K) (Aa 2) (dC (.int 1))) (Ac (dC (.ty "tuple")) Ai))))) (Ah (Aw (dC (.bl false)))
    Ag) Ag)
   Ag)))
  Ag)))
 (Ah (Aw (dC (.bl true)))
 Ag)))
theorem b78 (K:ae) (t:Adr):wSs 40 (Bg K bc9 (Ab Wb) (Bk K t) bl) (Al Wb)=cm6 K t:=by kernel_rfl
theorem ca4:Am bc9 af5 (Ab Wb):=⟨rfl,rfl,rfl,by decide +kernel,rfl,by decide +kernel,by decide +kernel⟩
theorem cg6:Ay bc9 (Ab Wb)=true:=by decide +kernel
noncomputable def cc3 (K:ae) (t:Adr):DS:=
 (Ah (Ap 5 (Bf [none,none] (Bd K (Aa 0)) (gdT K 2 [(gdN 0),(gdN 1)]) Bw (Aa 0)))
 (Ah (Ap 6 (dC (.int 0)))
 (Ah (B4 (Bd K (Aa 2)) (gdN 7) (Ah (Ap 8 (dC (.bl true)))
  (Ah (B4 (Bd K (Aa 7)) (gdT K 2 [(gdN 3),(gdN 4)]) (Ah (Ap 9 (dMt (rMt K [⟨"list", "list.index", P7⟩]) (Aa 5) (Ac (Aa 3) Ai)))
   (Ah (Ap 8 (Ng K (Aa 8) (Ae (Vq K false) (Ae (Aq K) (Ae (Aq K) (Ae (Aq K) (Aa 0) (Aa 9)) (dC (.int 1))) (Ae (Aq K) (Aa 1) (Aa 9))) (Aa 4))))
   Ag)))
  (Ah (Ap 6 (Ae (Bb K) (Aa 6) (dFn (fun vs H Q _=>ap2 vs H Q) (Ac (Aa 8) Ai))))
  Ag))))
 (Ah (Aw (Aa 6))
 Ag))))
theorem bp3 (K:ae) (t:Adr):wSs 40 (Bg K ab8 (Ab Ln) (Bk K t) bl) (Al Ln)=cc3 K t:=by kernel_rfl
theorem br8:Am ab8 Qv (Ab Ln):=⟨rfl,rfl,rfl,by decide +kernel,rfl,by decide +kernel,by decide +kernel⟩
theorem bu9:Ay ab8 (Ab Ln)=true:=by decide +kernel
noncomputable def cc2 (K:ae) (t:Adr):DS:=
 (Ah (dIf (Az (Ae (Ax K false) (Aa 0) (Bl Ai))) (Ah (Aw (dC (.str "-")))
  Ag) Ag)
 (Ah (dIf (Az (Ae (Ax K false) (Aa 0) (Bl (Ac (Bl Ai) Ai)))) (Ah (Aw (dC (.str "*")))
  Ag) Ag)
 (Ah (Aw (dMt (rMt K [⟨"str", "str.join", Gq K⟩]) (dC (.str "|")) (Ac (Bf [none] (Bd K (Aa 0)) (gdN 0) Bw (dMt (rMt K [⟨"str", "str.join", Gq K⟩]) (dC (.str "&")) (Ac (Bf [none,none] (Bd K (Aa 0)) (gdT K 2 [(gdN 0),(gdN 1)]) Bw (Ae (Bb K) (Ae (Bb K) (Aa 0) (dC (.str "="))) (dMt (rMt K [⟨"str", "str.join", Gq K⟩]) (dC (.str ",")) (Ac (Aa 1) Ai)))) Ai))) Ai)))
 Ag)))
theorem bp2 (K:ae) (t:Adr):wSs 40 (Bg K ab7 (Ab Lm) (Bk K t) bl) (Al Lm)=cc2 K t:=by kernel_rfl
theorem br7:Am ab7 Qu (Ab Lm):=⟨rfl,rfl,rfl,by decide +kernel,rfl,by decide +kernel,by decide +kernel⟩
theorem bu8:Ay ab7 (Ab Lm)=true:=by decide +kernel
noncomputable def cd7 (K:ae) (t:Adr):DS:=
 (Ah (Ap 1 (dFn (spE (ar5 K t) []) (Ac (Aa 0) Ai)))
 (Ah (Ap 2 (dFn (spE (ar9 K t) []) (Ac (Aa 1) Ai)))
 (Ah (Ap 3 (dFn (spE (Wl K t) []) (Ac (Aa 0) (Ac (Aa 1) Ai))))
 (Ah (Ap 4 (dFn (spE (Qj K t) []) (Ac (Aa 2) (Ac (dFn (spE (Di K t) []) (Ac (Aa 0) (Ac (dC (.int 3)) Ai))) Ai))))
 (Ah (Ap 5 (dFn (spE (as1 K t) []) (Ac (Aa 2) (Ac (dFn (spE (Di K t) []) (Ac (Aa 0) (Ac (dC (.int 4)) Ai))) Ai))))
 (Ah (Ap 7 (Bf [none,some 5] (Ft (Ac (dFn (fun vs H Q _=>(Ci K) vs H Q) (Ac (Aa 2) Ai)) Ai)) (gdN 0) (Az (Ae (Ax K false) (Ae B0 (Ae Dq (Aa 1) (Aa 0)) (dC (.int 1))) (dC (.int 1)))) (Aa 0)))
 (Ah (Ap 8 (dFn (spE (ar4 K t) []) (Ac (Aa 2) (Ac (Aa 4) (Ac (Aa 5) (Ac (dFn (fun vs H Q _=>(Ci K) vs H Q) (Ac (Aa 1) Ai)) Ai))))))
 (Ah (Ap 9 (dFn (spE (aq7 K t) []) (Ac (Aa 1) (Ac (Aa 2) (Ac (Aa 4) (Ac (Aa 7) (Ac (Aa 8) Ai)))))))
 (Ah (Ap 10 (dFn (spE (Me K t) []) (Ac (Aa 3) (Ac (Aa 4) (Ac (Aa 5) Ai)))))
 (Ah (dIf (dOr (D6 (Dy K (dFn (spE (as0 K t) []) (Ac (Aa 10) Ai)))) (Az (Ae (Ax K true) (Aa 10) (Aa 9)))) (Ah (Aw (dC (.bl false)))
  Ag) Ag)
 (Ah (B4 (Bd K (Aa 7)) (gdN 6) (Ah (dIf (Az (Ae (Ax K true) (dFn (spE (Wo K t) []) (Ac (Aa 1) (Ac (Ae (Aq K) (Aa 2) (Aa 6)) (Ac (Aa 10) Ai)))) (Ae B0 (Ae Dq (Aa 4) (Aa 6)) (dC (.int 1))))) (Ah (Aw (dC (.bl false)))
   Ag) Ag)
  Ag))
 (Ah (dIf (Az (Ae (Ax K true) (dFn (spE (Wp K t) []) (Ac (Aa 3) (Ac (Aa 4) (Ac (Aa 5) Ai)))) (dFn (spE (Wn K t) []) (Ac (Aa 9) Ai)))) (Ah (Aw (dC (.bl false)))
  Ag) Ag)
 (Ah (B4 (Bd K (Aa 10)) (gdN 11) (Ah (Cp (dMt (rMt K [⟨"list", "list.append", Ch⟩]) (Aa 11) (Ac (Fj (Ac (dC (.str "zz")) (Ac (Fj (Ac (dC (.str "zz")) Ai)) Ai))) Ai)))
  Ag))
 (Ah (Cp (dMt (rMt K [⟨"list", "list.clear", Vp⟩,⟨"dict", "dict.clear", J5⟩]) (Aa 10) Ai))
 (Ah (Aw (Ae (Ax K false) (dFn (spE (Me K t) []) (Ac (Aa 3) (Ac (Aa 4) (Ac (Aa 5) Ai)))) (Aa 9)))
 Ag)))))))))))))))
theorem bq9 (K:ae) (t:Adr):wSs 40 (Bg K ad4 (Ab E1) (ai8 K t) bl) (Al E1)=cd7 K t:=by kernel_rfl
theorem bt4:Am ad4 Rb (Ab E1):=⟨rfl,rfl,rfl,by decide +kernel,rfl,by decide +kernel,by decide +kernel⟩
theorem bw5:Ay ad4 (Ab E1)=true:=by decide +kernel
end K15
namespace K15
open PySem L2 Pn
section
variable {P:aW} {w:bE} {K:ae} {mg:Str->Option Value} {base:Heap} {t:Adr}
theorem bi0 {f:Addr} {fd:aB} (Z:A0 K t) (F:FunD K "union_of" "union_of" Lx f fd .none) (T:Tab P w K mg base 0 (Bk K t) bl):FnOk P w K mg base CX0 1 f fd Q6 (Qh K t):=by
 refine F.okW0 bs7 bv8 T (bq2 K t) (fun vs H Q E h=>?_) (fun vs H Q E h=>?_)
 ·obtain⟨a,ms,rfl,_⟩:=h;rfl
 ·obtain⟨a,ms,rfl,hS,k⟩:=h
  refine .inl ⟨⟨_,hS⟩,?_⟩
  refine A5 (As (ms.map V.int)) (fun i σ H'=>(∃ v2,σ=[some (.ref a),some (.int (G1 (ms.take i))),v2])/\H'=H) ⟨⟨_,rfl⟩,rfl⟩ (fun i σ H' _ q=>q.2▸hS) ?_ ?_
  ·rintro i x σ H' hx ⟨⟨v2,rfl⟩,rfl⟩
   obtain⟨m,hm,rfl⟩:=Ao hx
   have e:G1 (ms.take (i+1))=cD (G1 (ms.take i)) m:=Ck hm _ _
   exact⟨⟨_,congrArg (fun z=>[some (V.ref a),some (V.int z),some (V.int m)]) e.symm⟩,rfl⟩
  ·rintro σ H' ⟨⟨v2,rfl⟩,rfl⟩
   rw [ac,aL]
   exact .inl k
theorem bi5 {f:Addr} {fd:aB} (Z:A0 K t) (F:FunD K "set_of" "set_of" L9 f fd .none) (T:Tab P w K mg base 0 (Bk K t) bl):FnOk P w K mg base CX0 1 f fd Ra (Wu K t):=by
 refine F.okW0 bt2 bw3 T (bq7 K t) (fun vs H Q E h=>?_) (fun vs H Q E h=>?_)
 ·obtain⟨a,ms,rfl,_⟩:=h;rfl
 ·obtain⟨a,ms,rfl,hS,hb,k⟩:=h
  refine .inl ⟨⟨_,hS⟩,?_⟩
  refine A5 (As (ms.map fun n:Nat=>V.int (n:Int))) (fun i σ H'=>(∃ v2,σ=[some (.ref a),some (.int (Z6 (ms.take i))),v2])/\H'=H) ⟨⟨_,rfl⟩,rfl⟩ (fun i σ H' _ q=>q.2▸hS) ?_ ?_
  ·rintro i x σ H' hx ⟨⟨v2,rfl⟩,rfl⟩
   obtain⟨m,hm,rfl⟩:=Ao hx
   have e:Z6 (ms.take (i+1))=cD (Z6 (ms.take i)) (1 * 2 ^ ((m:Int)).toNat):=by
    rw [fU,aG]
    exact Ck hm _ _
   have hm2:=hb m (af hm)
   refine⟨⟨by omega,by omega,by decide⟩,?_⟩
   exact⟨⟨_,congrArg (fun z=>[some (V.ref a),some (V.int z),some (V.int (m:Int))]) e.symm⟩,rfl⟩
  ·rintro σ H' ⟨⟨v2,rfl⟩,rfl⟩
   rw [ac,aL]
   exact .inl k
theorem b24 {f:Addr} {fd:aB} (Z:A0 K t) (F:FunD K "many" "Panel.many" V7 f fd .none) (T:Tab P w K mg base 0 (Bk K t) bl):FnOk P w K mg base CX0 1 f fd af1 (a98 K t):=by
 refine F.okW0 ca0 cg2 T (b74 K t) (fun vs H Q E h=>?_) (fun vs H Q E h=>?_)
 ·obtain⟨p,l,s,sw,rfl,_⟩:=h;rfl
 ·obtain⟨p,l,s,sw,rfl,⟨dx,fs,⟨_,hp⟩,hl,hs,hm⟩,⟨ds,e,⟨_,o⟩,_⟩,k⟩:=h
  refine iP ⟨_,_,_,_,hp,Z.pf.cl,(Z.pf.na _ (by simp)),hl,(.inl ⟨_,.inl (SqL.of o),?_⟩)⟩
  have el:(ds.map fun x=>V.ref x.2).length=(Af sw).length:=by rw [<- e];simp
  rw [el]
  exact k
theorem b07 {f:Addr} {fd:aB} (Z:A0 K t) (F:FunD K "all_choices" "Panel.all_choices" Vt f fd .none) (T:Tab P w K mg base 1 (D9 K t) bl):FnOk P w K mg base CX0 2 f fd ad8 (a92 K t):=by
 refine F.okW0 b85 ce7 T (b59 K t) (fun vs H Q E h=>?_) (fun vs H Q E h=>?_)
 ·obtain⟨p,l,s,sw,rfl,_⟩:=h;rfl
 ·obtain⟨p,l,s,sw,rfl,hs,ht,hn,k⟩:=h
  obtain⟨dx,fs,⟨_,hp⟩,_,_,hm⟩:=id hs
  refine⟨p,dx,fs,⟨t.c_zbg,bf3 K t⟩,rfl,.head _,hp,hm _ (by decide),⟨aC rfl,aC rfl⟩,?_⟩
  refine⟨p,l,s,sw,rfl,hs,ht,⟨by omega,by omega,by decide⟩,?_⟩
  have e:1 * 2 ^ (((Af sw).length:Int)).toNat - 1=On sw:=by rw [fU,aG];rfl
  show Q (.int (1 * 2 ^ (((Af sw).length:Int)).toNat - 1)) H
  rw [e]
  exact k
theorem b26 {f:Addr} {fd:aB} (Z:A0 K t) (F:FunD K "has_length" "has_length" V9 f fd .none) (T:Tab P w K mg base 0 (Bk K t) bl):FnOk P w K mg base CX0 1 f fd af3 (ar8 K t):=by
 refine F.okW0 ca2 cg4 T (b76 K t) (fun vs H Q E h=>?_) (fun vs H Q E h=>?_)
 ·obtain⟨z,lo,hi,rfl,_⟩:=h;rfl
 ·obtain⟨z,lo,hi,rfl,hz,k⟩:=h
  exact⟨rfl,ax hz (by decide),Na k⟩
theorem b32 {f:Addr} {fd:aB} (Z:A0 K t) (F:FunD K "is_letter" "is_letter" Wf f fd .none) (T:Tab P w K mg base 0 (Bk K t) bl):FnOk P w K mg base CX0 1 f fd af9 (as2 K t):=by
 refine F.okW0 ca8 ch0 T (b82 K t) (fun vs H Q E h=>?_) (fun vs H Q E h=>?_)
 ·obtain⟨x,rfl,_⟩:=h;rfl
 ·obtain⟨c,rfl,k⟩:=h
  dsimp only [ce0,Ah,Aw]
  exact av8 (s1 := "a") (s2 := "z") (c:=c) (i:=0) (a:=97) (b:=122) (by decide +kernel) (by decide +kernel) (by rfl) k
theorem bi2 {f:Addr} {fd:aB} (Z:A0 K t) (F:FunD K "is_word" "is_word" Lz f fd .none) (T:Tab P w K mg base 1 (D9 K t) bl):FnOk P w K mg base CX0 2 f fd Q7 (Qi K t):=by
 refine F.okW0 bs9 bw0 T (bq4 K t) (fun vs H Q E h=>?_) (fun vs H Q E h=>?_)
 ·obtain⟨x,rfl,_⟩:=h;rfl
 ·obtain⟨z,rfl,hz,k⟩:=h
  have hl:z.length<=1000:=ax hz.2.1 (by decide)
  refine⟨z,1,8,rfl,hl,?_⟩
  have e:(decide (1<=(z.length:Int))&&decide ((z.length:Int)<=8))=true:=by
   have h1:=hz.1
   have h2:=hz.2.1
   simp
   omega
  refine R0 e ?_
  refine Yn (p:=Bx) hl (fun c σ H1 Q1 hσ q=>?_) fun H' S=>?_
  ·match σ,hσ with
   | [_],_=>exact⟨c,rfl,q⟩
  ·rw [hz.2.2];exact k H' S
theorem b09 {f:Addr} {fd:aB} (Z:A0 K t) (F:FunD K "are_unlike_words" "are_unlike_words" Vv f fd .none) (T:Tab P w K mg base 2 (Y7 K t) bl):FnOk P w K mg base CX0 3 f fd ae0 (Yb K t):=by
 refine F.okW0 b87 ce9 T (b61 K t) (fun vs H Q E h=>?_) (fun vs H Q E h=>?_)
 ·obtain⟨a,l,rfl,_⟩:=h;rfl
 ·obtain⟨a,l,rfl,hS,hl,k⟩:=h
  refine⟨_,true,.sqL rfl hS rfl,rfl,?_⟩
  refine .inl ⟨⟨_,hS⟩,?_⟩
  refine Rg (K:=K) (σ:=[none]) (As (l.map V.str)) (fun σ=>σ.length=1) (fun H1 S=>S.seqL hS) ?_ rfl (fun σ x hσ=>by rw [jm];exact hσ) ?_ fun D1 H1 S1 q1=>⟨_,q1,?_⟩
  ·rw [ac];exact aD hl.2.2 (by decide)
  ·intro x σ H1 Q1 hx hσ S q
   obtain⟨z,hz,rfl⟩:=List.mem_map.mp hx
   match σ,hσ with
   | [_],_=>exact⟨z,rfl,hl.1 z hz,q⟩
  ·rw [W7]
   refine⟨l,S1.seqL hS,aD hl.2.2 (by decide),.inl ⟨_,.inl (S1.seqL hS),?_⟩⟩
   rw [ay6 hl.2.1,ac]
   have e:decide ((l.length:Int)=(l.length:Int))=true:=by simp
   show Q (.bl (decide ((l.length:Int)=(l.length:Int)))) H1
   rw [e]
   exact k H1 S1
theorem bg5 {f:Addr} {fd:aB} (Z:A0 K t) (F:FunD K "is_switch" "is_switch" Lg f fd .none) (T:Tab P w K mg base 3 (Y8 K t) bl):FnOk P w K mg base CX0 4 f fd Qq (Wj K t):=by
 refine F.okW0 br2 bu3 T (bo7 K t) (fun vs H Q E h=>?_) (fun vs H Q E h=>?_)
 ·obtain⟨a,b,wd,l,rfl,_⟩:=h;rfl
 ·obtain⟨a,b,wd,l,rfl,ha,hb,hw,hl,k⟩:=h
  have qa:=SqT.of (K:=K) ha
  have qb:=SqL.of (K:=K) hb
  refine⟨_,true,.sqT rfl qa rfl,rfl,?_⟩
  refine .inl ⟨_,.inr qa,?_⟩
  refine⟨_,_,.inr qa,rfl,?_⟩
  refine⟨wd,rfl,hw,fun H1 S1=>?_⟩
  refine⟨_,_,.inr (S1.seqT qa),rfl,?_⟩
  refine⟨b,l,rfl,S1.seqL qb,hl.1,fun H2 S2=>?_⟩
  have S:=S1.trans S2
  refine⟨_,_,.inr (S.seqT qa),rfl,.inl ⟨_,.inl (S.seqL qb),?_⟩⟩
  rw [ac]
  have e:(decide (2<=(l.length:Int))&&decide ((l.length:Int)<=4))=true:=by
   have h1:=hl.2.1
   have h2:=hl.2.2
   simp
   omega
  exact Na (e▸k H2 S)
theorem Pu {es:List ((Str×List Str)×Addr)} {sw:Sw} {i:Nat} {e:Str×List Str} (he:es.map (·.1)=sw.take i) (hi:sw[i]? = some e) (nd:(sw.map (·.1)).Nodup):Bp (es.map kR) (.inr e.1)=none:=by
 refine Gk ?_
 rw [Xs,he]
 intro hm
 obtain⟨w,hw,e2⟩:=List.mem_map.mp hm
 cases e2
 have h1:(sw.map (·.1))[i]? = some e.1:=by rw [ai,hi];rfl
 rw [List.map_take] at hw
 obtain⟨j,hj,e3⟩:=List.mem_iff_getElem.mp hw
 rw [aF] at hj
 rw [List.getElem_take] at e3
 have hi2:=An h1
 have e4:(sw.map (·.1))[i]=e.1:=by
  have:=ah hi2
  rw [this] at h1
  exact aE h1
 have:=(cK (i:=j) (j:=i) (h₀:=by omega) (h₁:=hi2) nd).mp (by rw [e3,e4])
 omega
theorem Pp {es:List ((Str×List Str)×Addr)} {e:Str×List Str} {a:Addr} (h:Bp (es.map kR) (.inr e.1)=none):Dg (es.map kR) (.inr e.1) (.ref a)=(es++[(e,a)]).map kR:=by
 rw [Hs _ h,aq]
 rfl
theorem Uv {α β:Type} {es:List (α×β)} {sw:List α} {i:Nat} (h:es.map (·.1)=sw.take i):es.length<=sw.length:=by
 have:=congrArg bv h
 rw [ac,aF] at this
 omega
theorem Hd {α β:Type} {es:List (α×β)} {sw:List α} {i:Nat} {e:α} {a:β} (h:es.map (·.1)=sw.take i) (hi:sw[i]? = some e):(es++[(e,a)]).map (·.1)=sw.take (i+1):=by
 rw [aq,h,bG,hi]
 rfl
theorem b18 {f:Addr} {fd:aB} (Z:A0 K t) (F:FunD K "read_switches" "read_switches" V2 f fd .none) (T:Tab P w K mg base 4 (Y9 K t) bl):FnOk P w K mg base CX0 5 f fd ae5 (ar3 K t):=by
 refine F.okW0 b94 cf6 T (b68 K t) (fun vs H Q E h=>?_) (fun vs H Q E h=>?_)
 ·obtain⟨a,sw,rfl,_⟩:=h;rfl
 ·obtain⟨a,sw,rfl,⟨ds,ed,⟨_,oa⟩,hd⟩,hw,k⟩:=h
  have ql:=SqL.of (K:=K) oa
  have el:(ds.map fun x=>V.ref x.2).length=sw.length:=by rw [<- ed];simp
  refine⟨_,true,.sqL rfl ql rfl,rfl,?_⟩
  refine .inl ⟨_,.inl ql,?_⟩
  rw [el]
  have e1:decide (1<=(sw.length:Int))=true:=by have:=hw.1;simp;omega
  have e2:decide ((sw.length:Int)<=5)=true:=by have:=hw.2.1;simp;omega
  refine R0 e1 (Ew (by rw [e2];rfl) ?_)
  intro d hd0
  refine .inl (.inl ⟨⟨_,(Same.upd hd0).seqL ql⟩,?_⟩)
  refine A5 (As (ds.map fun x=>V.ref x.2)) (fun i σ H'=>(∃ v3,σ=[some (.ref a),some (.ref d),some (.int (Bt (sw.take i):Nat)),v3])/\Same H H' /\
    ∃ es:List ((Str×List Str)×Addr),es.map (·.1)=sw.take i/\H' d=some (.dK (es.map kR)) /\ ∀ x∈es,H x.2=none/\H' x.2=some (C1 x.1.2))
   ⟨⟨_,rfl⟩,Same.upd hd0,[],rfl,Ad,fun x hx=>by cases hx⟩ (fun i σ H' _ q=>q.2.1.seqL ql) ?_ ?_
  ·rintro i x σ H1 hx ⟨⟨v3,rfl⟩,S1,es,ee,e1d,he⟩
   obtain⟨⟨⟨e,la⟩,ta⟩,hi,rfl⟩:=Ao hx
   have hi2:sw[i]? = some e:=by rw [<- ed,ai,hi];rfl
   obtain⟨⟨_,h1⟩,_,h2⟩:=hd _ (af hi)
   have hok:=hw.2.2.2.1 e (af hi2)
   have nk:=Pu ee hi2 hw.2.2.1
   refine⟨ta,la,e.1,e.2,rfl,S1 _ _ h1,S1 _ _ h2,hok.1,hok.2,fun H2 S2=>?_⟩
   have S:=S1.trans S2
   have qt:=SqT.of (K:=K) (S _ _ h1)
   have qa:=SqL.of (K:=K) (S _ _ h2)
   refine⟨_,_,.inr qt,rfl,.inr ⟨_,DGet.k (k:=.inr e.1) (S2 _ _ e1d),?_⟩⟩
   rw [nk]
   refine⟨_,_,.inr qt,rfl,_,.inl ⟨qa,fun tp htp=>?_⟩⟩
   have S3:=Same.upd (o:=C1 e.2) htp
   have et:upd H2 tp (C1 e.2) tp=some (C1 e.2):=Ad
   show Fe K (Aa 1) (Ae (Aq K) (Aa 3) (dC (.int 0))) (.ref tp) [some (.ref a),some (.ref d),some (.int (Bt (sw.take i):Nat)),some (.ref ta)] (upd H2 tp (C1 e.2)) _
   have hft:H tp=none:=S.free htp
   generalize upd H2 tp (C1 e.2)=H3 at S3 et ⊢
   have Sa:=S.trans S3
   have e3d:=S3 _ _ (S2 _ _ e1d)
   have ndt:d≠tp:=Aj (S2 _ _ e1d) htp
   refine⟨_,_,.inr (S3.seqT qt),rfl,_,DPut.k (k:=.inr e.1) e3d ?_,?_⟩
   ·rw [ac]
    have:=Uv ee
    have:=hw.2.1
    exact aD (show es.length<=5 by omega) (by decide)
   rw [Pp nk]
   have Sb:Same H (upd H3 d (.dK ((es++[(e,tp)]).map kR))):=Sa.set hd0
   have keep:∀ b,b≠d->upd H3 d (.dK ((es++[(e,tp)]).map kR)) b=H3 b:=fun b hb=>Ak hb
   have ebd:upd H3 d (.dK ((es++[(e,tp)]).map kR)) d=some (.dK ((es++[(e,tp)]).map kR)):=Ad
   generalize upd H3 d (.dK ((es++[(e,tp)]).map kR))=H4 at Sb keep ebd ⊢
   refine⟨_,_,.inr (SqT.of (Sb _ _ h1)),rfl,.inl ⟨_,.inl (SqL.of (Sb _ _ h2)),?_⟩⟩
   rw [ac]
   have pm:((Bt (sw.take i):Nat):Int) * (e.2.length:Int)=((Bt (sw.take (i+1)):Nat):Int):=by
    unfold Bt
    rw [Ck hi2,Int.natCast_mul]
   have hb4:=hok.2.2.2
   refine⟨.inr ⟨show -(2 ^ 64)<(e.2.length:Int) by omega,show (e.2.length:Int)<2 ^ 64 by omega⟩,?_⟩
   refine⟨⟨_,congrArg (fun z=>[some (V.ref a),some (V.ref d),some (V.int z),some (V.ref ta)]) pm⟩,Sb,es++[(e,tp)],Hd ee hi2,ebd,?_⟩
   intro x hx
   rcases List.mem_append.mp hx with hx|hx
   ·obtain⟨a1,a2⟩:=he x hx
    refine⟨a1,?_⟩
    rw [keep x.2 (fun z=>by rw [z,e1d] at a2;cases a2)]
    exact S3 _ _ (S2 _ _ a2)
   ·have:x=(e,tp):=by simpa using hx
    subst this
    exact⟨hft,by rw [keep _ (cA ndt)];exact et⟩
  ·rintro σ H1 ⟨⟨v3,rfl⟩,S1,es,ee,e1d,he⟩
   rw [el,aL] at ee
   rw [el,aL]
   refine .inl (Ew ?_ ?_)
   ·have:=hw.2.2.2.2
    simp
    omega
   ·exact k H1 d S1 ⟨es,ee,⟨hd0,e1d⟩,he⟩
theorem b22 {f:Addr} {fd:aB} (Z:A0 K t) (F:FunD K "copied_rule" "copied_rule" V6 f fd .none) (T:Tab P w K mg base 0 (Bk K t) bl):FnOk P w K mg base CX0 1 f fd ae9 (ar6 K t):=by
 refine F.okW0 b98 cg0 T (b72 K t) (fun vs H Q E h=>?_) (fun vs H Q E h=>?_)
 ·obtain⟨r,rule,rfl,_⟩:=h;rfl
 ·obtain⟨r,rule,rfl,⟨ds,ed,⟨_,od⟩,hd⟩,nd,hl,k⟩:=h
  intro c hc
  have ncr:r≠c:=Aj od hc
  have od1:upd H c (.dK []) r=some (.dK (ds.map kR)):=by rw [Ak ncr];exact od
  refine .inl (.inr (.inr (.inl ⟨_,od1,fun o=>?_⟩)))
  have Hf:∀ b u,b≠r->H b=some u->upd (upd H c (.dK [])) r (.frz o (.dK (ds.map kR))) b=some u:=fun b u hb e=>by
   rw [Ak hb,Ak (Aj e hc)];exact e
  have ef:upd (upd H c (.dK [])) r (.frz o (.dK (ds.map kR))) r=some (.frz o (.dK (ds.map kR))):=Ad
  have ec:upd (upd H c (.dK [])) r (.frz o (.dK (ds.map kR))) c=some (.dK []):=by rw [Ak (cA ncr),Ad]
  have len:ds.length=rule.length:=by rw [<- ed];simp
  generalize upd (upd H c (.dK [])) r (.frz o (.dK (ds.map kR)))=H0 at Hf ef ec ⊢
  refine A5 (Qm (ds.map kR)) (fun i σ H'=>(∃ v2,σ=[some (.ref r),some (.ref c),v2])/\(∀ b u,b≠r->H b=some u->H' b=some u)/\H' r=some (.frz o (.dK (ds.map kR))) /\
    ∃ es:List ((Str×List Str)×Addr),es.map (·.1)=rule.take i/\H' c=some (.dK (es.map kR)) /\ ∀ x∈es,H x.2=none/\H' x.2=some (Bi x.1.2))
   ⟨⟨_,rfl⟩,Hf,ef,[],rfl,ec,fun x hx=>by cases hx⟩ (fun i σ H' _ q=>q.2.2.1) ?_ ?_
  ·rintro i x σ H1 hx ⟨⟨v2,rfl⟩,S1,f1,es,ee,e1c,he⟩
   obtain⟨kv,hi0,rfl⟩:=Ao hx
   obtain⟨⟨e,la⟩,hi,rfl⟩:=Ao hi0
   have hi2:rule[i]? = some e:=by rw [<- ed,ai,hi];rfl
   obtain⟨_,h2⟩:=hd _ (af hi)
   have nla:la≠r:=fun z=>by rw [z,od] at h2;cases h2
   have nk:=Pu ee hi2 nd
   have hv:Bp (ds.map kR) (.inr e.1)=some (.ref la):=Da (E5 ed nd) hi0
   refine⟨.ref la,.inl ⟨_,.inr e.1,.inr ⟨o,f1⟩,rfl,hv.symm⟩,.inl ⟨_,.inl (SqL.of (S1 _ _ nla h2)),fun lc hlc=>?_⟩⟩
   have S3:=Same.upd (o:=Bi e.2) hlc
   have et:upd H1 lc (Bi e.2) lc=some (Bi e.2):=Ad
   have nlr:lc≠r:=(Aj f1 hlc).symm
   have hft:H lc=none:=by
    cases q:H lc with
    | none=>rfl
    | some u=>rw [S1 _ _ nlr q] at hlc;cases hlc
   have ndt:c≠lc:=Aj e1c hlc
   show Fe K (Aa 1) (Aa 2) (.ref lc) [some (.ref r),some (.ref c),some (.str e.1)] (upd H1 lc (Bi e.2)) _
   generalize upd H1 lc (Bi e.2)=H3 at S3 et ⊢
   refine⟨_,DPut.k (k:=.inr e.1) (S3 _ _ e1c) ?_,?_⟩
   ·rw [ac]
    have:=Uv ee
    exact aD (show es.length<=100 by omega) (by decide)
   rw [Pp nk]
   refine⟨⟨_,rfl⟩,fun b u hb e4=>?_,?_,es++[(e,lc)],Hd ee hi2,Ad,?_⟩
   ·rw [Ak (Aj e4 hc)];exact S3 _ _ (S1 _ _ hb e4)
   ·rw [Ak ncr];exact S3 _ _ f1
   ·intro x hx
    rcases List.mem_append.mp hx with hx|hx
    ·obtain⟨a1,a2⟩:=he x hx
     refine⟨a1,?_⟩
     rw [Ak (fun z=>by rw [z,e1c] at a2;cases a2)]
     exact S3 _ _ a2
    ·have:x=(e,lc):=by simpa using hx
     subst this
     exact⟨hft,by rw [Ak (cA ndt)];exact et⟩
  ·rintro σ H1 ⟨⟨v2,rfl⟩,S1,f1,es,ee,e1c,he⟩
   rw [ac,ac,len,aL] at ee
   refine .inr ⟨r,o,_,od1,f1,?_⟩
   refine k _ c (fun b u e4=>?_) ⟨es,ee,⟨hc,?_⟩,fun x hx=>⟨(he x hx).1,?_⟩⟩
   ·by_cases hb:b=r
    ·subst hb;rw [Ad,<- od,e4]
    ·rw [Ak hb];exact S1 _ _ hb e4
   ·rw [Ak (cA ncr)];exact e1c
   ·rw [Ak (fun z=>by have:=(he x hx).1;rw [z,od] at this;cases this)];exact (he x hx).2
theorem N7:∀ (a:List (List Str)) (r:List Str) (k:Nat),K6 k (a++[r])=K6 k a++[(r.map .inr,.int ((k+a.length:Nat):Int))]
 | [],r,k=>rfl
 | b::a,r,k=>by
  rw [eR,K6,N7 a r (k+1),K6,aI,eR,show k+1+a.length=k+(a.length+1) by omega]
theorem N4:∀ (a:List (List Str)) (k:Nat),(K6 k a).map (·.1)=a.map fun r=>r.map (fX:Str->Key)
 | [],_=>rfl
 | b::a,k=>by rw [K6,aQ,aQ,N4 a]
theorem Sn:∀ (a:List (List Str)) (k:Nat),(K6 k a).length=a.length
 | [],_=>rfl
 | b::a,k=>by rw [K6,aI,aI,Sn a]
theorem aj6 {a b:List Str} (h:a.map (fX:Str->Key)=b.map (fX:Str->Key)):a=b:=(List.map_inj_right (fun x y e=>by injection e)).mp h
theorem a46 (r:List Str):C1 r=.tup ((r.map (fX:Str->Key)).map kV):=by
 rw [bd]
 rfl
theorem Tt {α:Type} {l:List α} {i:Nat} {x:α} (nd:l.Nodup) (h:l[i]? = some x):¬ x∈l.take i:=by
 intro hm
 obtain⟨j,hj,e⟩:=List.mem_iff_getElem.mp hm
 rw [aF] at hj
 rw [List.getElem_take] at e
 have hi:=An h
 rw [ah hi] at h
 have:=(cK (i:=j) (j:=i) (h₀:=by omega) (h₁:=hi) nd).mp (by rw [e];exact (aE h).symm)
 omega
theorem b05 {f:Addr} {fd:aB} (Z:A0 K t) (F:FunD K "numbers_by_settings" "numbers_by_settings" Vr f fd .none) (T:Tab P w K mg base 0 (Bk K t) bl):FnOk P w K mg base CX0 1 f fd ad6 (aq6 K t):=by
 refine F.okW0 b83 ce5 T (b57 K t) (fun vs H Q E h=>?_) (fun vs H Q E h=>?_)
 ·obtain⟨l,rows,rfl,_⟩:=h;rfl
 ·obtain⟨l,rows,rfl,⟨ds,ed,⟨_,ol⟩,hd⟩,nd,hl,k⟩:=h
  intro n hn
  have ql:=SqL.of (K:=K) ol
  have len:(Ev 0 (ds.map fun x=>V.ref x.2)).length=rows.length:=by rw [Cc,<- ed];simp
  refine .inr (.inl ⟨⟨_,(Same.upd hn).seqL ql⟩,?_⟩)
  refine Ph (Qn (ds.map fun x=>V.ref x.2)) (fun i σ H'=>(∃ v2 v3,σ=[some (.ref l),some (.ref n),v2,v3])/\Same H H'/\H' n=some (.dT (K6 0 (rows.take i))))
   ⟨⟨_,_,rfl⟩,Same.upd hn,Ad⟩ (fun i σ H' _ q=>q.2.1.seqL ql) ?_ ?_
  ·rintro i x y T σ H1 hxy hT ⟨⟨v2,v3,rfl⟩,S1,e1⟩
   have hi':=An hxy
   rw [Cc,ac] at hi'
   obtain⟨⟨r,b⟩,hi⟩:∃ z,ds[i]? = some z:=⟨_,ah hi'⟩
   have:=De (k:=0) (xs:=ds.map fun x=>V.ref x.2) (i:=i) (x:=.ref b) (by rw [ai,hi];rfl)
   rw [this] at hxy
   obtain⟨rfl,rfl⟩:V.int ((0+i:Nat):Int)=x/\V.ref b=y:=by simpa using hxy
   have hi2:rows[i]? = some r:=by rw [<- ed,ai,hi];rfl
   have hb:=(hd _ (af hi)).2
   have ST:=Same.upd (o:=.tup [.int ((0+i:Nat):Int),.ref b]) hT
   refine⟨_,.inl (SqT.of Ad),rfl,?_⟩
   generalize upd H1 T (.tup [.int ((0+i:Nat):Int),.ref b])=H2 at ST ⊢
   have S2:=S1.trans ST
   have hb2:=S2 _ _ hb
   rw [a46] at hb2
   refine⟨_,DPut.t (ST _ _ e1) hb2 ?_,⟨_,_,rfl⟩,S2.set hn,?_⟩
   ·rw [Sn,aF]
    exact aD (show min i rows.length<=256 by omega) (by decide)
   ·rw [Ad,Hs,bG,hi2,bW,N7,aF,jt (d8 (An hi2))]
    refine Gk ?_
    rw [N4]
    intro hm
    obtain⟨r2,h1,h2⟩:=List.mem_map.mp hm
    rw [aj6 h2] at h1
    exact Tt nd hi2 h1
  ·rintro σ H1 ⟨⟨v2,v3,rfl⟩,S1,e1⟩
   rw [len,aL] at e1
   exact .inl (k H1 n S1 ⟨hn,e1⟩)
theorem ch7 {H:Hp} {aa p:Addr} {a:List Str} {z:Str} {Q:VK} (ha:H aa=some (C1 a)) (hp:H p=some (.tup [.str z])) (hl:a.length<=100) (k:∀ q H',Same H H'->H' q=some (C1 (a++[z]))->(H q=none\/q=p)->Q (.ref q) H'):Bb K (.ref aa) (.ref p) H Q:=by
 cases a with
 | nil=>exact .inr (.inr ⟨aa,p,_,rfl,rfl,SqT.of ha,SqT.of hp,k p H (Same.refl _) hp (.inr rfl)⟩)
 | cons y a=>
  refine .inr (.inl ⟨aa,p,_,_,rfl,rfl,SqT.of ha,SqT.of hp,by simp,?_,(fun e=>by cases e),fun _ q hq=>?_⟩)
  ·rw [ac]
   exact ax (show (y::a).length+1<=101 by omega) (by decide)
  ·refine k q _ (Same.upd hq) ?_ (.inl hq)
   rw [Ad,C1,aq]
   rfl
theorem Y0 {α:Type} {ok:Addr->Prop} {H:Hp} {f:α->HO} {es:List (α×Addr)} {e:α} {a:Addr} (h:∀ x∈es,ok x.2/\H x.2=some (f x.1)) (h1:ok a) (h2:H a=some (f e)):∀ x∈es++[(e,a)],ok x.2/\H x.2=some (f x.1):=by
 intro x hx
 rcases List.mem_append.mp hx with hx|hx
 ·exact h x hx
 ·have:x=(e,a):=by simpa using hx
  subst this
  exact⟨h1,h2⟩
theorem aw5 {α:Type} {ok:Addr->Prop} {H H':Hp} {f:α->HO} {es:List (α×Addr)} (S:Same H H') (h:∀ x∈es,ok x.2/\H x.2=some (f x.1)):∀ x∈es,ok x.2/\H' x.2=some (f x.1):=fun x hx=>⟨(h x hx).1,S _ _ (h x hx).2⟩
theorem Z8 {rows:List (List Str)} {j:Nat} {r:List Str} {x:Str×List Str} (h:rows[j]? = some r):Dr (rows.take (j+1)) x=Dr (rows.take j) x++x.2.map fun z=>r++[z]:=by
 unfold Dr
 rw [bG,h,bW,dq]
 simp
theorem U9 {E:EK} {H0 H:Hp} {aa ta:Addr} {a:List Str} {l:List Str} {σ:St} {R:Hp->Addr->Prop} (hσ:∃ v,σ=[v,some (.ref aa)]) (S0:Same H0 H) (ha:H aa=some (C1 a)) (ht:H ta=some (C1 l)) (hl:a.length<=100) (hl2:l.length<=8)
  (k:∀ D H',Same H H'->H D=none -> ∀ fs:List (List Str×Addr),fs.map (·.1)=l.map (fun z=>a++[z])->H' D=some (.lst (fs.map fun x=>.ref x.2))->(∀ x∈fs,H0 x.2=none/\H' x.2=some (C1 x.1))->R H' D) :
  ∀ D,H D=none->E3 (Itt K ta) (gdN 0) Bw (Ae (Bb K) (Aa 1) (Fj (Ac (Aa 0) Ai))) D (fun H'=>R H' D) σ (upd H D (.lst [])) E:=by
 intro D hD
 refine Cs (at9 (l.map V.str)) (fun m σ H'=>(∃ v,σ=[v,some (.ref aa)])/\Same H H' /\ ∃ fs:List (List Str×Addr),fs.map (·.1)=(l.take m).map (fun z=>a++[z])/\H' D=some (.lst (fs.map fun x=>.ref x.2)) /\ ∀ x∈fs,H0 x.2=none/\H' x.2=some (C1 x.1))
  ⟨hσ,Same.upd hD,[],rfl,Ad,fun x hx=>by cases hx⟩ (fun m σ H' _ q=>q.2.1.seqT (SqT.of ht)) ?_ ?_
 ·rintro m x σ H1 hx ⟨⟨v,rfl⟩,S1,fs,ef,eD,hf⟩
  obtain⟨z,hz,rfl⟩:=Ao hx
  refine⟨(show 1<=sizeLine by decide),fun p hp=>?_⟩
  have Sp:=Same.upd (o:=.tup [.str z]) hp
  have ep:upd H1 p (.tup [.str z]) p=some (.tup [.str z]):=Ad
  show Bb K (.ref aa) (.ref p) (upd H1 p (.tup [.str z])) _
  generalize upd H1 p (.tup [.str z])=H2 at Sp ep ⊢
  refine ch7 (Sp _ _ (S1 _ _ ha)) ep hl fun q H3 S3 eq nq=>?_
  have S03:=S0.trans (S1.trans (Sp.trans S3))
  have hq0:H0 q=none:=by
   rcases nq with nq|rfl
   ·exact (S0.trans (S1.trans Sp)).free nq
   ·exact (S0.trans S1).free hp
  have qD:q≠D:=by
   rcases nq with nq|rfl
   ·exact (Aj (Sp _ _ eD) nq).symm
   ·exact (Aj eD hp).symm
  have eD3:=S3 _ _ (Sp _ _ eD)
  refine⟨_,eD3,?_,⟨_,rfl⟩,(S1.trans (Sp.trans S3)).set hD,fs++[(a++[z],q)],?_,?_,?_⟩
  ·rw [ac]
   have:=congrArg bv ef
   rw [ac,ac,aF] at this
   exact aD (show fs.length<=8 by omega) (by decide)
  ·rw [aq,ef,Bh hz];rfl
  ·rw [Ad,aq];rfl
  ·have hf3:∀ x∈fs++[(a++[z],q)],H0 x.2=none/\H3 x.2=some (C1 x.1):=Y0 (ok:=fun a=>H0 a=none) (f:=C1) (aw5 (ok:=fun a=>H0 a=none) (f:=C1) (Sp.trans S3) hf) hq0 eq
   intro x hx
   refine⟨(hf3 x hx).1,?_⟩
   rw [Ak (fun e=>by have:=(hf3 x hx).2;rw [e,eD3] at this;cases this)]
   exact (hf3 x hx).2
 ·rintro σ H1 ⟨_,S1,fs,ef,eD,hf⟩
  rw [ac,aL] at ef
  exact k D H1 S1 hD fs ef eD hf
theorem b06 {f:Addr} {fd:aB} (Z:A0 K t) (F:FunD K "settings_of_choices" "settings_of_choices" Vs f fd .none) (T:Tab P w K mg base 0 (Bk K t) bl):FnOk P w K mg base CX0 1 f fd ad7 (ar0 K t):=by
 refine F.okW0 b84 ce6 T (b58 K t) (fun vs H Q E h=>?_) (fun vs H Q E h=>?_)
 ·obtain⟨d,sw,rfl,_⟩:=h;rfl
 ·obtain⟨d,sw,rfl,⟨ds,ed,⟨_,od⟩,hd⟩,hw,k⟩:=h
  refine⟨(show 0<=sizeLine by decide),fun t0 h0=>⟨(show 1<=sizeLine by decide),fun l0 hl0=>?_⟩⟩
  have St:=Same.upd (o:=.tup []) h0
  have Sl:=Same.upd (o:=.lst [.ref t0]) hl0
  have ft:H t0=none:=h0
  have fl:H l0=none:=St.free hl0
  have et:upd (upd H t0 (.tup [])) l0 (.lst [.ref t0]) t0=some (C1 []):=Sl _ _ Ad
  have el:upd (upd H t0 (.tup [])) l0 (.lst [.ref t0]) l0=some (.lst [.ref t0]):=Ad
  have S0:=St.trans Sl
  generalize upd (upd H t0 (.tup [])) l0 (.lst [.ref t0])=H0 at S0 et el ⊢
  have od0:=S0 _ _ od
  refine .inr (.inr (.inl ⟨_,od0,fun o=>?_⟩))
  have len:ds.length=sw.length:=by rw [<- ed];simp
  have kf:Kp (fresh H) H0 (fresh H) (upd H0 d (.frz o (.dK (ds.map kR)))):=Kp.off (Gh od)
  have ef:upd H0 d (.frz o (.dK (ds.map kR))) d=some (.frz o (.dK (ds.map kR))):=Ad
  have ht0:∀ x∈ds,upd H0 d (.frz o (.dK (ds.map kR))) x.2=some (C1 x.1.2):=fun x hx=>by
   rw [Ak (fun e=>by have:=(hd x hx).2;rw [e,od] at this;cases this)]
   exact S0 _ _ (hd x hx).2
  have T0:TupsAt (fresh H) (upd H0 d (.frz o (.dK (ds.map kR)))) l0 (Af (sw.take 0)):=⟨[([],t0)],rfl,kf _ _ ⟨fl,el⟩,fun x hx=>by
   have:x=([],t0):=by simpa using hx
   subst this
   exact kf _ _ ⟨ft,et⟩⟩
  have frees:∀ {H':Hp} {b:Addr},Same (upd H0 d (.frz o (.dK (ds.map kR)))) H'->H' b=none->H b=none:=fun {H' b} S e=>by
   have e1:=S.free e
   have nb:b≠d:=fun z=>by rw [z,ef] at e1;cases e1
   rw [Ak nb] at e1
   exact S0.free e1
  generalize hHf:upd H0 d (.frz o (.dK (ds.map kR)))=Hf at kf ef ht0 T0 frees ⊢
  refine A5 (Qm (ds.map kR)) (fun i σ H'=>(∃ l v2 v3 v4,σ=[some (.ref d),some (.ref l),v2,v3,v4]/\TupsAt (fresh H) H' l (Af (sw.take i)))/\Same Hf H') ⟨⟨_,_,_,_,rfl,T0⟩,Same.refl _⟩ (fun i σ H' _ q=>q.2 _ _ ef) ?_ ?_
  ·rintro i x σ H1 hx ⟨⟨l,v2,v3,v4,rfl,⟨es,ee,⟨fl1,el1⟩,he⟩⟩,S1⟩
   obtain⟨kv,hi0,rfl⟩:=Ao hx
   obtain⟨⟨e,ta⟩,hi,rfl⟩:=Ao hi0
   have hi2:sw[i]? = some e:=by rw [<- ed,ai,hi];rfl
   have hta:=ht0 _ (af hi)
   have hoke:=hw.sets e (af hi2)
   have hv:Bp (ds.map kR) (.inr e.1)=some (.ref ta):=Da (E5 ed hw.2.2.1) hi0
   refine⟨by decide,fun l2 hl2=>.inl ⟨⟨_,(Same.upd hl2).seqL (SqL.of el1)⟩,?_⟩⟩
   have f2:H l2=none:=frees S1 hl2
   have Sl2:=Same.upd (o:=.lst []) hl2
   have rl:∀ r∈Af (sw.take i),r.length<=100:=fun r hr=>by
    have h1:=(Hu (sw:=sw.take i) (fun x hx=>hw.sets x (dF hx))).2.1 r hr
    rw [h1,aF]
    have:=hw.2.1
    omega
   have lenr:es.length=(Af (sw.take i)).length:=by rw [<- ee];simp
   have few:(Af (sw.take i)).length<=256:=by rw [Lf];exact ax (Ob hw i) hw.2.2.2.2
   refine A5 (As (es.map fun x=>V.ref x.2)) (fun j σ H'=>(∃ v4,σ=[some (.ref d),some (.ref l),some (.str e.1),some (.ref l2),v4])/\Same H1 H' /\ ∃ fs:List (List Str×Addr),fs.map (·.1)=Dr ((Af (sw.take i)).take j) e /\
     H' l2=some (.lst (fs.map fun x=>.ref x.2)) /\ ∀ x∈fs,H x.2=none/\H' x.2=some (C1 x.1))
    ⟨⟨_,rfl⟩,Sl2,[],rfl,Ad,fun x hx=>by cases hx⟩ (fun j σ H' _ q=>q.2.1.seqL (SqL.of el1)) ?_ ?_
   ·rintro j y σ H2 hy ⟨⟨v4,rfl⟩,S2,fs,efs,e2l,hf⟩
    obtain⟨⟨r,ra⟩,hj,rfl⟩:=Ao hy
    have hj2:(Af (sw.take i))[j]? = some r:=by rw [<- ee,ai,hj];rfl
    obtain⟨_,hra⟩:=he _ (af hj)
    have S12:=S1.trans S2
    refine⟨.inl ⟨rfl,_,SqL.of e2l⟩,.ref ta,.inl ⟨_,.inr e.1,.inr ⟨o,S12 _ _ ef⟩,rfl,hv.symm⟩,.inr (.inl ⟨⟨_,SqT.of (S12 _ _ hta)⟩,?_⟩)⟩
    refine U9 (H0:=H1) ⟨_,rfl⟩ S2 (S2 _ _ hra) (S12 _ _ hta) (rl r (af hj2)) (ax hoke.2.2 (by decide)) fun D H3 S3 hD gs eg eD hg=>?_
    have e3l:=S3 _ _ e2l
    have lfs:fs.length<=1024:=by
     have:=congrArg bv efs
     rw [ac,Og,aF] at this
     have h4:=hoke.2.2
     have:min j (Af (sw.take i)).length * e.2.length<=256 * 4:=Nat.mul_le_mul (by omega) h4
     omega
    have lgs:gs.length<=4:=by
     have h1:gs.length=e.2.length:=by simpa using congrArg bv eg
     have h2:e.2.length<=4:=hoke.2.2
     omega
    refine⟨l2,D,_,_,rfl,rfl,e3l,eD,?_,⟨_,rfl⟩,(S2.trans S3).set hl2,fs++gs,?_,?_,?_⟩
    ·rw [ac,ac]
     exact ax (show fs.length+gs.length<=1028 by omega) (by decide)
    ·rw [aq,efs,eg,Z8 hj2]
    ·rw [Ad,aq]
    ·have h3:∀ x∈fs++gs,H x.2=none/\H3 x.2=some (C1 x.1):=fun x hx=>by
      rcases List.mem_append.mp hx with hx|hx
      ·exact⟨(hf x hx).1,S3 _ _ (hf x hx).2⟩
      ·exact⟨frees S1 (hg x hx).1,(hg x hx).2⟩
     intro x hx
     refine⟨(h3 x hx).1,?_⟩
     rw [Ak (fun e=>by have:=(h3 x hx).2;rw [e,e3l] at this;cases this)]
     exact (h3 x hx).2
   ·rintro σ H2 ⟨⟨v4,rfl⟩,S2,fs,efs,e2l,hf⟩
    rw [ac,lenr,aL] at efs
    refine .inl ⟨⟨_,_,_,_,rfl,fs,?_,⟨f2,e2l⟩,hf⟩,S1.trans S2⟩
    rw [efs]
    exact (Ck hi2 _ _).symm
  ·rintro σ H1 ⟨⟨l,v2,v3,v4,rfl,T1⟩,S1⟩
   rw [ac,ac,len,aL] at T1
   refine .inr ⟨d,o,_,od0,S1 _ _ ef,?_⟩
   exact k _ l (S0.trans (Same.thaw od0 (hHf▸S1))) (T1.mono (Kp.off (Gh od)))
noncomputable def Off (d:Addr) (H H':Hp):Prop:=∀ b u,b≠d->H b=some u->H' b=some u
theorem Off.up {d:Addr} {H H1 H2:Hp} (h:Off d H H1) (S:Same H1 H2):Off d H H2:=fun b u n e=>S _ _ (h b u n e)
theorem Off.set {d a:Addr} {o:HO} {H H1:Hp} (h:Off d H H1) (e:H a=none):Off d H (upd H1 a o):=fun b u n q=>by rw [Ak (Aj q e)];exact h b u n q
theorem Off.free {d b:Addr} {H H1:Hp} (h:Off d H H1) (n:b≠d) (e:H1 b=none):H b=none:=by
 cases q:H b with
 | none=>rfl
 | some u=>rw [h b u n q] at e;cases e
theorem Off.thaw {d:Addr} {kvs:List (Key×V)} {H H1:Hp} (h:Off d H H1) (e:H d=some (.dK kvs)):Same H (upd H1 d (.dK kvs)):=fun b u q=>by
 by_cases n:b=d
 ·subst n;rw [Ad,<- e,q]
 ·rw [Ak n];exact h b u n q
theorem Nq (p:Nat) (z:Str):∀ (a:List (List Str)) (r:List Str) (k:Nat),Ea p z k (a++[r])=Ea p z k a++(if r[p]? = some z then [k+a.length] else [])
 | [],r,k=>by
  rw [List.nil_append,Ea,Ea,Ea,List.nil_append]
  rfl
 | b::a,r,k=>by
  rw [eR,Ea,Ea,Nq p z a r (k+1),aI,show k+1+a.length=k+(a.length+1) by omega]
  split <;> simp
theorem Pi (p:Nat) (z:Str):∀ (a:List (List Str)) (k n:Nat),n∈Ea p z k a->n<k+a.length
 | [],k,n,h=>by cases h
 | b::a,k,n,h=>by
  rw [Ea] at h
  rw [aI]
  split at h
  ·rcases List.mem_cons.mp h with h|h
   ·omega
   ·have:=Pi p z a (k+1) n h;omega
  ·have:=Pi p z a (k+1) n h;omega
theorem Ku (p:Nat) (z:Str):∀ (a:List (List Str)) (k:Nat),(Ea p z k a).length<=a.length
 | [],k=>ak _
 | b::a,k=>by
  rw [Ea,aI]
  split
  ·rw [aI];have:=Ku p z a (k+1);omega
  ·have:=Ku p z a (k+1);omega
theorem aw6 {α:Type} {ds:List (α×Addr)} {i:Nat} {x y:V} (h:(Ev 0 (ds.map fun x=>V.ref x.2))[i]? = some (x,y)):∃ z,ds[i]? = some z/\x=.int (i:Int)/\y=.ref z.2:=by
 have hi:=An h
 rw [Cc,ac] at hi
 refine⟨_,ah hi,?_⟩
 have:=De (k:=0) (xs:=ds.map fun x=>V.ref x.2) (i:=i) (x:=.ref ds[i].2) (by rw [ai,ah hi];rfl)
 rw [this,cB] at h
 obtain⟨rfl,rfl⟩:V.int (i:Int)=x/\V.ref ds[i].2=y:=by simpa using h
 exact⟨rfl,rfl⟩
theorem be9 {E:EK} {H:Hp} {l:Addr} {ds:List (List Str×Addr)} {rows:List (List Str)} {i:Nat} {z:Str} {R:Hp->Addr->Prop} (ed:ds.map (·.1)=rows) (ol:H l=some (.lst (ds.map fun x=>.ref x.2))) (hd:∀ x∈ds,H x.2=some (C1 x.1)) (hr:∀ r∈rows,i<r.length) (few:rows.length<=256)
  (k:∀ D H',Same H H'->H D=none->H' D=some (.lst ((Ea i z 0 rows).map fun n:Nat=>V.int (n:Int)))->R H' D) :
  ∀ D,H D=none->E3 (Ite K l) (gdT K 2 [gdN 0,gdN 1]) (Az (Ae (Ax K false) (Ae (Aq K) (Aa 1) (Aa 2)) (Aa 3))) (Aa 0) D (fun H'=>R H' D) [none,none,some (.int (i:Int)),some (.str z)] (upd H D (.lst [])) E:=by
 intro D hD
 have len:(Ev 0 (ds.map fun x=>V.ref x.2)).length=rows.length:=by rw [Cc,<- ed];simp
 refine av5 (Qn (ds.map fun x=>V.ref x.2)) (fun m σ H'=>(∃ v0 v1,σ=[v0,v1,some (.int (i:Int)),some (.str z)])/\Same H H'/\H' D=some (.lst ((Ea i z 0 (rows.take m)).map fun n:Nat=>V.int (n:Int))))
  ⟨⟨_,_,rfl⟩,Same.upd hD,Ad⟩ (fun m σ H' _ q=>q.2.1.seqL (SqL.of ol)) ?_ ?_
 ·rintro m x y T σ H1 hxy hT ⟨⟨v0,v1,rfl⟩,S1,eD⟩
  obtain⟨⟨r,b⟩,hm,rfl,rfl⟩:=aw6 hxy
  have hm2:rows[m]? = some r:=by rw [<- ed,ai,hm];rfl
  have hb:=hd _ (af hm)
  have hi:=hr r (af hm2)
  have ST:=Same.upd (o:=.tup [.int (m:Int),.ref b]) hT
  refine⟨_,.inl (SqT.of Ad),rfl,?_⟩
  show Az _ [some (.int (m:Int)),some (.ref b),some (.int (i:Int)),some (.str z)] (upd H1 T (.tup [.int (m:Int),.ref b])) _ _
  generalize upd H1 T (.tup [.int (m:Int),.ref b])=H2 at ST ⊢
  have S2:=S1.trans ST
  have eD2:=ST _ _ eD
  have mm:min m rows.length=m:=jt (d8 (An hm2))
  have he:Ea i z 0 (rows.take (m+1))=Ea i z 0 (rows.take m)++(if r[i]? = some z then [m] else []):=by
   rw [bG,hm2,bW,Nq,aF,mm,cB]
  refine⟨_,_,.inr (SqT.of (S2 _ _ hb)),Ar (j:=i) (by rw [ai,ah hi];rfl),?_⟩
  rw [ah hi] at he
  show if decide (r[i]=z)=true then _ else _
  refine Er (fun e=>?_) (fun e=>?_)
  ·have e:r[i]=z:=by simpa using e
   rw [if_pos (by rw [e])] at he
   refine⟨_,eD2,?_,⟨_,_,rfl⟩,S2.set hD,?_⟩
   ·rw [ac]
    have h1:=Ku i z (rows.take m) 0
    rw [aF] at h1
    exact aD (show (Ea i z 0 (rows.take m)).length<=256 by omega) (by decide)
   ·rw [Ad,he,aq];rfl
  ·have e:¬ r[i]=z:=by simpa using e
   rw [if_neg (by simpa using e),bQ] at he
   exact⟨⟨_,_,rfl⟩,S2,by rw [he];exact eD2⟩
 ·rintro σ H1 ⟨_,S1,eD⟩
  rw [len,aL] at eD
  exact k D H1 S1 hD eD
theorem Z7 {rows:List (List Str)} {i m:Nat} {l:List Str} {z:Str} (hz:l[m]? = some z) (nd:l.Nodup) :
  Dg ((l.take m).map fun z=>((.inr z:Key),V.int (Cl rows i z))) (.inr z) (.int (Cl rows i z))=(l.take (m+1)).map fun z=>((.inr z:Key),V.int (Cl rows i z)):=by
 rw [Hs,Bh hz]
 refine Gk ?_
 rw [bd]
 intro hm
 obtain⟨y,hy,e⟩:=List.mem_map.mp hm
 have e:y=z:=by injection e
 subst e
 exact Tt nd hz hy
theorem b11 {f:Addr} {fd:aB} (Z:A0 K t) (F:FunD K "sets_of_settings" "sets_of_settings" Vw f fd .none) (T:Tab P w K mg base 1 (D9 K t) bl):FnOk P w K mg base CX0 2 f fd ae1 (ar1 K t):=by
 refine F.okW0 b88 cf0 T (b62 K t) (fun vs H Q E h=>?_) (fun vs H Q E h=>?_)
 ·obtain⟨d,l,sw,rfl,_⟩:=h;rfl
 ·obtain⟨d,l,sw,rfl,⟨ds,ed,⟨_,od⟩,hd⟩,⟨ts,et,⟨_,ol⟩,htp⟩,hw,k⟩:=h
  intro s hs
  have nds:d≠s:=Aj od hs
  have nld:l≠d:=fun e=>by rw [e,od] at ol;cases ol
  have od1:upd H s (.dK []) d=some (.dK (ds.map kR)):=by rw [Ak nds];exact od
  refine .inl (.inr (.inl ⟨_,od1,fun o=>?_⟩))
  have O0:Off d H (upd (upd H s (.dK [])) d (.frz o (.dK (ds.map kR)))):=fun b u n e=>by rw [Ak n,Ak (Aj e hs)];exact e
  have ef:upd (upd H s (.dK [])) d (.frz o (.dK (ds.map kR))) d=some (.frz o (.dK (ds.map kR))):=Ad
  have es0:upd (upd H s (.dK [])) d (.frz o (.dK (ds.map kR))) s=some (.dK []):=by rw [Ak (cA nds),Ad]
  have len:(Ev 0 ((ds.map kR).map fun kv=>kV kv.1)).length=sw.length:=by rw [Cc,<- ed];simp
  have few:=hw.len
  have rlen:=(Hu hw.sets).2.1
  show aa9 (ab0 d o (ds.map kR)) _ _ _ [some (.ref d),some (.ref l),some (.ref s),none,none,none,none] _
  generalize upd (upd H s (.dK [])) d (.frz o (.dK (ds.map kR)))=H0 at O0 ef es0 ⊢
  refine Ph (at8 (ds.map kR)) (fun i σ H'=>(∃ v3 v4 v5 v6,σ=[some (.ref d),some (.ref l),some (.ref s),v3,v4,v5,v6])/\Off d H H'/\H' d=some (.frz o (.dK (ds.map kR))) /\
    ∃ es:List ((Str×List Str)×Addr),es.map (·.1)=sw.take i/\H' s=some (.dK (es.map kR)) /\ ∀ j x,es[j]? = some x->H x.2=none/\H' x.2=some (Wg (Af sw) j x.1.2))
   ⟨⟨_,_,_,_,rfl⟩,O0,ef,[],rfl,es0,fun j x hx=>by simp at hx⟩ (fun i σ H' _ q=>q.2.2.1) ?_ ?_
  ·rintro i x y T σ H1 hxy hT ⟨⟨v3,v4,v5,v6,rfl⟩,O1,f1,es,ee,e1s,he⟩
   have hi':=An hxy
   rw [len] at hi'
   have hids:i<ds.length:=by rw [<- ed,ac] at hi';exact hi'
   obtain⟨⟨e,ta⟩,hi⟩:∃ z,ds[i]? = some z:=⟨_,ah hids⟩
   have hxy2:=De (k:=0) (xs:=(ds.map kR).map fun kv=>kV kv.1) (i:=i) (x:=.str e.1) (by rw [ai,ai,hi];rfl)
   rw [hxy2,cB] at hxy
   obtain⟨rfl,rfl⟩:V.int (i:Int)=x/\V.str e.1=y:=by simpa using hxy
   have hi2:sw[i]? = some e:=by rw [<- ed,ai,hi];rfl
   have hta:=(hd _ (af hi)).2
   have nta:ta≠d:=fun z=>by rw [z,od] at hta;cases hta
   have hoke:=hw.sets e (af hi2)
   have hv:Bp (ds.map kR) (.inr e.1)=some (.ref ta):=Da (E5 ed hw.2.2.1) (by rw [ai,hi];rfl)
   have nk:=Pu ee hi2 hw.2.2.1
   have les:es.length=i:=by
    have:=congrArg bv ee
    rw [ac,aF] at this
    omega
   have ST:=Same.upd (o:=.tup [.int (i:Int),.str e.1]) hT
   refine⟨_,.inl (SqT.of Ad),rfl,?_⟩
   show Ah _ _ _ [some (.ref d),some (.ref l),some (.ref s),some (.int (i:Int)),some (.str e.1),v5,v6] (upd H1 T (.tup [.int (i:Int),.str e.1]))
   generalize upd H1 T (.tup [.int (i:Int),.str e.1])=H2 at ST ⊢
   have O2:=O1.up ST
   have f2:=ST _ _ f1
   have e2s:=ST _ _ e1s
   intro q hq
   have nqd:q≠d:=(Aj f2 hq).symm
   have nqs:q≠s:=(Aj e2s hq).symm
   have fq:H q=none:=O2.free nqd hq
   have Sq:=Same.upd (o:=.dK []) hq
   have eq:upd H2 q (.dK []) q=some (.dK []):=Ad
   refine .inl ?_
   show Fe K (Aa 2) (Aa 4) (.ref q) [some (.ref d),some (.ref l),some (.ref s),some (.int (i:Int)),some (.str e.1),v5,v6] (upd H2 q (.dK [])) _
   generalize upd H2 q (.dK [])=H3 at Sq eq ⊢
   refine⟨_,DPut.k (k:=.inr e.1) (Sq _ _ e2s) ?_,?_⟩
   ·rw [ac]
    have:=hw.2.1
    exact aD (show es.length<=5 by omega) (by decide)
   rw [Pp nk]
   have O4:Off d H (upd H3 s (.dK ((es++[(e,q)]).map kR))):=(O2.up Sq).set hs
   have f4:upd H3 s (.dK ((es++[(e,q)]).map kR)) d=some (.frz o (.dK (ds.map kR))):=by rw [Ak nds];exact Sq _ _ f2
   have e4s:upd H3 s (.dK ((es++[(e,q)]).map kR)) s=some (.dK ((es++[(e,q)]).map kR)):=Ad
   have e4q:upd H3 s (.dK ((es++[(e,q)]).map kR)) q=some (Wg (Af sw) i (e.2.take 0)):=by rw [Ak nqs];exact eq
   have he4:∀ j x,es[j]? = some x->H x.2=none/\upd H3 s (.dK ((es++[(e,q)]).map kR)) x.2=some (Wg (Af sw) j x.1.2)/\x.2≠q/\x.2≠s:=fun j x hx=>by
    obtain⟨a1,a2⟩:=he j x hx
    have b1:=Aj (ST _ _ a2) hq
    have b2:x.2≠s:=fun z=>by
     rw [z,e1s] at a2
     unfold Wg at a2
     have a3:es.map kR=x.1.2.map fun z=>((.inr z:Key),V.int (Cl (Af sw) j z)):=by injection (aE a2)
     have m1:kR x∈es.map kR:=List.mem_map_of_mem (af hx)
     rw [a3] at m1
     obtain⟨y,_,hy⟩:=List.mem_map.mp m1
     injection hy with _ hy
     cases hy
    refine⟨a1,?_,b1,b2⟩
    rw [Ak b2];exact Sq _ _ (ST _ _ a2)
   generalize upd H3 s (.dK ((es++[(e,q)]).map kR))=H4 at O4 f4 e4s e4q he4 ⊢
   have nd4:(((es++[(e,q)]).map kR).map (·.1)).Nodup:=E5 (Hd ee hi2) (by rw [List.map_take];exact hw.2.2.1.sublist (List.take_sublist _ _))
   have hq4:Bp ((es++[(e,q)]).map kR) (.inr e.1)=some (.ref q):=Da (i:=es.length) nd4 (by rw [ai,bB (ak _),eo];rfl)
   refine⟨.ref ta,.inl ⟨_,.inr e.1,.inr ⟨o,f4⟩,rfl,hv.symm⟩,.inr (.inl ⟨⟨_,SqT.of (O4 _ _ nta hta)⟩,?_⟩)⟩
   refine A5 (at9 (e.2.map V.str)) (fun m σ H'=>(∃ v5 v6,σ=[some (.ref d),some (.ref l),some (.ref s),some (.int (i:Int)),some (.str e.1),v5,v6])/\Off d H H'/\H' d=some (.frz o (.dK (ds.map kR)))/\H' s=some (.dK ((es++[(e,q)]).map kR)) /\
     H' q=some (Wg (Af sw) i (e.2.take m)) /\ ∀ j x,es[j]? = some x->H' x.2=some (Wg (Af sw) j x.1.2))
    ⟨⟨_,_,rfl⟩,O4,f4,e4s,e4q,fun j x hx=>(he4 j x hx).2.1⟩ (fun m σ H' _ q=>SqT.of (q.2.1 _ _ nta hta)) ?_ ?_
   ·rintro m x σ H5 hx ⟨⟨v5,v6,rfl⟩,O5,f5,e5s,e5q,he5⟩
    obtain⟨z,hz,rfl⟩:=Ao hx
    refine .inl ⟨⟨_,SqL.of (O5 _ _ nld ol)⟩,?_⟩
    refine be9 et (O5 _ _ nld ol) (fun x hx=>O5 _ _ (fun e=>by have:=(htp x hx).2;rw [e,od] at this;cases this) (htp x hx).2) (fun r hr=>by rw [rlen r hr];exact hi') few fun D H6 S6 hD eD=>?_
    refine⟨D,_,rfl,SqL.of eD,(fun n hn=>?_),?_⟩
    ·have:=Pi i z (Af sw) 0 n hn
     omega
    show Fe K (Ae (Aq K) (Aa 2) (Aa 4)) (Aa 5) (.int (Cl (Af sw) i z)) [some (.ref d),some (.ref l),some (.ref s),some (.int (i:Int)),some (.str e.1),some (.str z),some (.ref D)] H6 _
    refine⟨.ref q,.inl ⟨_,.inr e.1,.inl (S6 _ _ e5s),rfl,hq4.symm⟩,_,DPut.k (k:=.inr z) (S6 _ _ e5q) ?_,?_⟩
    ·rw [ac,aF]
     have:=hoke.2.2
     exact aD (show min m e.2.length<=4 by omega) (by decide)
    rw [Z7 hz hoke.1.2.1]
    refine⟨⟨_,_,rfl⟩,(O5.up S6).set fq,?_,?_,Ad,fun j x hx=>?_⟩
    ·rw [Ak (cA nqd)];exact S6 _ _ f5
    ·rw [Ak (cA nqs)];exact S6 _ _ e5s
    ·rw [Ak (he4 j x hx).2.2.1];exact S6 _ _ (he5 j x hx)
   ·rintro σ H5 ⟨⟨v5,v6,rfl⟩,O5,f5,e5s,e5q,he5⟩
    rw [ac,aL] at e5q
    refine .inl ⟨⟨_,_,_,_,rfl⟩,O5,f5,es++[(e,q)],Hd ee hi2,e5s,fun j x hx=>?_⟩
    by_cases hj:j<es.length
    ·rw [cO hj] at hx
     exact⟨(he4 j x hx).1,he5 j x hx⟩
    ·have hj2:=An hx
     rw [aJ] at hj2
     have hj3:j=es.length:=by have:[(e,q)].length=1:=rfl;omega
     subst hj3
     rw [bB (ak _),eo] at hx
     have:(e,q)=x:=by simpa using hx
     subst this
     rw [les]
     exact⟨fq,e5q⟩
  ·rintro σ H1 ⟨⟨v3,v4,v5,v6,rfl⟩,O1,f1,es,ee,e1s,he⟩
   rw [len,aL] at ee
   refine .inr ⟨d,o,_,od1,f1,?_⟩
   refine k _ s (O1.thaw od) ⟨es,ee,⟨hs,?_⟩,fun j x hx=>⟨(he j x hx).1,?_⟩⟩
   ·rw [Ak (cA nds)];exact e1s
   ·rw [Ak (fun z=>by have:=(he j x hx).1;rw [z,od] at this;cases this)];exact (he j x hx).2
theorem Y3 (l:List Str):(l.map V.str).all Bs=true:=by rw [e8,aY];exact fun _ _=>rfl
theorem C7 {sw:Sw} {i:Nat} {x:Str×List Str} (h:sw[i]? = some x) (nd:(sw.map (·.1)).Nodup):Cn sw x.1=i:=by
 have hi:=An h
 have ex:sw[i]=x:=by rw [ah hi] at h;exact aE h
 unfold Cn
 rw [List.findIdx_eq hi]
 refine⟨by rw [ex];simp,fun j hj=>?_⟩
 have hj2:j<sw.length:=by omega
 refine decide_eq_false fun e=>?_
 have:=(cK (i:=j) (j:=i) (h₀:=by rw [ac];exact hj2) (h₁:=by rw [ac];exact hi) nd).mp (by rw [du,du,e,ex])
 omega
theorem Tx {rows:List (List Str)} {i:Nat} {l:List Str} {z:Str} (nd:l.Nodup) (h:z∈l):Bp (l.map fun z=>((.inr z:Key),V.int (Cl rows i z))) (.inr z)=some (.int (Cl rows i z)):=by
 obtain⟨j,hj,e⟩:=List.mem_iff_getElem.mp h
 refine Da (i:=j) ?_ ?_
 ·rw [bd];exact N3 nd
 ·rw [ai,ah hj,e];rfl
theorem b25 {f:Addr} {fd:aB} (Z:A0 K t) (F:FunD K "term" "Panel.term" V8 f fd .none) (T:Tab P w K mg base 3 (Y8 K t) bl):FnOk P w K mg base CX0 4 f fd af2 (a99 K t):=by
 refine F.okW0 ca1 cg3 T (b75 K t) (fun vs H Q E h=>?_) (fun vs H Q E h=>?_)
 ·obtain⟨p,a,l,s,wd,ss,sw,rfl,_⟩:=h;rfl
 ·obtain⟨p,a,l,s,wd,ss,sw,rfl,⟨dx,fs,⟨_,hp⟩,hl,hs,hm⟩,⟨ds,ed,⟨_,os⟩,hd⟩,hw,ha,⟨ne,hL,x,hx,ex,hin⟩,k⟩:=h
  have ex:x.1=wd:=ex
  have ne:ss≠[]:=ne
  have hL:okL ss:=hL
  have hin:∀ z∈ss,z∈x.2:=hin
  subst ex
  obtain⟨i,hi2⟩:=List.mem_iff_getElem?.mp hx
  have hids:i<ds.length:=by have:=An hi2;rw [<- ed,ac] at this;exact this
  obtain⟨⟨x',q⟩,hi⟩:∃ z,ds[i]? = some z:=⟨_,ah hids⟩
  have:x'=x:=by
   rw [<- ed,ai,hi] at hi2
   exact aE hi2
  subst this
  have oq:=(hd i _ hi).2
  have hok:=hw.sets x' hx
  have hv:Bp (ds.map kR) (.inr x'.1)=some (.ref q):=Da (E5 ed hw.2.2.1) (by rw [ai,hi];rfl)
  have pl:=C7 hi2 hw.2.2.1
  have cl:=Z.pf.cl
  have na:NoAttr K t.c_zbg "sets" := Z.pf.na _ (by simp)
  have gq:∀ {H'},Same H H'->DGet H' s (.str x'.1) (some (.ref q)):=fun S=>.inl ⟨_,.inr x'.1,.inl (S _ _ os),rfl,hv.symm⟩
  refine⟨rfl,?_⟩
  refine iP ⟨_,_,_,_,hp,cl,na,hs,?_⟩
  refine .inr ⟨_,gq (Same.refl _),?_⟩
  refine⟨a,ss,rfl,SqL.of ha,hL,fun H1 S1=>⟨by decide,fun e he=>.inl ⟨a,e,_,_,rfl,rfl,(S1.trans (Same.upd he)).seqL (SqL.of ha),SqL.of Ad,Y3 ss,rfl,Ew ?_ ?_⟩⟩⟩
  ·exact Hc (by rw [ac];intro z;exact ne (List.length_eq_zero_iff.mp z))
  have S2:=S1.trans (Same.upd (o:=.lst []) he)
  generalize upd H1 e (.lst [])=H2 at S2 ⊢
  refine .inl ⟨⟨_,S2.seqL (SqL.of ha)⟩,?_⟩
  refine Rg (K:=K) (σ:=[none,some (.ref p),some (.str x'.1)]) (As (ss.map V.str)) (fun σ=>∃ v,σ=[v,some (.ref p),some (.str x'.1)]) (fun H3 S3=>(S2.trans S3).seqL (SqL.of ha)) ?_ ⟨_,rfl⟩ (fun σ x ⟨v,e⟩=>⟨some x,by rw [e];rfl⟩) ?_ fun D3 H3 S3 q3=>⟨_,q3,?_⟩
  ·rw [ac];exact aD hL.2.2 (by decide)
  ·rintro y σ H3 Q1 hy ⟨v,rfl⟩ S3 q1
   obtain⟨z,hz,rfl⟩:=List.mem_map.mp hy
   have S:=S2.trans S3
   refine iP ⟨_,_,_,_,(S _ _ hp),cl,na,hs,⟨.ref q,gq S,.inr ⟨_,.inl ⟨_,.inr z,.inl (S _ _ oq),rfl,rfl⟩,?_⟩⟩⟩
   rw [Tx hok.1.2.1 (hin z hz)]
   exact q1 H3 (Same.refl _)
  ·rw [W7]
   have S:=S2.trans S3
   refine .inl ⟨⟨_,S.seqL (SqL.of ha)⟩,fun D hD=>?_⟩
   refine Oy (As (ss.map V.str)) (fun σ=>∃ v,σ=[v,some (.ref p),some (.str x'.1)]) (fun _=>true) (fun v=>match v with | .str z=>.int (Cl (Af sw) i z)|_=>.non) hD (fun H4 S4=>(S.trans S4).seqL (SqL.of ha)) ?_ ⟨_,rfl⟩ ?_ ?_
   ·rw [ac];exact aD hL.2.2 (by decide)
   ·rintro y σ H4 hy ⟨v,rfl⟩ S4 Fin Skip hF hK
    obtain⟨z,hz,rfl⟩:=List.mem_map.mp hy
    have S5:=S.trans S4
    refine (iP ⟨_,_,_,_,(S5 _ _ hp),cl,na,hs,⟨.ref q,gq S5,.int (Cl (Af sw) i z),.inl ⟨_,.inr z,.inl (S5 _ _ oq),rfl,?_⟩,?_⟩⟩)
    ·rw [Tx hok.1.2.1 (hin z hz)]
    ·exact hF _ _ _ ⟨_,rfl⟩ (Same.refl _) rfl rfl
   ·intro H4 S4 eD
    refine⟨D,ss.map (Cl (Af sw) i),rfl,SqL.of (eD.trans ?_),?_⟩
    ·rw [List.filter_eq_self.mpr (fun _ _=>rfl),bd,bd];rfl
    ·have:=k H4 (S.trans S4)
     unfold Jr at this
     rw [pl] at this
     exact this
theorem b31 {f:Addr} {fd:aB} (Z:A0 K t) (F:FunD K "box" "Panel.box" We f fd .none) (T:Tab P w K mg base 4 (Y9 K t) bl):FnOk P w K mg base CX0 5 f fd af8 (ba0 K t):=by
 refine F.okW0 ca7 cg9 T (b81 K t) (fun vs H Q E h=>?_) (fun vs H Q E h=>?_)
 ·obtain⟨p,r,l,s,sw,rule,rfl,_⟩:=h;rfl
 ·obtain⟨p,r,l,s,sw,rule,rfl,hs,ht,hse,hw,⟨ds,ed,⟨_,od⟩,hd⟩,hr,k⟩:=h
  obtain⟨dx,fs,⟨np,hp⟩,_,_,hm⟩:=id hs
  have len:ds.length=rule.length:=by rw [<- ed];simp
  refine⟨_,true,.of (.dK od),rfl,⟨p,dx,fs,⟨t.c_zbg,ax6 K t⟩,rfl,.head _,hp,hm _ (by decide),⟨aC rfl,aC rfl⟩,p,l,s,sw,rfl,hs.mono Kp.any,ht.mono Kp.any,hw.len,?_⟩⟩
  refine .inr (.inr (.inl ⟨_,od,fun o=>?_⟩))
  have kf:Kp (· ≠ r) H (· ≠ r) (upd H r (.frz o (.dK (ds.map kR)))):=Kp.off (fun e=>e rfl)
  have ef:upd H r (.frz o (.dK (ds.map kR))) r=some (.frz o (.dK (ds.map kR))):=Ad
  have hd2:∀ x∈ds,upd H r (.frz o (.dK (ds.map kR))) x.2=some (Bi x.1.2):=fun x hx=>by
   rw [Ak (fun e=>by have:=(hd x hx).2;rw [e,od] at this;cases this)]
   exact (hd x hx).2
  show aa9 (Itd r o (ds.map kR)) _ _ _ [some (.ref p),some (.ref r),some (.int (On sw)),none] _
  generalize hHf:upd H r (.frz o (.dK (ds.map kR)))=Hf at kf ef hd2 ⊢
  refine A5 (Qm (ds.map kR)) (fun i σ H'=>(∃ v3,σ=[some (.ref p),some (.ref r),some (.int ((rule.take i).foldl (fun c e=>aS c (Jr sw e)) (On sw))),v3])/\Same Hf H') ⟨⟨_,rfl⟩,Same.refl _⟩ (fun i σ H' _ q=>q.2 _ _ ef) ?_ ?_
  ·rintro i x σ H1 hx ⟨⟨v3,rfl⟩,S1⟩
   obtain⟨kv,hi0,rfl⟩:=Ao hx
   obtain⟨⟨e,la⟩,hi,rfl⟩:=Ao hi0
   have hi2:rule[i]? = some e:=by rw [<- ed,ai,hi];rfl
   have hv:Bp (ds.map kR) (.inr e.1)=some (.ref la):=Da (E5 ed hr.1) hi0
   have kn:Kp (· ≠ r) H any H1:=(kf.trans (Kp.same S1)).trans Kp.any
   refine⟨p,dx,fs,⟨t.c_zbg,bf4 K t⟩,rfl,.head _,(kn _ _ ⟨np,hp⟩).2,hm _ (by decide),⟨aC rfl,aC rfl⟩,.ref la,.inl ⟨_,.inr e.1,.inr ⟨o,S1 _ _ ef⟩,rfl,hv.symm⟩,?_⟩
   refine⟨p,la,l,s,e.1,e.2,sw,rfl,hs.mono kn,hse.mono kn,hw,S1 _ _ (hd2 _ (af hi)),hr.2 e (af hi2),fun H2 S2=>?_⟩
   exact⟨⟨_,congrArg (fun z=>[some (V.ref p),some (V.ref r),some (V.int z),some (V.str e.1)]) (Ck hi2 (fun c e=>aS c (Jr sw e)) (On sw)).symm⟩,S1.trans S2⟩
  ·rintro σ H1 ⟨⟨v3,rfl⟩,S1⟩
   rw [ac,ac,len,aL]
   exact .inr ⟨r,o,_,od,S1 _ _ ef,k _ (Same.thaw od (hHf▸S1))⟩
theorem b13 {f:Addr} {fd:aB} (Z:A0 K t) (F:FunD K "read_rule" "Panel.read_rule" Vx f fd .none) (T:Tab P w K mg base 5 (ax1 K t) bl):FnOk P w K mg base CX0 6 f fd ae2 (a94 K t):=by
 refine F.okW0 b89 cf1 T (b63 K t) (fun vs H Q E h=>?_) (fun vs H Q E h=>?_)
 ·obtain⟨p,r,l,s,sw,rule,rfl,_⟩:=h;rfl
 ·obtain⟨p,r,l,s,sw,rule,rfl,hs,ht,hse,hw,hrl,hr,k⟩:=h
  obtain⟨ds,ed,⟨_,od⟩,hd⟩:=id hrl
  obtain⟨dx,fs,⟨np,hp⟩,_,_,hm⟩:=id hs
  have len:ds.length=rule.length:=by rw [<- ed];simp
  have pos:0<rule.length:=List.length_pos_iff.mpr hr.1
  refine⟨_,true,.of (.dK od),rfl,(.inr ⟨_,.inl od,Ew ?_ ?_⟩)⟩
  ·refine decide_eq_false fun e=>?_
   rw [ac] at e
   omega
  refine⟨p,dx,fs,⟨t.c_zbg,ax8 K t⟩,rfl,.head _,hp,hm _ (by decide),⟨aC rfl,aC rfl⟩,p,r,l,s,sw,rule,rfl,hs,ht,hse,hw,hrl,⟨hr.2.2.1,hr.2.2.2⟩,fun H1 S1=>?_⟩
  exact⟨r,rule,rfl,hrl.mono (Kp.same S1),hr.2.2.1,hr.2.1,fun H2 c S2 R2=>k H2 c (S1.trans S2) (R2.mono (Kp.fresh S1))⟩
theorem b08 {f:Addr} {fd:aB} (Z:A0 K t) (F:FunD K "read_rules" "Panel.read_rules" Vu f fd .none) (T:Tab P w K mg base 6 (ax2 K t) bl):FnOk P w K mg base CX0 7 f fd ad9 (a93 K t):=by
 refine F.okW0 b86 ce8 T (b60 K t) (fun vs H Q E h=>?_) (fun vs H Q E h=>?_)
 ·obtain⟨p,l,s,ok,v,sw,rules,rfl,_⟩:=h;rfl
 ·obtain⟨p,l,s,ok,v,sw,rules,rfl,hs,ht,hse,hw,hv,hr,h8,k⟩:=h
  rcases hv with ⟨rfl,rfl⟩|⟨kk,rfl,ds,ed,⟨nk,ok1⟩,hd⟩
  ·refine⟨by decide,fun q hq=>k _ q (Same.upd hq) ⟨[],rfl,⟨hq,Ad⟩,fun x hx=>by cases hx⟩⟩
  ·obtain⟨dx,fs,⟨op,hp⟩,_,_,hm⟩:=id hs
   have len:(ds.map fun x=>V.ref x.2).length=rules.length:=by rw [<- ed];simp
   refine⟨_,true,.sqL rfl (SqL.of ok1) rfl,rfl,(.inl ⟨_,.inl (SqL.of ok1),Ew ?_ ?_⟩)⟩
   ·refine decide_eq_false fun e=>?_
    rw [len] at e
    omega
   refine .inl ⟨⟨_,SqL.of ok1⟩,fun D hD=>?_⟩
   refine Cs (As (ds.map fun x=>V.ref x.2)) (fun m σ H'=>(∃ v,σ=[v,some (.ref p)])/\Same H H' /\ ∃ fs:List (Sw×Addr),fs.map (·.1)=rules.take m/\H' D=some (.lst (fs.map fun x=>.ref x.2)) /\ ∀ x∈fs,RuleAt (fun a=>H a=none/\a≠D) H' x.2 x.1)
    ⟨⟨_,rfl⟩,Same.upd hD,[],rfl,Ad,fun x hx=>by cases hx⟩ (fun m σ H' _ q=>q.2.1.seqL (SqL.of ok1)) ?_ ?_
   ·rintro m x σ H1 hx ⟨⟨v,rfl⟩,S1,gs,eg,eD,hg⟩
    obtain⟨⟨rule,r⟩,hm2,rfl⟩:=Ao hx
    have hm3:rules[m]? = some rule:=by rw [<- ed,ai,hm2];rfl
    have hrl:=hd _ (af hm2)
    have nr:¬ ok r:=by obtain⟨_,_,o,_⟩:=hrl;exact o.1
    have kw:Kp ok H (· ≠ r) H1:=(Kp.same S1).trans (Kp.weak fun a h e=>nr (e▸h))
    refine⟨p,dx,fs,⟨t.c_zbg,bf1 K t⟩,rfl,.head _,S1 _ _ hp,hm _ (by decide),⟨aC rfl,aC rfl⟩,p,r,l,s,sw,rule,rfl,hs.mono kw,ht.mono kw,hse.mono kw,hw,hrl.mono ((Kp.same S1).trans Kp.any),hr rule (af hm3),fun H2 c S2 R2=>?_⟩
    have eD2:=S2 _ _ eD
    refine⟨_,eD2,?_,⟨_,rfl⟩,(S1.trans S2).set hD,gs++[(rule,c)],Hd eg hm3,?_,?_⟩
    ·rw [ac]
     have:=Uv eg
     exact aD (show gs.length<=8 by omega) (by decide)
    ·rw [Ad,aq];rfl
    ·have ko:Kp (fun a=>H a=none/\a≠D) H2 (fun a=>H a=none/\a≠D) (upd H2 D (.lst ((gs.map fun x=>V.ref x.2)++[.ref c]))):=Kp.off (fun e=>e.2 rfl)
     intro x hx
     rcases List.mem_append.mp hx with hx|hx
     ·exact (hg x hx).mono ((Kp.same S2).trans ko)
     ·have:x=(rule,c):=by simpa using hx
      subst this
      exact R2.mono ((Kp.weak fun a h=>⟨S1.free h,(Aj eD h).symm⟩).trans ko)
   ·rintro σ H1 ⟨_,S1,gs,eg,eD,hg⟩
    rw [len,aL] at eg
    exact k H1 D S1 ⟨gs,eg,⟨hD,eD⟩,fun x hx=>(hg x hx).mono (Kp.weak fun a h=>h.1)⟩
theorem Fl (m n:Nat):decide (aS ((m:Int) / 2 ^ ((n:Int)).toNat) 1=1)=m.testBit n:=by
 rw [aG,C9,<- Int.natCast_ediv,show (1:Int)=((1:Nat):Int) from rfl,B3,kr,Nat.testBit_eq_decide_div_mod_eq]
 exact decide_eq_decide.mpr (by omega)
theorem b15 {f:Addr} {fd:aB} (Z:A0 K t) (F:FunD K "switches" "Panel.switches" Vy f fd .none) (T:Tab P w K mg base 0 (Bk K t) bl):FnOk P w K mg base CX0 1 f fd ae3 (a95 K t):=by
 refine F.okW0 b90 cf2 T (b64 K t) (fun vs H Q E h=>?_) (fun vs H Q E h=>?_)
 ·obtain⟨p,sw,rules,rfl,_⟩:=h;rfl
 ·obtain⟨p,sw,rules,rfl,⟨dx,d,l,n,s,kk,b,h⟩,hw,k⟩:=h
  obtain⟨ds,ed,⟨_,od⟩,hd⟩:=h.sws
  have len:ds.length=sw.length:=by rw [<- ed];simp
  refine iP ⟨_,_,_,_,h.ins.2,Z.pf.cl,(Z.pf.na _ (by simp)),rfl,⟨_,.inl od,?_,fun q Ts H' S hq eq lt la=>?_⟩⟩
  ·rw [ac,len];have:=hw.2.1;omega
  have lt:Ts.length=ds.length:=by rw [lt,ac]
  refine k H' q (ds.zip Ts) S hq ?_ ?_ ?_
  ·rw [<- ed,show (ds.zip Ts).map (·.1.1)=((ds.zip Ts).map (·.1)).map (·.1) by rw [bd];rfl,List.map_fst_zip (by omega)]
  ·rw [eq,show ((ds.zip Ts).map fun x=>V.ref x.2)=((ds.zip Ts).map (·.2)).map V.ref by rw [bd];rfl,List.map_snd_zip (by omega)]
  ·intro x hx
   obtain⟨j,hj,e⟩:=List.mem_iff_getElem.mp hx
   have e2:(ds.zip Ts)[j]? = some x:=by rw [ah hj,e]
   obtain⟨x1,x2⟩:=x
   rw [List.getElem?_zip_eq_some] at e2
   obtain⟨e3,e4⟩:=e2
   have hl:=la j _ _ x2 (show (ds.map kR)[j]? = some (.inr x1.1.1,.ref x1.2) by rw [ai,e3];rfl) e4
   exact⟨hl.2,S _ _ (hd x1 (af e3)).2⟩
theorem b19 {f:Addr} {fd:aB} (Z:A0 K t) (F:FunD K "parted" "Panel.parted" V3 f fd .none) (T:Tab P w K mg base 0 (Bk K t) bl):FnOk P w K mg base CX0 1 f fd ae6 (a97 K t):=by
 refine F.okW0 b95 cf7 T (b69 K t) (fun vs H Q E h=>?_) (fun vs H Q E h=>?_)
 ·obtain⟨p,i,x,sw,rules,rfl,_⟩:=h;rfl
 ·obtain⟨p,i,x,sw,rules,rfl,⟨dx,d,l,n,s,kk,b,h⟩,hw,hi,k⟩:=h
  obtain⟨ds,ed,⟨_,od⟩,hd⟩:=h.sts
  obtain⟨⟨x',q⟩,hi',ex⟩:∃ m,ds[i]? = some m/\x=m.1:=Ao (by rw [ed];exact hi)
  have ex:x=x':=ex
  subst ex
  have hv:Bp (ds.map kR) (.inr x.1)=some (.ref q):=Da (E5 ed hw.2.2.1) (by rw [ai,hi'];rfl)
  have oq:=(hd i _ hi').2
  have hk:=hw.sets x (af hi)
  refine iP ⟨_,_,_,_,h.ins.2,Z.pf.cl,(Z.pf.na _ (by simp)),rfl,⟨.ref q,.inl ⟨_,.inr x.1,.inl od,rfl,hv.symm⟩,_,.inl oq,?_,fun r Ts H' S hq eq lt la=>k H' r S ⟨Ts,eq,?_,fun j y z T e1 e2=>?_⟩⟩⟩
  ·rw [ac];have:=hk.2.2;show x.2.length<1000;omega
  ·rw [lt,ac,ac]
  ·rw [ai] at e1
   cases e:x.2[j]? with
   | none=>rw [e] at e1;cases e1
   | some z'=>
    rw [e] at e1
    cases e1
    exact (la j (.inr z') (.int (Cl (Af sw) i z')) T (by rw [ai,e];rfl) e2).2
theorem Gv {f:Str} {p C dx:Addr} {fs fs':List (Str×V)} {y:V} {H:Hp} {N:Hp->Prop} (hp:H p=some (.ins C dx fs)) (c:Cls K C) (n:NoAttr K C f) (l:fs.length<1000) (e:Fy f y fs=fs') (k:∀ H',(∀ b,b≠p->H' b=H b)->H' p=some (.ins C dx fs')->N H'):ap5 K f (.ref p) y H N:=
 .inl ⟨C,dx,fs,hp,c,n,l,k _ (fun b hb=>Ak hb) (by rw [Ad,e])⟩
theorem Kp.but {ok:Addr->Prop} {p:Addr} {H H':Hp} (h:∀ b,b≠p->H' b=H b) (n:¬ ok p):Kp ok H ok H':=fun a o q=>⟨q.1,by rw [h a (fun e=>n (e▸q.1))];exact q.2⟩
theorem Off.but {p:Addr} {H H1 H2:Hp} (h:Off p H H1) (e:∀ b,b≠p->H2 b=H1 b):Off p H H2:=fun b u n q=>by rw [e b n];exact h b u n q
theorem Off.fr {p:Addr} {u:HO} {H H1:Hp} (h:Off p H H1) (e:H1 p=some u):∀ b,H1 b=none->H b=none:=fun b q=>h.free (fun z=>by rw [z,e] at q;cases q) q
structure Pc (ok:Addr->Prop) (H:Hp) (d l n s:Addr) (sw:Sw):Prop where
 sws:SwAt ok H d sw
 tps:TupsAt ok H l (Af sw)
 nms:NumAt ok H n (Af sw)
 sts:SetsAt ok H s sw
theorem Pc.mono {ok ok':Addr->Prop} {H H':Hp} {d l n s:Addr} {sw:Sw} (h:Pc ok H d l n s sw) (k:Kp ok H ok' H'):Pc ok' H' d l n s sw:=⟨h.sws.mono k,h.tps.mono k,h.nms.mono k,h.sts.mono k⟩
noncomputable abbrev fl1 (d:Addr):List (Str×V):=[("settings", .ref d)]
noncomputable abbrev fl2 (d l:Addr):List (Str×V):=[("settings", .ref d),("tuples", .ref l)]
noncomputable abbrev fl3 (d l n:Addr):List (Str×V):=[("settings", .ref d),("tuples", .ref l),("numbers", .ref n)]
noncomputable abbrev fl4 (d l n s:Addr):List (Str×V):=[("settings", .ref d),("tuples", .ref l),("numbers", .ref n),("sets", .ref s)]
noncomputable abbrev fl5 (d l n s k:Addr):List (Str×V):=[("settings", .ref d),("tuples", .ref l),("numbers", .ref n),("sets", .ref s),("kept_rules", .ref k)]
noncomputable abbrev fl6 (d l n s k b:Addr):List (Str×V):=[("settings", .ref d),("tuples", .ref l),("numbers", .ref n),("sets", .ref s),("kept_rules", .ref k),("bars", .ref b)]
theorem Px {fs:List (Str×V)} (h:fs.lookup ("all_choices" : Str)=none/\fs.lookup ("box" : Str)=none/\fs.lookup ("many" : Str)=none/\fs.lookup ("term" : Str)=none/\fs.lookup ("read_rule" : Str)=none/\fs.lookup ("read_rules" : Str)=none):∀ m∈(["all_choices", "box", "many", "term", "read_rule", "read_rules"]:List Str),fs.lookup m=none:=by
 intro m hm
 simp only [aX,eU,or_false] at hm
 rcases hm with rfl|rfl|rfl|rfl|rfl|rfl
 ·exact h.1
 ·exact h.2.1
 ·exact h.2.2.1
 ·exact h.2.2.2.1
 ·exact h.2.2.2.2.1
 ·exact h.2.2.2.2.2
theorem b23 {f:Addr} {fd:aB} (Z:A0 K t) (F:FunD K "__init__" "Panel.__init__" Iz f fd t.dv_zq) (T:Tab P w K mg base 7 (ax3 K t) bl):FnOk P w K mg base CX0 8 f fd af0 (ar7 K t):=by
 refine F.okW0 b99 cg1 T (b73 K t) (fun vs H Q E h=>?_) (fun vs H Q E h=>?_)
 ·obtain⟨p,a,dx,v,sw,rules,rfl,_⟩:=h;rfl
 ·obtain⟨p,a,dx,v,sw,rules,rfl,hp,hsw,hw,hrl,hr,h8,hf,k⟩:=h
  have cl:=Z.pf.cl
  have na:=Z.pf.na
  have nf:¬ fresh H p:=(Gh hp)
  refine⟨a,sw,rfl,hsw.mono Kp.any,hw,fun H1 d S1 A1=>?_⟩
  refine Gv (S1 _ _ hp) cl (na _ (by simp)) (aC rfl) (fs':=fl1 d) rfl fun H2 b2 p2=>?_
  have O2:Off p H H2:=fun b u n e=>by rw [b2 b n];exact S1 _ _ e
  have A2:=A1.mono (Kp.but b2 nf)
  refine iP ⟨_,_,_,_,p2,cl,(na _ (by simp)),rfl,⟨d,sw,rfl,A2.mono Kp.any,hw,fun H3 l S3 T3=>?_⟩⟩
  refine Gv (S3 _ _ p2) cl (na _ (by simp)) (aC rfl) (fs':=fl2 d l) rfl fun H4 b4 p4=>?_
  have O4:=(O2.up S3).but b4
  have A4:=A2.mono ((Kp.same S3).trans (Kp.but b4 nf))
  have T4:=T3.mono ((Kp.weak (O2.fr p2)).trans (Kp.but b4 nf))
  refine iP ⟨_,_,_,_,p4,cl,(na _ (by simp)),rfl,⟨l,Af sw,rfl,T4.mono Kp.any,(Hu hw.sets).1,hw.len,fun H5 n S5 N5=>?_⟩⟩
  refine Gv (S5 _ _ p4) cl (na _ (by simp)) (aC rfl) (fs':=fl3 d l n) rfl fun H6 b6 p6=>?_
  have O6:=(O4.up S5).but b6
  have A6:=A4.mono ((Kp.same S5).trans (Kp.but b6 nf))
  have T6:=T4.mono ((Kp.same S5).trans (Kp.but b6 nf))
  have N6:=N5.mono ((Kp.weak (O4.fr p4)).trans (Kp.but b6 nf))
  refine iP ⟨_,_,_,_,p6,cl,(na _ (by simp)),rfl,(iP ⟨_,_,_,_,p6,cl,(na _ (by simp)),rfl,⟨d,l,sw,rfl,A6.mono Kp.any,T6.mono Kp.any,hw,fun H7 s S7 E7=>?_⟩⟩)⟩
  refine Gv (S7 _ _ p6) cl (na _ (by simp)) (aC rfl) (fs':=fl4 d l n s) rfl fun H8 b8 p8=>?_
  have O8:=(O6.up S7).but b8
  have k78:=(Kp.same (ok:=fresh H) S7).trans (Kp.but b8 nf)
  have P8:Pc (fresh H) H8 d l n s sw:=⟨A6.mono k78,T6.mono k78,N6.mono k78,E7.mono ((Kp.weak (O6.fr p6)).trans (Kp.but b8 nf))⟩
  have P8':Pc (fun b=>H b=none/\H8 b≠none) H8 d l n s sw:=P8.mono fun b o q=>⟨⟨q.1,by rw [q.2];exact fun z=>nomatch z⟩,q.2⟩
  have w8:Kp (fresh H) H8 (fun b=>b=p\/H b=none) H8:=Kp.weak fun b e=>.inr e
  have RI:Em (fun b=>¬ (b=p\/H b=none)) H8 v rules:=by
   rcases hrl with h|⟨kk,e,R⟩
   ·exact .inl h
   ·refine .inr ⟨kk,e,R.mono fun b o q=>⟨fun z=>?_,O8 _ _ q.1 q.2⟩⟩
    rcases z with z|z
    ·exact q.1 z
    ·have:=q.2;rw [z] at this;cases this
  refine⟨p,dx,_,⟨t.c_zbg,bf0 K t⟩,rfl,.head _,p8,rfl,⟨aC rfl,aC rfl⟩,p,l,s,(fun b=>b=p\/H b=none),v,sw,rules,rfl,⟨dx,_,⟨.inl rfl,p8⟩,rfl,rfl,Px ⟨rfl,rfl,rfl,rfl,rfl,rfl⟩⟩,P8.tps.mono w8,P8.sts.mono w8,hw,RI,hr,h8,fun H9 kk S9 R9=>?_⟩
  refine Gv (S9 _ _ p8) cl (na _ (by simp)) (aC rfl) (fs':=fl5 d l n s kk) rfl fun H10 b10 p10=>?_
  have O10:=(O8.up S9).but b10
  have n8:¬ fresh H8 p:=(Gh p8)
  have R10:=R9.mono (Kp.but b10 n8)
  have P10:Pc (fun b=>H b=none/\H8 b≠none) H10 d l n s sw:=P8'.mono ((Kp.same S9).trans (Kp.but b10 (fun e=>nf e.1)))
  obtain⟨rs,er,⟨fk,ok⟩,hrs⟩:=id R10
  have lenr:(rs.map fun x=>V.ref x.2).length=rules.length:=by rw [<- er];simp
  refine iP ⟨_,_,_,_,p10,cl,(na _ (by simp)),rfl,(.inl ⟨⟨_,SqL.of ok⟩,fun D hD=>?_⟩)⟩
  have fD:H D=none:=O10.fr p10 D hD
  refine Cs (As (rs.map fun x=>V.ref x.2)) (fun m σ H'=>(∃ v,σ=[v,some (.ref p)])/\Same H10 H'/\H' D=some (.lst ((Jc sw (rules.take m)).map V.int))) ⟨⟨_,rfl⟩,Same.upd hD,Ad⟩ (fun m σ H' _ q=>q.2.1.seqL (SqL.of ok)) ?_ ?_
  ·rintro m x σ H11 hx ⟨⟨v,rfl⟩,S11,eD⟩
   obtain⟨⟨rule,r⟩,hm2,rfl⟩:=Ao hx
   have hm3:rules[m]? = some rule:=by rw [<- er,ai,hm2];rfl
   have hrl2:=hrs _ (af hm2)
   have nr:H8 r=none:=by obtain⟨_,_,o,_⟩:=hrl2;exact o.1
   have npr:p≠r:=Aj p8 nr
   have kw:Kp (fun b=>H b=none/\H8 b≠none) H10 (· ≠ r) H11:=(Kp.same S11).trans (Kp.weak fun b h e=>h.2 (e▸nr))
   refine⟨p,dx,_,⟨t.c_zbg,ax8 K t⟩,rfl,.head _,S11 _ _ p10,rfl,⟨aC rfl,aC rfl⟩,p,r,l,s,sw,rule,rfl,⟨dx,_,⟨npr,S11 _ _ p10⟩,rfl,rfl,Px ⟨rfl,rfl,rfl,rfl,rfl,rfl⟩⟩,P10.tps.mono kw,P10.sts.mono kw,hw,hrl2.mono ((Kp.same S11).trans Kp.any),(hr rule (af hm3)).2.2,fun H12 S12=>?_⟩
   refine⟨_,S12 _ _ eD,?_,⟨_,rfl⟩,(S11.trans S12).set hD,?_⟩
   ·rw [ac]
    unfold Jc
    rw [ac,aF]
    exact aD (show min m rules.length<=8 by omega) (by decide)
   ·rw [Ad]
    unfold Jc
    rw [Bh hm3,aq]
    rfl
  rintro σ H11 ⟨_,S11,eD⟩
  rw [lenr,aL] at eD
  refine Gv (S11 _ _ p10) cl (na _ (by simp)) (aC rfl) (fs':=fl6 d l n s kk D) rfl fun H12 b12 p12=>?_
  have O12:=(O10.up S11).but b12
  have nDp:D≠p:=(Aj p10 hD).symm
  have B12:H12 D=some (.lst ((Jc sw rules).map V.int)):=by rw [b12 D nDp];exact eD
  have k12:∀ {ok:Addr->Prop},¬ ok p->Kp ok H10 ok H12:=fun h=>(Kp.same S11).trans (Kp.but b12 h)
  have P12:=P10.mono (k12 fun e=>nf e.1)
  have R12:=R10.mono (k12 n8)
  refine⟨p,dx,_,⟨t.c_zbg,ax6 K t⟩,rfl,.head _,p12,rfl,⟨aC rfl,aC rfl⟩,p,l,s,sw,rfl,⟨dx,_,⟨trivial,p12⟩,rfl,rfl,Px ⟨rfl,rfl,rfl,rfl,rfl,rfl⟩⟩,P12.tps.mono Kp.any,hw.len,iP ⟨_,_,_,_,p12,cl,(na _ (by simp)),rfl,⟨D,Jc sw rules,rfl,SqL.of B12,?_⟩⟩⟩
  refine Gv p12 cl (na _ (by simp)) (aC rfl) (fs':=bx8 d l n s kk D (Go sw rules)) rfl fun H14 b14 p14=>?_
  refine iP ⟨_,_,_,_,p14,cl,(na _ (by simp)),rfl,(Ew (decide_eq_false hf) ?_)⟩
  have kk14:∀ {ok:Addr->Prop},¬ ok p->(∀ b,ok b->H b=none)->Kp ok H12 (fun b=>b=p\/H b=none) H14:=fun h g=>(Kp.but b14 h).trans (Kp.weak fun b e=>.inr (g b e))
  have P14:=P12.mono (kk14 (fun e=>nf e.1) fun b e=>e.1)
  refine k H14 ((O12.but b14)) ⟨dx,d,l,n,s,kk,D,⟨.inl rfl,p14⟩,P14.sws,P14.tps,P14.nms,P14.sts,R12.mono (kk14 n8 (O8.fr p8)),⟨.inr fD,?_⟩⟩
  rw [b14 D nDp];exact B12
theorem bh6 {f:Addr} {fd:aB} (Z:A0 K t) (F:FunD K "_law_cell" "_law_cell" Ls f fd .none) (T:Tab P w K mg base 0 (Bk K t) bl):FnOk P w K mg base CX0 1 f fd Q0 (Di K t):=by
 refine F.okW0 bs3 bv4 T (bp8 K t) (fun vs H Q E h=>?_) (fun vs H Q E h=>?_)
 ·obtain⟨a,ns,k,rfl,_⟩:=h;rfl
 ·obtain⟨a,ns,k,rfl,hS,q⟩:=h
  refine .inl ⟨_,.inl hS,?_⟩
  refine Er (fun e=>?_) (fun e=>?_)
  ·have e:(k:Int)<((ns.map V.int).length:Int):=by simpa using e
   have hk:k<ns.length:=by rw [ac] at e;omega
   refine⟨_,_,.inl hS,Ar (j:=k) (by rw [ai,ah hk];rfl),?_⟩
   have:A8 ns k=ns[k]:=by unfold A8;rw [au,ah hk];rfl
   rw [this] at q
   exact q
  ·have e:¬ (k:Int)<((ns.map V.int).length:Int):=by simpa using e
   have hk:ns.length<=k:=by rw [ac] at e;omega
   refine⟨.inr ⟨by decide,by decide⟩,?_⟩
   have:A8 ns k=((k:Int)+3) * 7919:=by unfold A8;rw [au,dv hk];rfl
   rw [this] at q
   exact q
theorem ch6 {c1 c2 c3:Bool} {A B:Prop} (a:A) (b:B):if c1=true then (if c2=true then (if c3=true then A else B) else (if false=true then A else B)) else (if false=true then A else B):=by
 cases c1 <;> cases c2 <;> cases c3 <;> first|exact Dv (Dv b)|exact Dv b|exact Eb (Dv (Dv b))|exact Eb (Eb (Dv b))|exact Eb (Eb (Eb a))
theorem b29 {f:Addr} {fd:aB} (Z:A0 K t) (F:FunD K "_law_stream" "_law_stream" Wc f fd .none) (T:Tab P w K mg base 0 (Bk K t) bl):FnOk P w K mg base CX0 1 f fd af6 (Yc K t):=by
 refine F.okW0 ca5 cg7 T (b79 K t) (fun vs H Q E h=>?_) (fun vs H Q E h=>?_)
 ·obtain⟨c,n,rfl,_⟩:=h;rfl
 ·obtain⟨c,n,rfl,hn,k⟩:=h
  refine⟨by decide,fun l hl=>⟨⟨by decide,by decide⟩,by decide,⟨by omega,by omega⟩,?_⟩⟩
  rw [aG]
  have m1:=bP c (show (2147483629:Int)≠0 by decide)
  have m2:=bK c (show (0:Int)<2147483629 by decide)
  refine A5 (Bq 0 n) (fun i σ H'=>(∃ left num v,σ=[some (.int c),some (.int n),some (.ref l),some (.int left),some (.int num),v]/\0<=num/\num<4294967296)/\Same H H' /\ ∃ ns:List Int,ns.length=i/\H' l=some (.lst (ns.map V.int)) /\ ∀ z∈ns,0<=z)
   ⟨⟨_,_,_,rfl,by omega,by omega⟩,Same.upd hl,[],rfl,Ad,(fun z hz=>by cases hz)⟩ (fun _ _ _ _ _=>bn) ?_ ?_
  ·rintro i x σ H' hx ⟨⟨left,num,v,rfl,u1,u2⟩,S,ns,e1,e2,e3⟩
   obtain⟨hi,rfl⟩:=Dh hx
   refine⟨.inr ⟨by decide,by decide⟩,.inl ⟨by decide,by decide⟩,by decide,by decide,?_⟩
   have w1:=bP (num * 48271+7919 * (i:Int)+1) (show (2147483647:Int)≠0 by decide)
   have w2:=bK (num * 48271+7919 * (i:Int)+1) (show (0:Int)<2147483647 by decide)
   generalize (num * 48271+7919 * (i:Int)+1) % 2147483647=nu at w1 w2 ⊢
   have put:∀ y:Int,0<=y->Same H (upd H' l (.lst (ns.map V.int++[.int y]))) /\ ∃ ns2:List Int,ns2.length=i+1/\upd H' l (.lst (ns.map V.int++[.int y])) l=some (.lst (ns2.map V.int)) /\ ∀ z∈ns2,0<=z:=fun y y1=>
    ⟨S.set hl,ns++[y],by rw [aJ,e1];rfl,by rw [Ad,aq];rfl,fun z hz=>by
     rcases List.mem_append.mp hz with h|h
     ·exact e3 z h
     ·have:z=y:=by simpa using h
      subst this;exact y1⟩
   have hsz:(ns.map V.int).length<sizeLine:=by rw [ac,e1];exact aM (show i<100 by omega) (by decide)
   refine ch6 ?_ ?_
   ·have y1:=bP left (show (268435456:Int)≠0 by decide)
    exact⟨.inl ⟨rfl,_,SqL.of e2⟩,by decide,l,_,_,rfl,rfl,e2,hsz,⟨by decide,by decide⟩,⟨_,_,_,rfl,by omega,by omega⟩,put _ y1⟩
   ·have y1:=bP (nu * nu % 2147483629 * 16807+(i:Int)) (show (2147483587:Int)≠0 by decide)
    exact⟨.inl ⟨rfl,_,SqL.of e2⟩,.inl ⟨by omega,by omega⟩,by decide,.inr ⟨by decide,by decide⟩,by decide,⟨by decide,by decide⟩,l,_,_,rfl,rfl,e2,hsz,⟨_,_,_,rfl,by omega,by omega⟩,put _ (by omega)⟩
  ·rintro σ H' ⟨⟨left,num,v,rfl,_⟩,S,ns,e1,e2,e3⟩
   rw [Bc] at e1
   exact .inl (k _ l ns S hl e2 e1 e3)
noncomputable abbrev lettersS:Str := "abcdefghijklmnopqrstuvwxyz"
theorem Zk:lettersS.cps.toList=(aw 26).map (97 + ·):=by decide +kernel
theorem Gf {i:Int} (h0:0<=i) (h:i<26):atI lettersS.cps.toList i=some (97+i.toNat):=by
 have e:i=((i.toNat:Nat):Int):=by omega
 rw [e,aG]
 refine Ar ?_
 rw [Zk,ai,dt (by omega)]
 rfl
theorem Po (l:List Nat):gF (cS "") (l.map fun k=>(⟨#[k]⟩:Str))=⟨l.toArray⟩:=by
 show Builtin.Str.glued (cS "") _=_
 rw [jz,show cS "" = (⟨#[]⟩:Str) from by decide +kernel]
 exact PyProof.Rows.join_ones l
theorem To (l:List Nat):((l.map fun k=>(⟨#[k]⟩:Str)).map (·.length)).sum+(l.map fun k=>(⟨#[k]⟩:Str)).length * (cS "").length=l.length:=by
 rw [show (cS "").length=0 from by decide +kernel,Nat.mul_zero,Nat.add_zero]
 induction l with
 | nil=>rfl
 | cons a l ih=>rw [aQ,aQ,List.sum_cons,ih,aI,show (⟨#[a]⟩:Str).length=1 from rfl,jp]
theorem Kz {i:Int} (h0:0<=i) (h:i<26):Bx (97+i.toNat)=true:=by
 unfold Bx
 simp
 omega
theorem au6 {l:List Nat} {g:Nat->Nat} (h:∀ j,Bx (g j)=true):(l.map g).all Bx=true:=by rw [e8,aY];exact fun _ _=>h _
theorem a35 {lo:Int} {n i:Nat} {x:V} (h:(Tj lo n)[i]? = some x):i<n/\x=.int (lo+(i:Int)):=by
 have hi:=An h
 rw [Bc] at hi
 rw [Le hi] at h
 exact⟨hi,by simpa using h.symm⟩
theorem ak3 {E:EK} {te:DE} {lo:Int} {n:Nat} {g:Nat->Nat} {rest:St} {H:Hp} {R:Hp->Addr->Prop} (hn:n<=8) (he:∀ (j:Nat) (H1:Hp) (Q1:VK),j<n->(∀ H2,Same H1 H2->Q1 (.str ⟨#[g j]⟩) H2)->te (some (.int (lo+(j:Int)))::rest) H1 Q1 E)
  (k:∀ D H',Same H H'->H D=none->H' D=some (.lst ((((aw n).map g).map fun c=>(⟨#[c]⟩:Str)).map V.str))->R H' D):∀ D,H D=none->E3 (Itr lo n) (gdN 0) Bw te D (fun H'=>R H' D) (none::rest) (upd H D (.lst [])) E:=by
 intro D hD
 refine Cs (Bq lo n) (fun m σ H'=>(∃ v,σ=v::rest)/\Same H H'/\H' D=some (.lst ((((aw m).map g).map fun c=>(⟨#[c]⟩:Str)).map V.str))) ⟨⟨_,rfl⟩,Same.upd hD,Ad⟩ (fun _ _ _ _ _=>bn) ?_ ?_
 ·rintro m x σ H1 hx ⟨⟨v,rfl⟩,S1,eD⟩
  obtain⟨hm,rfl⟩:=a35 hx
  refine (he m H1 _ hm fun H2 S2=>⟨_,S2 _ _ eD,?_,⟨_,rfl⟩,(S1.trans S2).set hD,?_⟩)
  ·rw [ac,ac,ac,bh]
   exact aM (show m<8 by omega) (by decide)
  ·rw [Ad,cG,aq,aq,aq];rfl
 ·rintro σ H1 ⟨_,S1,eD⟩
  rw [Bc] at eD
  exact k D H1 S1 hD eD
theorem Mc {l:List Nat} {n:Int} (h0:0<=n) (h:n.toNat<=l.length):iu ⟨l.toArray⟩ none (some n)=⟨(l.take n.toNat).toArray⟩:=by
 have e:=cJ (PyProof.Rows.slice_closes_to (x:=⟨l.toArray⟩) (j:=n) ⟨h0,by show n<=(l.length:Int);omega⟩)
 rw [e,Int.sub_zero]
 rfl
theorem Wi {l:List Nat} {n:Int} (h0:0<=n) (h:n.toNat<=l.length):iu ⟨l.toArray⟩ (some n) none=⟨(l.drop n.toNat).toArray⟩:=by
 have e:=cJ (PyProof.Rows.slice_closes_from (x:=⟨l.toArray⟩) (i:=n) ⟨h0,by show n<=(l.length:Int);omega⟩)
 rw [e]
 show (⟨((l.drop n.toNat).take ((l.length:Int) - n).toNat).toArray⟩:Str)=_
 rw [dO (by rw [cg];omega)]
theorem Jy (a b:List Nat):((⟨a.toArray⟩:Str)++⟨b.toArray⟩)=⟨(a++b).toArray⟩:=by
 apply a43
 rw [Str.cps_append]
 simp
noncomputable abbrev Ej (c:Int):List Nat:=(aw 7).map (Yf c)
noncomputable abbrev Ff (c:Int):Nat:=(1+c / 4 % 8).toNat
noncomputable abbrev atB (c:Int):Nat:=(c / 32 % (1+c / 4 % 8)).toNat
noncomputable abbrev B8 (c:Int):List Nat:=([97+(c / 256 % 26).toNat]++Ej c).take (Ff c)
theorem J8 {c:Int} (h:c % 4=3) (k:Nat):Bv c k=⟨([97+((c / 4+(k:Int) / 8) % 26).toNat]++(Ej c).take (k % 8)).toArray⟩:=by unfold Bv;rw [if_pos h]
theorem J9 {c:Int} (h:¬ c % 4=3) (k:Nat):Bv c k=⟨((B8 c).take (atB c)++[97+((c / 6656+(k:Int)) % 26).toNat]++(B8 c).drop (atB c+1)).toArray⟩:=by unfold Bv;rw [if_neg h]
theorem Gi (c:Int):(Ej c).length=7:=by simp
theorem aq5 (c:Int):1<=Ff c/\Ff c<=8/\atB c<Ff c/\(B8 c).length=Ff c:=by
 have h1:0<=c / 32 % (1+c / 4 % 8)/\c / 32 % (1+c / 4 % 8)<1+c / 4 % 8:=⟨bP _ (by omega),bK _ (by omega)⟩
 have hs:1<=Ff c/\Ff c<=8:=by show 1<=(1+c / 4 % 8).toNat/\(1+c / 4 % 8).toNat<=8;omega
 refine⟨hs.1,hs.2,?_,?_⟩
 ·show (c / 32 % (1+c / 4 % 8)).toNat<(1+c / 4 % 8).toNat
  omega
 ·show (([97+(c / 256 % 26).toNat]++Ej c).take (Ff c)).length=_
  rw [aF,aJ,Gi]
  show min (Ff c) (1+7)=_
  omega
theorem Tr (c:Int):(Ej c).all Bx=true:=au6 fun j=>Kz (bP _ (by decide)) (bK _ (by decide))
theorem Ki {l:List Nat} {n:Nat} (h:l.all Bx=true):(l.take n).all Bx=true:=List.all_eq_true.mpr fun x hx=>List.all_eq_true.mp h x (dF hx)
theorem ag0 {l:List Nat} {n:Nat} (h:l.all Bx=true):(l.drop n).all Bx=true:=List.all_eq_true.mpr fun x hx=>List.all_eq_true.mp h x (gv hx)
theorem P0 (i:Int):([97+(i % 26).toNat]:List Nat).all Bx=true:=by
 rw [bt,Kz (bP _ (by decide)) (bK _ (by decide))]
 rfl
theorem a48 (c:Int) (k:Nat):okW (Bv c k):=by
 by_cases h:c % 4=3
 ·rw [J8 h]
  have e:([97+((c / 4+(k:Int) / 8) % 26).toNat]++(Ej c).take (k % 8)).length=1+k % 8:=by
   rw [aJ,aF,Gi]
   show 1+min (k % 8) 7=_
   omega
  refine⟨?_,?_,?_⟩
  ·show 1<=([97+((c / 4+(k:Int) / 8) % 26).toNat]++(Ej c).take (k % 8)).toArray.size
   rw [av,e];omega
  ·show ([97+((c / 4+(k:Int) / 8) % 26).toNat]++(Ej c).take (k % 8)).toArray.size<=8
   rw [av,e];omega
  ·show ([97+((c / 4+(k:Int) / 8) % 26).toNat]++(Ej c).take (k % 8)).all Bx=true
   rw [fm,P0,Ki (Tr c)];rfl
 ·rw [J9 h]
  obtain⟨s1,s2,s3,s4⟩:=aq5 c
  have hb:(B8 c).all Bx=true:=Ki (by rw [fm,P0,Tr];rfl)
  have e:((B8 c).take (atB c)++[97+((c / 6656+(k:Int)) % 26).toNat]++(B8 c).drop (atB c+1)).length=Ff c:=by
   rw [aJ,aJ,aF,cg,s4]
   show min (atB c) (Ff c)+1+(Ff c - (atB c+1))=_
   omega
  refine⟨?_,?_,?_⟩
  ·show 1<=((B8 c).take (atB c)++[97+((c / 6656+(k:Int)) % 26).toNat]++(B8 c).drop (atB c+1)).toArray.size
   rw [av,e];exact s1
  ·show ((B8 c).take (atB c)++[97+((c / 6656+(k:Int)) % 26).toNat]++(B8 c).drop (atB c+1)).toArray.size<=8
   rw [av,e];exact s2
  ·show ((B8 c).take (atB c)++[97+((c / 6656+(k:Int)) % 26).toNat]++(B8 c).drop (atB c+1)).all Bx=true
   rw [fm,fm,P0,Ki hb,ag0 hb];rfl
theorem at7 {c:Int} {i j:Nat} (hi:i<=8) (hj:j<=8) (h:Bv c i=Bv c j):i=j:=by
 have h:=congrArg (fun z:Str=>z.cps.toList) h
 by_cases hc:c % 4=3
 ·rw [J8 hc,J8 hc] at h
  have h:[97+((c / 4+(i:Int) / 8) % 26).toNat]++(Ej c).take (i % 8)=[97+((c / 4+(j:Int) / 8) % 26).toNat]++(Ej c).take (j % 8):=h
  have h1:97+((c / 4+(i:Int) / 8) % 26).toNat=97+((c / 4+(j:Int) / 8) % 26).toNat:=(iD h).1
  have h2:((Ej c).take (i % 8)).length=((Ej c).take (j % 8)).length:=congrArg bv (iD h).2
  rw [aF,aF,Gi] at h2
  omega
 ·rw [J9 hc,J9 hc] at h
  obtain⟨s1,s2,s3,s4⟩:=aq5 c
  have h:(B8 c).take (atB c)++[97+((c / 6656+(i:Int)) % 26).toNat]++(B8 c).drop (atB c+1)=(B8 c).take (atB c)++[97+((c / 6656+(j:Int)) % 26).toNat]++(B8 c).drop (atB c+1):=h
  have h1:=List.append_cancel_right h
  have h2:=List.append_cancel_left h1
  have h3:97+((c / 6656+(i:Int)) % 26).toNat=97+((c / 6656+(j:Int)) % 26).toNat:=(iD h2).1
  omega
theorem bh8 {f:Addr} {fd:aB} (Z:A0 K t) (F:FunD K "_law_word" "_law_word" Lv f fd .none) (T:Tab P w K mg base 0 (Bk K t) bl):FnOk P w K mg base CX0 1 f fd Q4 (Ja K t):=by
 refine F.okW0 bs5 bv6 T (bq0 K t) (fun vs H Q E h=>?_) (fun vs H Q E h=>?_)
 ·obtain⟨c,k,rfl,_⟩:=h;rfl
 ·obtain⟨c,k,rfl,hk,q⟩:=h
  have big:(100:Nat)<=sizeLine:=by decide
  refine⟨rfl,⟨by decide,by decide,by decide,by decide⟩,?_⟩
  refine ak3 (lo:=1) (n:=7) (g:=Yf c) (rest:=[some (.int c),some (.str lettersS)]) (by decide) (fun j H2 Q1 hj q=>?_) fun D H2 S2 hD eD=>?_
  ·exact⟨⟨by decide,by decide⟩,.inl ⟨by decide,by decide⟩,.inl ⟨by omega,by omega⟩,by decide,by decide,_,Gf (bP _ (by decide)) (bK _ (by decide)),q H2 (Same.refl _)⟩
  ·refine⟨_,D,_,rfl,rfl,.inl (SqL.of eD),?_,?_⟩
   ·rw [To,ac,bh];decide
   rw [Po]
   have q:=q H2 S2
   have tl:=Gi c
   refine⟨by decide,Er (fun hc=>?_) (fun hc=>?_)⟩
   ·have hc:c % 4=3:=by simpa using hc
    refine⟨⟨by decide,by decide⟩,⟨by decide,by decide⟩,by decide,by decide,_,Gf (bP _ (by decide)) (bK _ (by decide)),by decide,(show 7<=sizeLine by decide),?_⟩
    rw [Mc (by omega) (by rw [tl];omega)]
    have e:((k:Int) % 8).toNat=k % 8:=by omega
    rw [e]
    refine⟨ax (Nat.add_le_add_left (show ((Ej c).take (k % 8)).toArray.size<=7 by rw [av,aF,tl];omega) _) (show 1+7<=sizeLine by decide),?_⟩
    rw [J8 hc,<- Jy] at q
    exact q
   ·have hc:¬ c % 4=3:=by simpa using hc
    obtain⟨s1,s2,s3,s4⟩:=aq5 c
    have h1:0<=c / 32 % (1+c / 4 % 8)/\c / 32 % (1+c / 4 % 8)<1+c / 4 % 8:=⟨bP _ (by omega),bK _ (by omega)⟩
    refine⟨⟨by decide,by decide⟩,by decide,⟨by decide,by decide⟩,by omega,⟨by decide,by decide⟩,by decide,by decide,_,Gf (bP _ (by decide)) (bK _ (by decide)),(show 1+7<=sizeLine by decide),(show 8<=sizeLine by decide),?_⟩
    have eb:iu ((⟨#[97+(c / 256 % 26).toNat]⟩:Str)++⟨(Ej c).toArray⟩) none (some (1+c / 4 % 8))=⟨(B8 c).toArray⟩:=by
     rw [show (#[97+(c / 256 % 26).toNat]:Array Nat)=[97+(c / 256 % 26).toNat].toArray from rfl,Jy,Mc (by omega) (by rw [aJ,tl];show _<=1+7;omega)]
    rw [eb]
    have lb:(⟨(B8 c).toArray⟩:Str).length<=8:=by
     show (B8 c).toArray.size<=8
     rw [av,s4];exact s2
    have ea:iu ⟨(B8 c).toArray⟩ none (some (c / 32 % (1+c / 4 % 8)))=⟨((B8 c).take (atB c)).toArray⟩:=Mc h1.1 (by rw [s4];exact d8 s3)
    have ed:iu ⟨(B8 c).toArray⟩ (some (c / 32 % (1+c / 4 % 8)+1)) none=⟨((B8 c).drop (atB c+1)).toArray⟩:=by
     rw [Wi (by omega) (by rw [s4];show (c / 32 % (1+c / 4 % 8)+1).toNat<=(1+c / 4 % 8).toNat;omega),show (c / 32 % (1+c / 4 % 8)+1).toNat=atB c+1 by show _=(c / 32 % (1+c / 4 % 8)).toNat+1;omega]
    have la:=Txt.slice_le (⟨(B8 c).toArray⟩:Str) none (some (c / 32 % (1+c / 4 % 8)))
    have ld:=Txt.slice_le (⟨(B8 c).toArray⟩:Str) (some (c / 32 % (1+c / 4 % 8)+1)) none
    refine⟨by omega,⟨by decide,by decide⟩,by decide,by decide,_,Gf (bP _ (by decide)) (bK _ (by decide)),ax (jL (ax la lb) _) (show 8+1<=sizeLine by decide),by omega,?_,?_⟩
    ·rw [Dx]
     exact ax (Nat.add_le_add (jL (ax la lb) _) (ax ld lb)) (show 8+1+8<=sizeLine by decide)
    ·rw [J9 hc,<- Jy,<- Jy] at q
     rw [ea,ed]
     exact q
structure SwL (H H':Hp) (ls:Addr) (ds:List (((Str×List Str)×Addr)×Addr)):Prop where
 at_:H' ls=some (.lst (ds.map fun x=>.ref x.2))
 tup:∀ x∈ds,H' x.2=some (.tup [.str x.1.1.1,.ref x.1.2])
 lst:∀ x∈ds,H' x.1.2=some (Bi x.1.1.2)
 ne:∀ x∈ds,x.1.2≠ls/\H x.1.2=none
theorem SwL.up {H H1 H2:Hp} {ls:Addr} {ds:List (((Str×List Str)×Addr)×Addr)} (h:SwL H H1 ls ds) (S:Same H1 H2):SwL H H2 ls ds:=⟨S _ _ h.at_,fun x hx=>S _ _ (h.tup x hx),fun x hx=>S _ _ (h.lst x hx),h.ne⟩
theorem SwL.snoc {H H1:Hp} {ls:Addr} {ds:List (((Str×List Str)×Addr)×Addr)} (h:SwL H H1 ls ds) {e:Str×List Str} {la ta:Addr} (ht:H1 ta=some (.tup [.str e.1,.ref la])) (hl:H1 la=some (Bi e.2)) (nl:la≠ls) (fl:H la=none) :
  SwL H (upd H1 ls (.lst ((ds.map fun x=>V.ref x.2)++[.ref ta]))) ls (ds++[((e,la),ta)]):=by
 have nt:∀ {a:Addr} {xs:List V},H1 a=some (.tup xs)->a≠ls:=fun q z=>by rw [z,h.at_] at q;cases q
 refine⟨by rw [Ad,aq];rfl,fun x hx=>?_,fun x hx=>?_,fun x hx=>?_⟩
 ·rcases List.mem_append.mp hx with hx|hx
  ·rw [Ak (nt (h.tup x hx))];exact h.tup x hx
  ·have:x=((e,la),ta):=by simpa using hx
   subst this
   rw [Ak (nt ht)];exact ht
 ·rcases List.mem_append.mp hx with hx|hx
  ·rw [Ak (h.ne x hx).1];exact h.lst x hx
  ·have:x=((e,la),ta):=by simpa using hx
   subst this
   rw [Ak nl];exact hl
 ·rcases List.mem_append.mp hx with hx|hx
  ·exact h.ne x hx
  ·have:x=((e,la),ta):=by simpa using hx
   subst this
   exact⟨nl,fl⟩
theorem Vm (sw:Sw) (e:Str×List Str):Bt (sw++[e])=Bt sw * e.2.length:=by unfold Bt;rw [eC];rfl
theorem SwL.swIn {H H':Hp} {ls:Addr} {ds:List (((Str×List Str)×Addr)×Addr)} (h:SwL H H' ls ds):SwIn any H' ls (ds.map (·.1.1)):=⟨ds,rfl,⟨trivial,h.at_⟩,fun x hx=>⟨⟨trivial,h.tup x hx⟩,trivial,h.lst x hx⟩⟩
theorem ch1 (b:Bool):∃ m:Int,atI [V.int 24,.int 256] (if b=true then 1 else 0)=some (.int m)/\4<=m/\m<=256:=by
 cases b
 ·exact⟨24,rfl,by decide,by decide⟩
 ·exact⟨256,rfl,by decide,by decide⟩
theorem Tz {c:Int} {s n:Nat} (h:s+n<=9):((aw n).map fun j=>Bv c (s+j)).Nodup:=by
 refine List.pairwise_iff_getElem.mpr fun i j hi hj hij=>?_
 rw [ac,bh] at hi hj
 rw [du,du,fw,fw]
 intro e
 have:=at7 (by omega) (by omega) e
 omega
theorem Ua {c:Int} {f:Nat->Nat} {n:Nat}:∀ z∈(aw n).map (fun j=>Bv c (f j)),okW z:=fun z hz=>by
 obtain⟨j,_,rfl⟩:=List.mem_map.mp hz
 exact a48 _ _
theorem b21 {f:Addr} {fd:aB} (Z:A0 K t) (F:FunD K "_law_switches" "_law_switches" V5 f fd .none) (T:Tab P w K mg base 1 (D9 K t) bl):FnOk P w K mg base CX0 2 f fd ae8 (ar5 K t):=by
 refine F.okW0 b97 cf9 T (b71 K t) (fun vs H Q E h=>?_) (fun vs H Q E h=>?_)
 ·obtain⟨a,ns,rfl,_⟩:=h;rfl
 ·obtain⟨a,ns,rfl,hS,k⟩:=h
  refine⟨a,ns,0,rfl,hS,(show 2<=sizeLine by decide),fun q hq=>⟨⟨by decide,by decide⟩,by decide,?_⟩⟩
  obtain⟨m,hm,hm4,hm256⟩:=ch1 (decide (A8 ns 0 / 5 % 8=3))
  refine⟨_,.int m,.inl (SqL.of Ad),hm,?_⟩
  have S1:=Same.upd (o:=.lst [.int 24,.int 256]) hq
  generalize upd H q (.lst [.int 24,.int 256])=H1 at S1 ⊢
  refine⟨a,ns,1,rfl,S1.seqL hS,⟨by decide,by decide⟩,by decide,.inr ⟨by decide,by decide⟩,by decide,fun ls hls=>?_⟩
  have S2:=S1.trans (Same.upd (o:=.lst []) hls)
  have fls:=S1.free hls
  have L2:SwL H (upd H1 ls (.lst [])) ls []:=⟨Ad,fun x hx=>(by cases hx),fun x hx=>(by cases hx),fun x hx=>(by cases hx)⟩
  generalize upd H1 ls (.lst [])=H2 at S2 L2 ⊢
  obtain⟨sh,hsh,hsh2⟩:∃ sh:Nat,A8 ns 1 / 3 % 2 * 5=(sh:Int)/\(sh=0\/sh=5):=⟨(A8 ns 1 / 3 % 2 * 5).toNat,by omega,by omega⟩
  have hN:0<=1+A8 ns 0 % 5/\1<=(1+A8 ns 0 % 5).toNat/\(1+A8 ns 0 % 5).toNat<=5:=by omega
  refine⟨by decide,A8 ns 0,(1+A8 ns 0 % 5).toNat,by rw [show (((1+A8 ns 0 % 5).toNat:Nat):Int)=1+A8 ns 0 % 5 by omega];rfl,by omega,fun H3 lx xs S3 hlx elx lxs pos=>.inl ⟨⟨_,SqL.of elx⟩,?_⟩⟩
  have nlx:lx≠ls:=(Aj L2.at_ hlx).symm
  have hq':∀ {H'},Same H H'->SqL K H' a (ns.map V.int):=fun S=>S.seqL hS
  refine A5 (As (xs.map V.int)) (fun i σ H'=>∃ ds:List (((Str×List Str)×Addr)×Addr),(∃ v6 v7 v8,σ=[some (.ref a),some (.int (A8 ns 0)),some (.int m),some (.int (A8 ns 1 / 3 % 2 * 5)),some (.ref ls),some (.int (Bt (ds.map (·.1.1)):Nat)),v6,v7,v8])/\Same H H'/\H' lx=some (.lst (xs.map V.int))/\SwL H H' ls ds /\
    ds.map (·.1.1.1)=(aw ds.length).map (fun j=>Bv (A8 ns 1) (0+j))/\ds.length<=i/\(∀ x∈ds,Hq x.1.1.2)/\(Bt (ds.map (·.1.1)):Int)<=m/\(i=0->ds=[])/\(1<=i->ds≠[]))
   ⟨[],⟨_,_,_,rfl⟩,S2.trans S3,elx,L2.up S3,rfl,ak _,fun x hx=>(by cases hx),(show ((1:Nat):Int)<=m by omega),fun _=>rfl,fun h=>(by omega)⟩ (fun i σ H' _ q=>by obtain⟨_,_,_,q,_⟩:=q;exact SqL.of q) ?_ ?_
  ·rintro i x σ H4 hx ⟨ds,⟨v6,v7,v8,rfl⟩,S4,elx4,L4,nm,dl,oks,pm,z0,z1⟩
   obtain⟨xi,hxi,rfl⟩:=Ao hx
   have hi5:=An hxi
   have hp0:1<=Bt (ds.map (·.1.1)):=Cu (ak 1) (fun y hy=>by obtain⟨x,hx,rfl⟩:=List.mem_map.mp hy;exact oks x hx)
   refine⟨by decide,?_⟩
   have hs:2<=2+xi % 3/\2+xi % 3<=4:=by omega
   have rest:∀ sz:Int,2<=sz->sz<=4->(i=0->(Bt (ds.map (·.1.1)):Int) * sz<=m) -> ∀ D:Ol,D.nx=(fun σ H'=>∃ ds:List (((Str×List Str)×Addr)×Addr),(∃ v6 v7 v8,σ=[some (.ref a),some (.int (A8 ns 0)),some (.int m),some (.int (A8 ns 1 / 3 % 2 * 5)),some (.ref ls),some (.int (Bt (ds.map (·.1.1)):Nat)),v6,v7,v8])/\Same H H'/\H' lx=some (.lst (xs.map V.int))/\SwL H H' ls ds /\
     ds.map (·.1.1.1)=(aw ds.length).map (fun j=>Bv (A8 ns 1) (0+j))/\ds.length<=i+1/\(∀ x∈ds,Hq x.1.1.2)/\(Bt (ds.map (·.1.1)):Int)<=m/\(i+1=0->ds=[])/\(1<=i+1->ds≠[])) ->
     (Ah (dIf (Az (Ae Gz (Ae (Cr K) (Aa 5) (Aa 7)) (Aa 2))) (Ah (Ap 5 (Ae (Cr K) (Aa 5) (Aa 7)))
   (Ah (Ap 8 (Bf [none,some 0,some 3] (Ft (Ac (Aa 7) Ai)) (gdN 0) Bw (dFn (spE (Ja K t) []) (Ac (dFn (spE (Di K t) []) (Ac (Aa 1) (Ac (dC (.int 1)) Ai))) (Ac (Ae (Bb K) (Aa 2) (Aa 0)) Ai)))))
   (Ah (Cp (dMt (rMt K [⟨"list", "list.append", Ch⟩]) (Aa 4) (Ac (Fj (Ac (dFn (spE (Ja K t) []) (Ac (dFn (spE (Di K t) []) (Ac (Aa 0) (Ac (dC (.int 1)) Ai))) (Ac (dFn (fun vs H Q _=>(Ci K) vs H Q) (Ac (Aa 4) Ai)) Ai))) (Ac (Aa 8) Ai))) Ai)))
   Ag))) Ag) Ag) D [some (.ref a),some (.int (A8 ns 0)),some (.int m),some (.int (A8 ns 1 / 3 % 2 * 5)),some (.ref ls),some (.int (Bt (ds.map (·.1.1)):Nat)),some (.int xi),some (.int sz),v8] H4:=by
    intro sz h2 h4 hz D hD
    have cm:CMul (Bt (ds.map (·.1.1)):Nat) sz:=.inr ⟨by omega,by omega⟩
    refine⟨cm,Er (fun e=>⟨cm,⟨by omega,by omega⟩,fun L hL=>?_⟩) (fun e=>?_)⟩
    ·have e:((Bt (ds.map (·.1.1)):Nat):Int) * sz<=m:=by simpa using e
     have fL:=S4.free hL
     have nLs:L≠ls:=(Aj L4.at_ hL).symm
     refine Cs (Bq 0 sz.toNat) (fun g σ H'=>(∃ v,σ=[v,some (.ref a),some (.int (A8 ns 1 / 3 % 2 * 5))])/\Same H4 H'/\H' L=some (Bi ((aw g).map fun j=>Bv (A8 ns 1) (sh+j)))) ⟨⟨_,rfl⟩,Same.upd hL,Ad⟩ (fun _ _ _ _ _=>bn) ?_ ?_
     ·rintro g y σ H5 hy ⟨⟨v,rfl⟩,S5,eL⟩
      obtain⟨hg,rfl⟩:=Dh hy
      refine⟨a,ns,1,rfl,hq' (S4.trans S5),?_⟩
      refine⟨A8 ns 1,sh+g,by rw [hsh,show ((sh:Int)+(g:Int))=((sh+g:Nat):Int) by omega];rfl,by omega,fun H6 S6=>?_⟩
      refine⟨_,S6 _ _ eL,?_,⟨_,rfl⟩,(S5.trans S6).set hL,?_⟩
      ·rw [ac,ac,bh]
       exact aM (show g<4 by omega) (by decide)
      ·rw [Ad,Bi,cG,aq,aq];rfl
     ·rintro σ H5 ⟨_,S5,eL⟩
      rw [Bc] at eL
      have L5:=L4.up S5
      have lds:ds.length<=4:=by omega
      refine⟨.inl ⟨rfl,_,SqL.of L5.at_⟩,a,ns,1,rfl,hq' (S4.trans S5),.inl ⟨_,.inl (SqL.of L5.at_),?_⟩⟩
      rw [ac]
      refine⟨A8 ns 1,ds.length,rfl,by omega,fun H6 S6=>⟨(show 2<=sizeLine by decide),fun ta hta=>?_⟩⟩
      have ST:=Same.upd (o:=.tup [.str (Bv (A8 ns 1) ds.length),.ref L]) hta
      have et:upd H6 ta (.tup [.str (Bv (A8 ns 1) ds.length),.ref L]) ta=some (.tup [.str (Bv (A8 ns 1) ds.length),.ref L]):=Ad
      generalize upd H6 ta (.tup [.str (Bv (A8 ns 1) ds.length),.ref L])=H7 at ST et ⊢
      have S7:=S6.trans ST
      have L7:=L5.up S7
      refine⟨ls,_,_,rfl,rfl,L7.at_,?_,?_⟩
      ·rw [ac];exact aD lds (by decide)
      show D.nx _ _
      rw [hD]
      have lss:((aw sz.toNat).map fun j=>Bv (A8 ns 1) (sh+j)).length=sz.toNat:=by simp
      have pe:((Bt ((ds++[(((Bv (A8 ns 1) ds.length,(aw sz.toNat).map fun j=>Bv (A8 ns 1) (sh+j)),L),ta)]).map (·.1.1)):Nat):Int)=(Bt (ds.map (·.1.1)):Nat) * sz:=by
       rw [aq]
       show ((Bt (_++[(Bv (A8 ns 1) ds.length,(aw sz.toNat).map fun j=>Bv (A8 ns 1) (sh+j))]):Nat):Int)=_
       rw [Vm,Int.natCast_mul,lss,show ((sz.toNat:Nat):Int)=sz by omega]
      refine⟨ds++[(((Bv (A8 ns 1) ds.length,(aw sz.toNat).map fun j=>Bv (A8 ns 1) (sh+j)),L),ta)],⟨_,_,_,congrArg (fun z=>[some (V.ref a),some (V.int (A8 ns 0)),some (V.int m),some (V.int (A8 ns 1 / 3 % 2 * 5)),some (V.ref ls),some (V.int z),some (V.int xi),some (V.int sz),some (V.ref L)]) pe.symm⟩,(S4.trans (S5.trans S7)).set fls,?_,L7.snoc et (S7 _ _ eL) nLs fL,?_,?_,?_,by rw [pe];exact e,fun h=>(by omega),fun _ h=>by simp at h⟩
      ·rw [Ak nlx]
       exact (S5.trans S7) _ _ elx4
      ·rw [aq,nm,aJ]
       show _=(aw (ds.length+1)).map _
       rw [cG,aq]
       show _++[Bv (A8 ns 1) ds.length]=_++[Bv (A8 ns 1) (0+ds.length)]
       rw [cB]
      ·rw [aJ]
       show ds.length+1<=_
       omega
      ·intro x hx
       rcases List.mem_append.mp hx with hx|hx
       ·exact oks x hx
       ·have:x=(((Bv (A8 ns 1) ds.length,(aw sz.toNat).map fun j=>Bv (A8 ns 1) (sh+j)),L),ta):=by simpa using hx
        subst this
        exact⟨⟨Ua,Tz (by omega),by rw [lss];omega⟩,by rw [lss];omega,by rw [lss];omega⟩
    ·have e:¬ ((Bt (ds.map (·.1.1)):Nat):Int) * sz<=m:=by simpa using e
     show D.nx _ _
     rw [hD]
     have hi0:i≠0:=fun z=>e (hz z)
     exact⟨ds,⟨_,_,_,rfl⟩,S4,elx4,L4,nm,by omega,oks,pm,fun h=>(by omega),fun _=>z1 (by omega)⟩
   refine⟨.inr ⟨by omega,by omega⟩,Er (fun e=>?_) (fun e=>?_)⟩
   ·refine rest 2 (by decide) (by decide) (fun hz=>?_) _ (by rfl)
    rw [z0 hz]
    show ((1:Nat):Int) * 2<=m
    omega
   ·refine rest (2+xi % 3) hs.1 hs.2 (fun hz=>?_) _ (by rfl)
    rw [z0 hz]
    show ((1:Nat):Int) * (2+xi % 3)<=m
    omega
  ·rintro σ H4 ⟨ds,⟨v6,v7,v8,rfl⟩,S4,elx4,L4,nm,dl,oks,pm,z0,z1⟩
   rw [ac] at dl z0 z1
   have e1:(ds.map (·.1.1)).map (·.1)=ds.map (·.1.1.1):=by rw [bd];rfl
   have l5:ds.length<=5:=by omega
   refine .inl (k H4 ls (ds.map (·.1.1)) S4 L4.swIn ⟨?_,?_,?_,?_,?_⟩)
   ·rw [ac]
    exact List.length_pos_iff.mpr (z1 (by omega))
   ·rw [ac];exact l5
   ·rw [e1,nm];exact Tz (by omega)
   ·intro y hy
    obtain⟨x,hx,rfl⟩:=List.mem_map.mp hy
    refine⟨?_,oks x hx⟩
    have hm:x.1.1.1∈ds.map (·.1.1.1):=List.mem_map.mpr ⟨x,hx,rfl⟩
    rw [nm] at hm
    exact Ua _ hm
   ·omega
theorem Of (acc:List (List Nat)) (n:Nat):(Fh acc n).length=acc.length * n:=by
 unfold Fh
 induction acc with
 | nil=>simp
 | cons a acc ih=>rw [dm,aJ,ih,ac,bh,aI,k9,k_,jp]
theorem Ig {sw:Sw} {i:Nat} {e:Str×List Str} (h:sw[i]? = some e):Cf (sw.take (i+1))=Fh (Cf (sw.take i)) e.2.length:=by
 unfold Cf
 rw [Bh h,eC]
 rfl
theorem Jg:∀ (ns:List Nat) (acc:List (List Nat)),(ns.foldl Fh acc).length=ns.foldl (fun n m=>n * m) acc.length
 | [],_=>rfl
 | n::ns,acc=>by rw [bg,bg,Jg ns,Of]
theorem aw2 (sw:Sw):(Cf sw).length=Bt sw:=by
 unfold Cf Bt
 rw [Jg,jN]
 rfl
noncomputable def a84 (k:Nat) (ds:List (List Nat)):Prop:=∀ d∈ds,d.length=k
theorem Jh:∀ (ns:List Nat) (k:Nat) (acc:List (List Nat)),a84 k acc->a84 (k+ns.length) (ns.foldl Fh acc)
 | [],_,_,h=>h
 | n::ns,k,acc,h=>by
  have:=Jh ns (k+1) (Fh acc n) (fun d hd=>by
   obtain⟨a,ha,hd⟩:=List.mem_flatMap.mp hd
   obtain⟨j,_,rfl⟩:=List.mem_map.mp hd
   rw [aJ,h a ha]
   rfl)
  rw [bg,aI,show k+(ns.length+1)=k+1+ns.length by omega]
  exact this
theorem Pb {sw:Sw}:∀ d∈Cf sw,d.length=sw.length:=fun d hd=>by
 have:=Jh (sw.map fun x:Str×List Str=>x.2.length) 0 [[]] (fun d hd=>by simp at hd;rw [hd];rfl) d hd
 rw [cB,ac] at this
 exact this
theorem Wv {rows:List (List Nat)} {j:Nat} {r:List Nat} {n:Nat} (h:rows[j]? = some r):Fh (rows.take (j+1)) n=Fh (rows.take j) n++(aw n).map fun z=>r++[z]:=by
 unfold Fh
 rw [bG,h,bW,dq]
 simp
theorem aw4 {E:EK} {H:Hp} {ra:Addr} {a:List Nat} {n:Nat} {σ:St} {R:Hp->Addr->Prop} (hσ:∃ v,σ=[v,some (.ref ra)]) (ha:H ra=some (nO a)) (hl:a.length<=100) (hn:n<=8)
  (k:∀ D H',Same H H'->H D=none -> ∀ fs:List (List Nat×Addr),fs.map (·.1)=(aw n).map (fun z=>a++[z])->H' D=some (.lst (fs.map fun x=>.ref x.2))->(∀ x∈fs,x.2≠D/\H x.2=none/\H' x.2=some (nO x.1))->R H' D) :
  ∀ D,H D=none->E3 (Itr 0 n) (gdN 0) Bw (Ae (Bb K) (Aa 1) (Bl (Ac (Aa 0) Ai))) D (fun H'=>R H' D) σ (upd H D (.lst [])) E:=by
 intro D hD
 refine Cs (Bq 0 n) (fun m σ H'=>(∃ v,σ=[v,some (.ref ra)])/\Same H H' /\ ∃ fs:List (List Nat×Addr),fs.map (·.1)=(aw m).map (fun z=>a++[z])/\H' D=some (.lst (fs.map fun x=>.ref x.2)) /\ ∀ x∈fs,x.2≠D/\H x.2=none/\H' x.2=some (nO x.1))
  ⟨hσ,Same.upd hD,[],rfl,Ad,fun x hx=>by cases hx⟩ (fun _ _ _ _ _=>bn) ?_ ?_
 ·rintro m x σ H1 hx ⟨⟨v,rfl⟩,S1,fs,ef,eD,hf⟩
  obtain⟨hm,rfl⟩:=Dh hx
  refine⟨(show 1<=sizeLine by decide),fun p hp=>.inl ⟨ra,p,_,_,rfl,rfl,(Same.upd hp) _ _ (S1 _ _ ha),Ad,?_,fun q hq=>?_⟩⟩
  ·rw [ac];exact ax (show a.length+1<=101 by omega) (by decide)
  have Sp:=Same.upd (o:=.lst [.int (m:Int)]) hp
  have Sq:=Same.upd (o:=.lst ((a.map fun n:Nat=>V.int (n:Int))++[.int (m:Int)])) hq
  have eq:upd (upd H1 p (.lst [.int (m:Int)])) q (.lst ((a.map fun n:Nat=>V.int (n:Int))++[.int (m:Int)])) q=some (nO (a++[m])):=by rw [Ad,nO,aq];rfl
  have S12:=Sp.trans Sq
  have qD:q≠D:=(Aj (Sp _ _ eD) hq).symm
  have hq0:H q=none:=(S1.trans Sp).free hq
  generalize upd (upd H1 p (.lst [.int (m:Int)])) q (.lst ((a.map fun n:Nat=>V.int (n:Int))++[.int (m:Int)]))=H2 at S12 eq ⊢
  have eD2:=S12 _ _ eD
  refine⟨_,eD2,?_,⟨_,rfl⟩,(S1.trans S12).set hD,fs++[(a++[m],q)],?_,?_,fun x hx=>?_⟩
  ·rw [ac]
   have:=congrArg bv ef
   rw [ac,ac,bh] at this
   exact aD (show fs.length<=8 by omega) (by decide)
  ·rw [aq,ef,cG,aq];rfl
  ·rw [Ad,aq];rfl
  ·rcases List.mem_append.mp hx with hx|hx
   ·obtain⟨a1,a2,a3⟩:=hf x hx
    exact⟨a1,a2,by rw [Ak a1];exact S12 _ _ a3⟩
   ·have:x=(a++[m],q):=by simpa using hx
    subst this
    exact⟨qD,hq0,by rw [Ak qD];exact eq⟩
 ·rintro σ H1 ⟨_,S1,fs,ef,eD,hf⟩
  rw [Bc] at ef
  exact k D H1 S1 hD fs ef eD hf
theorem b27 {f:Addr} {fd:aB} (Z:A0 K t) (F:FunD K "_law_digits" "_law_digits" Wa f fd .none) (T:Tab P w K mg base 0 (Bk K t) bl):FnOk P w K mg base CX0 1 f fd af4 (ar9 K t):=by
 refine F.okW0 ca3 cg5 T (b77 K t) (fun vs H Q E h=>?_) (fun vs H Q E h=>?_)
 ·obtain⟨l,sw,rfl,_⟩:=h;rfl
 ·obtain⟨l,sw,rfl,⟨ds,ed,⟨_,ol⟩,hd⟩,hw,k⟩:=h
  refine⟨(show 0<=sizeLine by decide),fun r0 h0=>⟨(show 1<=sizeLine by decide),fun l0 hl0=>?_⟩⟩
  have Sr:=Same.upd (o:=.lst []) h0
  have Sl:=Same.upd (o:=.lst [.ref r0]) hl0
  have S0:=Sr.trans Sl
  have er:upd (upd H r0 (.lst [])) l0 (.lst [.ref r0]) r0=some (nO []):=Sl _ _ Ad
  have el:upd (upd H r0 (.lst [])) l0 (.lst [.ref r0]) l0=some (.lst [.ref r0]):=Ad
  have len:(ds.map fun x=>V.ref x.2).length=sw.length:=by rw [<- ed];simp
  generalize upd (upd H r0 (.lst [])) l0 (.lst [.ref r0])=H0 at S0 er el ⊢
  refine .inl ⟨⟨_,S0.seqL (SqL.of ol)⟩,?_⟩
  have T0:DigAt H0 l0 (Cf (sw.take 0)):=⟨[([],r0)],rfl,el,fun x hx=>by
   have:x=([],r0):=by simpa using hx
   subst this
   exact er⟩
  refine A5 (As (ds.map fun x=>V.ref x.2)) (fun i σ H'=>(∃ l1 v2 v3 v4 v5,σ=[some (.ref l),some (.ref l1),v2,v3,v4,v5]/\DigAt H' l1 (Cf (sw.take i)))/\Same H0 H') ⟨⟨_,_,_,_,_,rfl,T0⟩,Same.refl _⟩ (fun i σ H' _ q=>(S0.trans q.2).seqL (SqL.of ol)) ?_ ?_
  ·rintro i x σ H1 hx ⟨⟨l1,v2,v3,v4,v5,rfl,⟨es,ee,el1,he⟩⟩,S1⟩
   obtain⟨⟨⟨e,la⟩,ta⟩,hi,rfl⟩:=Ao hx
   have hi2:sw[i]? = some e:=by rw [<- ed,ai,hi];rfl
   obtain⟨⟨_,h1⟩,_,h2⟩:=hd _ (af hi)
   have h2:H la=some (Bi e.2):=h2
   have S01:=S0.trans S1
   have hoke:=hw.sets e (af hi2)
   refine⟨_,.inl (SqT.of (S01 _ _ h1)),rfl,by decide,fun l2 hl2=>.inl ⟨⟨_,(Same.upd hl2).seqL (SqL.of el1)⟩,?_⟩⟩
   have Sl2:=Same.upd (o:=.lst []) hl2
   have lenr:es.length=(Cf (sw.take i)).length:=by rw [<- ee];simp
   have few:(Cf (sw.take i)).length<=256:=by rw [aw2];exact ax (Ob hw i) hw.2.2.2.2
   have rl:∀ r∈Cf (sw.take i),r.length<=100:=fun r hr=>by
    rw [Pb r hr,aF]
    have:=hw.2.1
    omega
   refine A5 (As (es.map fun x=>V.ref x.2)) (fun j σ H'=>(∃ v5,σ=[some (.ref l),some (.ref l1),some (.str e.1),some (.ref la),some (.ref l2),v5])/\Same H1 H' /\ ∃ fs:List (List Nat×Addr),fs.map (·.1)=Fh ((Cf (sw.take i)).take j) e.2.length /\
     H' l2=some (.lst (fs.map fun x=>.ref x.2)) /\ ∀ x∈fs,x.2≠l2/\H' x.2=some (nO x.1))
    ⟨⟨_,rfl⟩,Sl2,[],rfl,Ad,fun x hx=>by cases hx⟩ (fun j σ H' _ q=>q.2.1.seqL (SqL.of el1)) ?_ ?_
   ·rintro j y σ H2 hy ⟨⟨v5,rfl⟩,S2,fs,efs,e2l,hf⟩
    obtain⟨⟨r,ra⟩,hj,rfl⟩:=Ao hy
    have hj2:(Cf (sw.take i))[j]? = some r:=by rw [<- ee,ai,hj];rfl
    have hra:=he _ (af hj)
    refine⟨.inl ⟨rfl,_,SqL.of e2l⟩,.inl ⟨_,.inl (SqL.of ((S01.trans S2) _ _ h2)),?_⟩⟩
    rw [ac]
    have h4:e.2.length<=4:=hoke.2.2
    refine⟨⟨by omega,by omega⟩,?_⟩
    rw [aG]
    refine aw4 ⟨_,rfl⟩ (S2 _ _ hra) (rl r (af hj2)) (by omega) fun D H3 S3 hD gs eg eD hg=>?_
    have e3l:=S3 _ _ e2l
    have lfs:fs.length<=1024:=by
     have:=congrArg bv efs
     rw [ac,Of,aF] at this
     have:min j (Cf (sw.take i)).length * e.2.length<=256 * 4:=Nat.mul_le_mul (by omega) h4
     omega
    have lgs:gs.length<=4:=by
     have:=congrArg bv eg
     rw [ac,ac,bh] at this
     omega
    refine⟨l2,D,_,_,rfl,rfl,e3l,eD,?_,⟨_,rfl⟩,(S2.trans S3).set hl2,fs++gs,?_,?_,fun x hx=>?_⟩
    ·rw [ac,ac]
     exact ax (show fs.length+gs.length<=1028 by omega) (by decide)
    ·rw [aq,efs,eg,Wv hj2]
    ·rw [Ad,aq]
    ·rcases List.mem_append.mp hx with hx|hx
     ·exact⟨(hf x hx).1,by rw [Ak (hf x hx).1];exact S3 _ _ (hf x hx).2⟩
     ·obtain⟨a1,a2,a3⟩:=hg x hx
      have a4:x.2≠l2:=(Aj e2l a2).symm
      exact⟨a4,by rw [Ak a4];exact a3⟩
   ·rintro σ H2 ⟨⟨v5,rfl⟩,S2,fs,efs,e2l,hf⟩
    rw [ac,lenr,aL] at efs
    refine .inl ⟨⟨_,_,_,_,_,rfl,fs,?_,e2l,fun x hx=>(hf x hx).2⟩,S1.trans S2⟩
    rw [efs,Ig hi2]
  ·rintro σ H1 ⟨⟨l1,v2,v3,v4,v5,rfl,T1⟩,S1⟩
   rw [len,aL] at T1
   exact .inl (k _ l1 (S0.trans S1) T1)
theorem Eu (xs:List V) (n:Nat):Ds xs (some (n:Int)) none=xs.drop n:=by
 unfold Ds
 rw [HT.sIx_none,HT.sIx_nat]
 by_cases h:n<=xs.length
 ·rw [jt h,dO (by rw [cg];omega)]
 ·rw [Nat.min_eq_right (by omega),iZ (ak _),iZ (by omega),List.take_nil]
theorem Ww {α:Type} {f:α->Nat} {ps:List α} {n:Nat} (h:∀ p∈ps,f p<=n):(ps.map f).sum<=ps.length * n:=by
 induction ps with
 | nil=>simp
 | cons p ps ih=>
  rw [aQ,List.sum_cons,aI,k9,k_,jp]
  exact Nat.add_le_add (ih fun q hq=>h q (ar _ hq)) (h p az)
end
end K15
set_option maxHeartbeats 400000
namespace K15
open PySem L2 Pn
section
variable {P:aW} {w:bE} {K:ae} {mg:Str->Option Value} {base:Heap} {t:Adr}
theorem al3 {H:Hp} {R:Addr->Hp->Prop} {E:EK} {a:Addr} {sw:Sw} {rules:List Sw} {v:V} (hs:SwIn any H a sw) (hw:okSw sw) (hr:Em any H v rules) (ho:∀ r∈rules,Gx sw r) (h8:rules.length<=8) (hf:Go sw rules≠0)
  (k:∀ H' p,Same H H'->PanelAt t.c_zbg (fresh H) H' p sw rules->R p H') :
  ∀ p dx,H p=none->H dx=none->dx≠p->ar7 K t [.ref p,.ref a,v] (upd (upd H dx (.own p)) p (.ins t.c_zbg dx [])) (fun v H2=>v=.non/\R p H2) (fun v _ H'=>∃ b,v=.ref b/\E b H'):=by
 intro p dx hp hd ne
 have S1:Same H (upd (upd H dx (.own p)) p (.ins t.c_zbg dx [])):=fun b o e=>by rw [Ak (Aj e hp),Ak (Aj e hd)];exact e
 have ep:upd (upd H dx (.own p)) p (.ins t.c_zbg dx []) p=some (.ins t.c_zbg dx []):=Ad
 generalize upd (upd H dx (.own p)) p (.ins t.c_zbg dx [])=H1 at S1 ep ⊢
 have kp:Kp any H (· ≠ p) H1:=fun b o q=>⟨Aj q.2 hp,S1 _ _ q.2⟩
 have RI:Em (· ≠ p) H1 v rules:=hr.imp id fun⟨k,e,R⟩=>⟨k,e,R.mono kp⟩
 refine⟨p,a,dx,v,sw,rules,rfl,ep,hs.mono kp,hw,RI,ho,h8,hf,fun H2 O2 P2=>⟨rfl,k H2 p (fun b o e=>O2 b o (Aj e hp) (S1 _ _ e)) (P2.mono (Kp.weak fun b h=>?_))⟩⟩
 rcases h with rfl|h
 ·exact hp
 ·exact S1.free h
theorem Nw {acc:List (List Str)} {x:Str×List Str} {a:List Str} {z:Str} (h:acc.getLast? = some a) (hz:x.2.getLast? = some z):(Dr acc x).getLast? = some (a++[z]):=by
 obtain⟨ini,rfl⟩:=List.getLast?_eq_some_iff.mp h
 unfold Dr
 rw [dq]
 obtain⟨ini2,e2⟩:=List.getLast?_eq_some_iff.mp hz
 refine List.getLast?_eq_some_iff.mpr ⟨(ini.flatMap fun a=>x.2.map fun z=>a++[z])++ini2.map fun z=>a++[z],?_⟩
 rw [dm,gn,bQ,e2,aq,ie]
 rfl
theorem Nv:∀ {sw:Sw} {acc:List (List Str)} {a:List Str},acc.getLast? = some a->(∀ x∈sw,x.2≠[]) -> ∃ tl,(sw.foldl Dr acc).getLast? = some (a++tl)
 | [],_,a,h,_=>⟨[],by rw [bQ];exact h⟩
 | x::sw,acc,a,h,hs=>by
  have hx:=hs x az
  obtain⟨tl,e⟩:=Nv (sw:=sw) (Nw h (gp hx)) fun y hy=>hs y (ar _ hy)
  exact⟨[x.2.getLast hx]++tl,by rw [bg,e,ie]⟩
theorem Y4 {x:Str×List Str} {sw:Sw} (hw:okSw (x::sw)) {z:Str} (hz:x.2[0]? = some z):Go (x::sw) [[(x.1,[z])]]≠0:=by
 have hs:=hw.sets
 have hx:=hs x az
 have ne:∀ y∈x::sw,y.2≠[]:=fun y hy e=>by have:=(hs y hy).2.1;rw [e] at this;simp at this
 obtain⟨tl,e⟩:=Nv (sw:=sw) (acc:=Dr [[]] x) (Nw (a:=[]) rfl (gp (ne x az))) fun y hy=>ne y (ar _ hy)
 have e:(Af (x::sw)).getLast? = some ([]++[x.2.getLast (ne x az)]++tl):=e
 rw [List.getLast?_eq_getElem?] at e
 have h2:=hx.2.1
 have dif:x.2.getLast (ne x az)≠z:=fun q=>by
  have h0:0<x.2.length:=by omega
  have hl:x.2.length - 1<x.2.length:=by omega
  rw [ah h0] at hz
  rw [List.getLast_eq_getElem] at q
  have:=(cK (h₀:=hl) (h₁:=h0) hx.1.2.1).mp (q.trans (aE hz).symm)
  omega
 have hp:=hw.pos
 have bit:(Jk (x::sw) [[(x.1,[z])]]).testBit ((Af (x::sw)).length - 1)=true:=by
  rw [Nn,decide_eq_true (by omega),cC,dL,List.any_nil,iA,ag6,bt,List.all_nil,gA]
  have pl:Cn (x::sw) x.1=0:=C7 (i:=0) rfl hw.2.2.1
  show (!(_&&([z].any fun z=>Ju (Af (x::sw)) (Cn (x::sw) x.1) z _)))=true
  rw [dL,List.any_nil,iA,pl]
  have:Ju (Af (x::sw)) 0 z ((Af (x::sw)).length - 1)=false:=by
   unfold Ju
   rw [e]
   refine decide_eq_false fun q=>dif ?_
   simpa using q
  rw [this,c_]
  rfl
 rw [Nm]
 intro q
 have q:Jk (x::sw) [[(x.1,[z])]]=0:=by omega
 rw [q,b5] at bit
 cases bit
theorem No {sw:Sw} (hw:okSw sw):Go sw []≠0:=by
 have hp:=hw.pos
 rw [Nm]
 intro q
 have q:Jk sw []=0:=by omega
 have bit:(Jk sw []).testBit 0=true:=by
  rw [Nn,decide_eq_true (by omega)]
  rfl
 rw [q,b5] at bit
 cases bit
theorem aq0 {x:Str×List Str} {sw:Sw} (hw:okSw (x::sw)) {z:Str} (hz:x.2[0]? = some z):Gx (x::sw) [(x.1,[z])]:=by
 have hx:=(hw.2.2.2.1 x az).2
 have hm:z∈x.2:=af hz
 refine⟨by simp,by simp,by simp,fun e he=>?_⟩
 have:e=(x.1,[z]):=by simpa using he
 subst this
 refine⟨by simp,⟨fun y hy=>?_,by simp,by simp⟩,x,az,rfl,fun y hy=>?_⟩
 ·have:y=z:=by simpa using hy
  subst this
  exact hx.1.1 y hm
 ·have:y=z:=by simpa using hy
  subst this
  exact hm
theorem bg8 {f:Addr} {fd:aB} (Z:A0 K t) (F:FunD K "_law_panel" "_law_panel" Lk f fd .none) (T:Tab P w K mg base 9 (ax5 K t) bl):FnOk P w K mg base CX0 10 f fd Qs (Wl K t):=by
 refine F.okW0 br5 bu6 T (bp0 K t) (fun vs H Q E h=>?_) (fun vs H Q E h=>?_)
 ·obtain⟨a,l,ns,sw,rfl,_⟩:=h;rfl
 ·obtain⟨a,l,ns,sw,rfl,hS,hsw,hw,k⟩:=h
  obtain⟨ds,ed,⟨_,ol⟩,hd⟩:=id hsw
  have len:(ds.map fun x=>V.ref x.2).length=sw.length:=by rw [<- ed];simp
  have tail:∀ H' v rules (Du:Ol),Du.rt=Q->Same H H'->Em any H' v rules->(∀ r∈rules,Gx sw r)->rules.length<=8->Go sw rules≠0 ->
    (Ah (Aw (dFn (mkC t.c_zbg (some (aj5 K t)) 1) (Ac (Bf [none,none] (Bd K (Aa 1)) (gdT K 2 [(gdN 0),(gdN 1)]) Bw (Fj (Ac (Aa 0) (Ac (dFn (fun vs H Q _=>(Lb K true) vs H Q) (Ac (Aa 1) Ai)) Ai)))) (Ac (Aa 2) Ai))))
 Ag) Du [some (.ref a),some (.ref l),some v] H':=by
   intro H1 v rules Du hDu S1 RI hok h8 hf
   refine .inl ⟨⟨_,S1.seqL (SqL.of ol)⟩,fun D hD=>?_⟩
   refine Cs (As (ds.map fun x=>V.ref x.2)) (fun m σ H'=>(∃ v0 v1,σ=[v0,v1])/\Same H1 H' /\ ∃ es:List (((Str×List Str)×Addr)×Addr),es.map (·.1.1)=sw.take m/\SwL H1 H' D es)
    ⟨⟨_,_,rfl⟩,Same.upd hD,[],rfl,Ad,fun x hx=>(by cases hx),fun x hx=>(by cases hx),fun x hx=>(by cases hx)⟩ (fun m σ H' _ q=>(S1.trans q.2.1).seqL (SqL.of ol)) ?_ ?_
   ·rintro m x σ H2 hx ⟨⟨v0,v1,rfl⟩,S2,es,ee,L1⟩
    obtain⟨⟨⟨e,la⟩,ta⟩,hi,rfl⟩:=Ao hx
    have hi2:sw[m]? = some e:=by rw [<- ed,ai,hi];rfl
    obtain⟨⟨_,h1⟩,_,h2⟩:=hd _ (af hi)
    have S12:=S1.trans S2
    refine⟨_,.inl (SqT.of (S12 _ _ h1)),rfl,.inl ⟨_,.inl (SqL.of (S12 _ _ h2)),fun lb hlb=>⟨(show 2<=sizeLine by decide),fun tb htb=>?_⟩⟩⟩
    have Sb:=Same.upd (o:=Bi e.2) hlb
    have eb:upd H2 lb (Bi e.2) lb=some (Bi e.2):=Ad
    have fb:=S2.free hlb
    have nb:lb≠D:=(Aj L1.at_ hlb).symm
    have St:=Same.upd (o:=.tup [.str e.1,.ref lb]) htb
    have et:upd (upd H2 lb (Bi e.2)) tb (.tup [.str e.1,.ref lb]) tb=some (.tup [.str e.1,.ref lb]):=Ad
    have S3:=Sb.trans St
    have eb2:=St _ _ eb
    show ∃ ys,upd (upd H2 lb (Bi e.2)) tb (.tup [.str e.1,.ref lb]) D=some (.lst ys)/\_
    generalize upd (upd H2 lb (Bi e.2)) tb (.tup [.str e.1,.ref lb])=H3 at S3 et eb2 ⊢
    have L2:=L1.up S3
    refine⟨_,L2.at_,?_,⟨_,_,rfl⟩,(S2.trans S3).set hD,es++[((e,lb),tb)],?_,L2.snoc et eb2 nb fb⟩
    ·rw [ac]
     have:=congrArg bv ee
     rw [ac,aF] at this
     have:=hw.2.1
     exact aD (show es.length<=5 by omega) (by decide)
    ·rw [aq,ee,bG,hi2];rfl
   ·rintro σ Hh ⟨_,Sh,es,ee,Lh⟩
    rw [len,aL] at ee
    have RI2:Em any Hh v rules:=RI.imp id fun⟨kk,e,R⟩=>⟨kk,e,R.mono (Kp.same Sh)⟩
    refine al3 (K:=K) (E:=fun _ _=>False) (v:=v) (ee▸Lh.swIn) hw RI2 hok h8 hf fun H2 p S2 P2=>?_
    show Du.rt _ _
    rw [hDu]
    exact k H2 p rules (S1.trans (Sh.trans S2)) (P2.mono Kp.any)
  have mid:∀ H' v rules (Du:Ol),Du.rt=Q->Same H H'->Em any H' v rules->(∀ r∈rules,Gx sw r)->rules.length<=8->Go sw rules≠0 ->
    (Ah (dIf (Az (Ae (Ax K false) (Ae A3 (dFn (spE (Di K t) []) (Ac (Aa 0) (Ac (dC (.int 2)) Ai))) (dC (.int 3))) (dC (.int 2)))) (Ah (Ap 2 (dC .non))
  Ag) Ag)
 (Ah (Aw (dFn (mkC t.c_zbg (some (aj5 K t)) 1) (Ac (Bf [none,none] (Bd K (Aa 1)) (gdT K 2 [(gdN 0),(gdN 1)]) Bw (Fj (Ac (Aa 0) (Ac (dFn (fun vs H Q _=>(Lb K true) vs H Q) (Ac (Aa 1) Ai)) Ai)))) (Ac (Aa 2) Ai))))
 Ag)) Du [some (.ref a),some (.ref l),some v] H':=by
   intro H1 v rules Du hDu S1 RI hok h8 hf
   exact⟨a,ns,2,rfl,S1.seqL hS,by decide,Er (fun _=>tail H1 .non [] Du hDu S1 (.inl ⟨rfl,rfl⟩) (fun r hr=>by cases hr) (by decide) (No hw)) (fun _=>tail H1 v rules Du hDu S1 RI hok h8 hf)⟩
  refine⟨(show 0<=sizeLine by decide),fun l0 hl0=>?_⟩
  have S0:=Same.upd (o:=.lst []) hl0
  have e0:upd H l0 (.lst []) l0=some (.lst []):=Ad
  generalize upd H l0 (.lst [])=H0 at S0 e0 ⊢
  refine⟨a,ns,2,rfl,S0.seqL hS,by decide,Er (fun _=>?_) (fun _=>mid H0 (.ref l0) [] _ rfl S0 (.inr ⟨l0,rfl,[],rfl,⟨trivial,e0⟩,fun x hx=>by cases hx⟩) (fun r hr=>by cases hr) (by decide) (No hw))⟩
  cases sw with
  | nil=>have:=hw.1;simp at this
  | cons x sw=>
   cases ds with
   | nil=>simp at ed
   | cons d0 ds=>
    obtain⟨⟨x',la⟩,ta⟩:=d0
    have:x'=x:=(iD ed).1
    subst this
    obtain⟨⟨_,h1⟩,_,h2⟩:=hd _ az
    have hx:=hw.sets x' az
    have h2l:=hx.2.1
    obtain⟨z,hz⟩:∃ z,x'.2[0]? = some z:=⟨_,ah (show 0<x'.2.length by omega)⟩
    intro dd hdd
    have Sd:=Same.upd (o:=.dK []) hdd
    have ed0:upd H0 dd (.dK []) dd=some (.dK []):=Ad
    generalize upd H0 dd (.dK [])=H1 at Sd ed0 ⊢
    have S1:=S0.trans Sd
    have q1:=SqL.of (K:=K) (S1 _ _ ol)
    have q2:=SqT.of (K:=K) (S1 _ _ h1)
    have q3:=SqL.of (K:=K) (S1 _ _ h2)
    refine⟨_,.ref ta,.inl q1,Ar (j:=0) rfl,_,.str x'.1,.inr q2,rfl,_,.ref ta,.inl q1,Ar (j:=0) rfl,_,.ref la,.inr q2,rfl,_,.str z,.inl q3,Ar (j:=0) (by rw [ai,hz];rfl),(show 1<=sizeLine by decide),fun lb hlb=>?_⟩
    have Sb:=Same.upd (o:=.lst [.str z]) hlb
    have eb:upd H1 lb (.lst [.str z]) lb=some (Bi [z]):=Ad
    have ed2:=Sb _ _ ed0
    have ndb:dd≠lb:=Aj ed0 hlb
    refine⟨ed2,[(.inr x'.1,.ref lb)],rfl,aC rfl,(show 1<=sizeLine by decide),fun lr hlr=>?_⟩
    have S2:Same H0 (upd (upd H1 lb (.lst [.str z])) dd (.dK (Ed [] [(.inr x'.1,.ref lb)]))):=(Sd.trans Sb).set hdd
    have ed3:upd (upd H1 lb (.lst [.str z])) dd (.dK (Ed [] [(.inr x'.1,.ref lb)])) dd=some (.dK [(.inr x'.1,.ref lb)]):=Ad
    have eb3:upd (upd H1 lb (.lst [.str z])) dd (.dK (Ed [] [(.inr x'.1,.ref lb)])) lb=some (Bi [z]):=by rw [Ak (cA ndb)];exact eb
    have Sr:=Same.upd (o:=.lst [.ref dd]) hlr
    have er:upd (upd (upd H1 lb (.lst [.str z])) dd (.dK (Ed [] [(.inr x'.1,.ref lb)]))) lr (.lst [.ref dd]) lr=some (.lst [.ref dd]):=Ad
    have S3:=S0.trans (S2.trans Sr)
    have ed4:=Sr _ _ ed3
    have eb4:=Sr _ _ eb3
    generalize upd (upd (upd H1 lb (.lst [.str z])) dd (.dK (Ed [] [(.inr x'.1,.ref lb)]))) lr (.lst [.ref dd])=H4 at S3 er ed4 eb4 ⊢
    refine mid H4 (.ref lr) [[(x'.1,[z])]] _ (by rfl) S3 (.inr ⟨lr,rfl,[([(x'.1,[z])],dd)],rfl,⟨trivial,er⟩,fun y hy=>?_⟩) (fun r hr=>?_) (aC rfl) (Y4 hw hz)
    ·have:y=([(x'.1,[z])],dd):=by simpa using hy
     subst this
     exact⟨[((x'.1,[z]),lb)],rfl,⟨trivial,ed4⟩,fun u hu=>by
      have:u=((x'.1,[z]),lb):=by simpa using hu
      subst this
      exact⟨trivial,eb4⟩⟩
    ·have:r=[(x'.1,[z])]:=by simpa using hr
     subst this
     exact aq0 hw hz
end
end K15
set_option maxHeartbeats 4000000
namespace K15
open PySem L2 Pn
noncomputable def conv (sw:Sw) (d:List Nat):List Str:=List.zipWith (fun (x:Str×List Str) j=>x.2.getD j a_) sw d
theorem Ld (l:List Str):l=(aw l.length).map fun j=>l.getD j a_:=by
 refine List.ext_getElem (by simp) fun i h1 h2=>?_
 rw [du,fw,au,ah h1]
 rfl
theorem Od (sw:Sw):∀ i,i<=sw.length->Af (sw.take i)=(Cf (sw.take i)).map (conv (sw.take i)) /\ ∀ d∈Cf (sw.take i),∀ (p:Nat) x,(sw.take i)[p]? = some x -> ∃ j,d[p]? = some j/\j<x.2.length:=by
 intro i
 induction i with
 | zero=>exact fun _=>⟨rfl,fun d _ p x h=>by simp at h⟩
 | succ i ih=>
  intro hi
  obtain⟨e1,e2⟩:=ih (by omega)
  have hx:sw[i]? = some sw[i]:=ah (by omega)
  generalize sw[i]=x at hx
  have lt:(sw.take i).length=i:=by rw [aF];omega
  have dl:∀ d∈Cf (sw.take i),d.length=i:=fun d hd=>by rw [Pb d hd,lt]
  have r1:Af (sw.take (i+1))=Dr (Af (sw.take i)) x:=Ck hx _ _
  have tk:sw.take (i+1)=sw.take i++[x]:=by rw [bG,hx];rfl
  refine⟨?_,fun d hd p y hp=>?_⟩
  ·rw [r1,Ig hx,e1]
   unfold Dr Fh
   rw [List.flatMap_map,iN]
   refine congrArg ji (b_ fun d hd=>?_)
   show x.2.map (fun z=>conv (sw.take i) d++[z])=((aw x.2.length).map fun j=>d++[j]).map (conv (sw.take (i+1)))
   conv=>lhs;rw [Ld x.2]
   rw [bd,bd]
   refine b_ fun j _=>?_
   show conv (sw.take i) d++[x.2.getD j a_]=conv (sw.take (i+1)) (d++[j])
   unfold conv
   rw [tk,List.zipWith_append (by rw [lt,dl d hd])]
   rfl
  ·rw [Ig hx] at hd
   obtain⟨a,ha,hd⟩:=List.mem_flatMap.mp hd
   obtain⟨j,hj,rfl⟩:=List.mem_map.mp hd
   have la:=dl a ha
   rw [tk] at hp
   by_cases hpi:p<i
   ·rw [cO (by omega)] at hp ⊢
    exact e2 a ha p y hp
   ·have hp2:=An hp
    rw [aJ,lt] at hp2
    have hp3:p=i:=by have:[x].length=1:=rfl;omega
    subst hp3
    rw [bB (by omega),lt,eo] at hp
    have:x=y:=by simpa using hp
    subst this
    refine⟨j,?_,List.mem_range.mp hj⟩
    rw [bB (by omega),la,eo]
    rfl
theorem Eh (sw:Sw):Af sw=(Cf sw).map (conv sw):=by
 have:=(Od sw sw.length (ak _)).1
 rwa [aL] at this
theorem Ko {sw:Sw} {d:List Nat} (hd:d∈Cf sw) {p:Nat} {x:Str×List Str} (hp:sw[p]? = some x):∃ j,d[p]? = some j/\j<x.2.length:=by
 have:=(Od sw sw.length (ak _)).2
 rw [aL] at this
 exact this d hd p x hp
theorem ap9 {sw:Sw} {n p j:Nat} {d:List Nat} {x:Str×List Str} (hn:(Cf sw)[n]? = some d) (hp:sw[p]? = some x) (hj:d[p]? = some j):((Af sw)[n]?.bind fun r=>r[p]?)=some (x.2.getD j a_):=by
 rw [Eh,ai,hn]
 show (conv sw d)[p]? = _
 unfold conv
 rw [List.getElem?_zipWith,hp,hj]
theorem Ef (a b k:Nat):(Cz a b).testBit k=(a.testBit k && !b.testBit k):=by
 unfold Cz
 rw [Ye,gO,bo]
 cases a.testBit k <;> cases b.testBit k <;> rfl
theorem Ss (a b:Nat):aS (a:Int) (be (b:Int))=(Cz a b:Nat):=by
 unfold Cz
 rw [i9 (by omega) (by unfold be;omega),show be (be (b:Int))=(b:Int) by unfold be;omega,aG,aG]
 have:=jq (n:=a) (m:=b)
 omega
theorem Py {a b n:Nat} (h:a<2 ^ n):Cz a b<2 ^ n:=aD (Nat.sub_le _ _) h
theorem Eo {a b n:Nat} (h:a<2 ^ n):a &&& b<2 ^ n:=aD jq h
theorem au7 {a b n:Nat} (h:b<2 ^ n):a &&& b<2 ^ n:=aD Nat.and_le_right h
theorem ag3 {c n j:Nat} (h:c<2 ^ n) (hj:c.testBit j=true):j<n:=by
 rcases dy j n with q|q
 ·exact q
 ·rw [Nat.testBit_lt_two_pow (aM h (cv (by decide) q))] at hj;cases hj
theorem Os {c n:Nat} (h:c<2 ^ n) (h0:c≠0):∃ i,i<n/\c.testBit i=true:=by
 obtain⟨i,hi⟩:=Nat.exists_testBit_of_ne_zero h0
 exact⟨i,ag3 h hi,hi⟩
theorem Kq {sw:Sw} {i:Nat} (hi:i<(Af sw).length):∃ d,(Cf sw)[i]? = some d/\d∈Cf sw:=by
 have h:i<(Cf sw).length:=by rw [Eh,ac] at hi;exact hi
 exact⟨_,ah h,cf h⟩
theorem Fm {sw:Sw} {i p:Nat} {x:Str×List Str} (hi:i<(Af sw).length) (hp:sw[p]? = some x):Cj sw i p<x.2.length/\Cd sw i p=some (x.2.getD (Cj sw i p) a_):=by
 obtain⟨d,hd,hm⟩:=Kq hi
 obtain⟨j,hj,lj⟩:=Ko hm hp
 have e:Cj sw i p=j:=by unfold Cj;rw [hd];show (d[p]?).getD 0=j;rw [hj];rfl
 rw [e]
 exact⟨lj,ap9 hd hp hj⟩
theorem Rq {sw:Sw} (hw:okSw sw) {i j p:Nat} {x:Str×List Str} (hi:i<(Af sw).length) (hj:j<(Af sw).length) (hp:sw[p]? = some x):Cd sw i p=Cd sw j p ↔ Cj sw i p=Cj sw j p:=by
 obtain⟨l1,e1⟩:=Fm hi hp
 obtain⟨l2,e2⟩:=Fm hj hp
 rw [e1,e2]
 refine⟨fun e=>?_,fun e=>by rw [e]⟩
 have e:=aE e
 rw [au,au,ah l1,ah l2] at e
 exact (cK (hw.sets x (af hp)).1.2.1).mp e
theorem N0 {sw:Sw} {k:Nat} {e:Str×List Str} (h:sw[k]? = some e):nmS sw k=e.1:=by
 unfold nmS
 rw [au,ai,h]
 rfl
theorem bg4 {sw:Sw} (nd:(sw.map (·.1)).Nodup) {p q:Nat} (hp:p<sw.length) (hq:q<sw.length) (h:nmS sw p=nmS sw q):p=q:=by
 unfold nmS at h
 rw [au,au,ah (by rw [ac];exact hp),ah (by rw [ac];exact hq)] at h
 exact (cK nd).mp h
theorem Il {sw:Sw} {ps:List Nat} {i j:Nat}:Cg sw ps i j=ps.all fun p=>decide (Cj sw i p=Cj sw j p):=by
 unfold Cg
 rw [bH,decide_eq_true_iff,aY,List.map_inj_left]
 exact⟨fun h p hp=>decide_eq_true (h p hp),fun h p hp=>of_decide_eq_true (h p hp)⟩
theorem Xu {sw:Sw} (hw:okSw sw) {ps:List Nat} (hp:∀ p∈ps,p<sw.length) {i j:Nat} (hi:i<(Af sw).length) (hj:j<(Af sw).length):Ca sw (ps.map (nmS sw)) i j=Cg sw ps i j:=by
 rw [Il]
 unfold Ca
 rw [e8,bH,aY,aY]
 have key:∀ p∈ps,(decide (Cd sw i (Cn sw (nmS sw p))=Cd sw j (Cn sw (nmS sw p)))=true ↔ decide (Cj sw i p=Cj sw j p)=true):=fun p hm=>by
  have hx:sw[p]? = some (sw[p]'(hp p hm)):=ah _
  rw [N0 hx,C7 hx hw.2.2.1,decide_eq_true_iff,decide_eq_true_iff]
  exact Rq hw hi hj hx
 exact⟨fun h p hm=>(key p hm).mp (h p hm),fun h p hm=>(key p hm).mpr (h p hm)⟩
theorem Uo {l:List Nat} {p q:Nat->Bool} (h:∀ a∈l,p a=q a):l.find? p=l.find? q:=by
 induction l with
 | nil=>rfl
 | cons a l ih=>rw [bD,bD,h a az,ih fun b hb=>h b (ar _ hb)]
theorem Ml {n a b:Nat} {f g:Nat->Nat->Bool} (h:∀ i j,i<n->j<n->f i j=g i j):Cw n a b f=Cw n a b g:=by
 unfold Cw
 rw [bH,bA,bA]
 constructor
 ·rintro⟨i,hi,q⟩
  refine⟨i,hi,?_⟩
  rw [aA,bA] at q ⊢
  obtain⟨q1,j,hj,q2⟩:=q
  exact⟨q1,j,hj,by rw [<- h i j (List.mem_range.mp hi) (List.mem_range.mp hj)];exact q2⟩
 ·rintro⟨i,hi,q⟩
  refine⟨i,hi,?_⟩
  rw [aA,bA] at q ⊢
  obtain⟨q1,j,hj,q2⟩:=q
  exact⟨q1,j,hj,by rw [h i j (List.mem_range.mp hi) (List.mem_range.mp hj)];exact q2⟩
theorem Gy {n c w:Nat} {f:Nat->Nat->Bool}:(Eg n c w f).isNone = !Cw n (c &&& w) (Cz w c) f:=by
 unfold Eg Cw
 rw [bH,hZ,g6,ez,cn]
 refine forall_congr' fun i=>forall_congr' fun hi=>?_
 rw [bo]
 cases e:(c.testBit i&&w.testBit i) with
 | false=>simp
 | true=>
  rw [if_pos rfl,i7,g8,cC,Bool.not_eq_true,cn]
  refine forall_congr' fun j=>forall_congr' fun hj=>?_
  rw [Ef]
theorem K9 {α β:Type} (f:α->β):∀ (k:Nat) (l:List α),Be k (l.map f)=(Be k l).map (fz f)
 | 0,l=>rfl
 | k+1,l=>by
  unfold Be
  rw [ac,iN]
  refine congrArg ji (b_ fun i _=>?_)
  show ((l.map f)[i]?).elim [] _=((l[i]?).elim [] _).map (fz f)
  rw [ai]
  cases l[i]? with
  | none=>rfl
  | some x=>
   show (Be k ((l.map f).drop (i+1))).map (f x :: ·)=((Be k (l.drop (i+1))).map (x :: ·)).map (fz f)
   rw [<- km,K9 f k,bd,bd]
   rfl
theorem E9 {α:Type}:∀ (k:Nat) (l:List α) (p:List α),p∈Be k l->p.length=k /\ ∀ x∈p,x∈l
 | 0,l,p,h=>by
  have:p=[]:=by simpa [Be] using h
  subst this
  exact⟨rfl,fun x hx=>by cases hx⟩
 | k+1,l,p,h=>by
  unfold Be at h
  obtain⟨i,hi,h⟩:=List.mem_flatMap.mp h
  cases e:l[i]? with
  | none=>rw [e] at h;cases h
  | some x=>
   rw [e] at h
   obtain⟨q,hq,rfl⟩:=List.mem_map.mp h
   obtain⟨h1,h2⟩:=E9 k _ q hq
   refine⟨by rw [aI,h1],fun y hy=>?_⟩
   rcases List.mem_cons.mp hy with rfl|hy
   ·exact af e
   ·exact gv (h2 y hy)
theorem Ys {α β:Type} (f:α->β) (l:List α):Cy (l.map f)=(Cy l).map (fz f):=by
 unfold Cy
 rw [ac,iN]
 exact congrArg ji (b_ fun k _=>K9 f k l)
theorem M9 {α:Type} {l p:List α} (h:p∈Cy l):p.length<l.length /\ ∀ x∈p,x∈l:=by
 unfold Cy at h
 obtain⟨k,hk,h⟩:=List.mem_flatMap.mp h
 obtain⟨h1,h2⟩:=E9 k l p h
 exact⟨by rw [h1];exact List.mem_range.mp hk,h2⟩
theorem K3 (sw:Sw):sw.map (·.1)=(aw sw.length).map (nmS sw):=by
 refine List.ext_getElem (by simp) fun i h1 h2=>?_
 rw [du,du,fw]
 have hi:i<sw.length:=by simpa using h1
 rw [N0 (ah hi)]
theorem Y5 {sw:Sw} (hw:okSw sw) {i j:Nat} (hi:i<(Af sw).length) (hj:j<(Af sw).length) (h:Cg sw (aw sw.length) i j=true):i=j:=by
 rw [Il,aY] at h
 have nd:=(Hu hw.sets).1
 have ln:=(Hu hw.sets).2.1
 refine (cK (h₀:=hi) (h₁:=hj) nd).mp (List.ext_getElem? fun p=>?_)
 have l1:=ln _ (cf hi)
 have l2:=ln _ (cf hj)
 by_cases hp:p<sw.length
 ·have e:=(Rq hw hi hj (ah hp)).mpr (of_decide_eq_true (h p (List.mem_range.mpr hp)))
  unfold Cd at e
  rw [ah hi,ah hj] at e
  exact e
 ·rw [dv (by omega),dv (by omega)]
theorem Y6 {sw:Sw} (hw:okSw sw) (c w:Nat):Eg (Af sw).length c w (Cg sw (aw sw.length))=none:=by
 rw [<- hZ,Gy,ez]
 unfold Cw
 rw [cn]
 intro i hi q
 rw [aA,bA,bo,aA] at q
 obtain⟨⟨q1,_⟩,j,hj,q2⟩:=q
 rw [aA,Ef,aA] at q2
 have e:=Y5 hw (List.mem_range.mp hi) (List.mem_range.mp hj) q2.2
 subst e
 rw [q1] at q2
 simp at q2
theorem Jj {α β:Type} {f:α->β} {p:α->Bool} {q:β->Bool}:∀ {l:List α},(∀ a∈l,q (f a)=p a)->(l.map f).find? q=(l.find? p).map f
 | [],_=>rfl
 | a::l,h=>by
  rw [aQ,bD,bD,h a az]
  cases p a with
  | true=>rfl
  | false=>exact Jj fun b hb=>h b (ar _ hb)
theorem Us {sw:Sw} (hw:okSw sw) (c w:Nat):Gm sw c w=(Ur sw c w).map (nmS sw)/\(Ec sw.length).find? (fun ps=>(Eg (Af sw).length c w (Cg sw ps)).isNone)=some (Ur sw c w):=by
 have e:(Ec sw.length).find? (fun ps=>(Eg (Af sw).length c w (Cg sw ps)).isNone)=some (((Cy (aw sw.length)).find? fun ps=>(Eg (Af sw).length c w (Cg sw ps)).isNone).getD (aw sw.length)):=by
  unfold Ec
  rw [List.find?_append]
  cases (Cy (aw sw.length)).find? (fun ps=>(Eg (Af sw).length c w (Cg sw ps)).isNone) with
  | some p=>rfl
  | none=>rw [bD,Y6 hw];rfl
 have d:Ur sw c w=((Cy (aw sw.length)).find? fun ps=>(Eg (Af sw).length c w (Cg sw ps)).isNone).getD (aw sw.length):=by unfold Ur;rw [e];rfl
 refine⟨?_,by rw [e,d]⟩
 rw [d]
 unfold Gm
 rw [K3,Ys,Jj (p:=fun ps=>(Eg (Af sw).length c w (Cg sw ps)).isNone)]
 ·cases (Cy (aw sw.length)).find? (fun ps=>(Eg (Af sw).length c w (Cg sw ps)).isNone) <;> rfl
 ·intro ps hps
  rw [Gy,Ml fun i j hi hj=>Xu hw (fun p hp=>List.mem_range.mp ((M9 hps).2 p hp)) hi hj]
section
variable {P:aW} {w:bE} {K:ae} {mg:Str->Option Value} {base:Heap} {t:Adr}
noncomputable def pkS (k:Nat) (ws:List Str) (m:Nat):List (List Str):=(aw m).flatMap fun i=>(ws[i]?).elim [] fun x=>(Be k (ws.drop (i+1))).map (x :: ·)
theorem X0 {k:Nat} {ws:List Str} {m:Nat} {x:Str} (h:ws[m]? = some x):pkS k ws (m+1)=pkS k ws m++(Be k (ws.drop (m+1))).map (x :: ·):=by
 unfold pkS
 rw [cG,dq,dm,gn,bQ,h]
 rfl
theorem Iw:∀ (k:Nat) (ws:List Str),(Be k ws).length<=2 ^ ws.length
 | 0,ws=>by show 1<=_;exact Nat.one_le_two_pow
 | k+1,ws=>by
  have key:∀ m,m<=ws.length->(pkS k ws m).length+2 ^ (ws.length - m)<=2 ^ ws.length:=by
   intro m
   induction m with
   | zero=>intro _;show 0+_<=_;rw [cB];exact ak _
   | succ m ih=>
    intro hm
    have:=ih (by omega)
    rw [X0 (ah (by omega)),aJ,ac]
    have h2:=Iw k (ws.drop (m+1))
    rw [cg] at h2
    have h3:2 ^ (ws.length - m)=2 ^ (ws.length - (m+1)) * 2:=by rw [<- Nat.pow_succ];congr 1;omega
    omega
  have:=key ws.length (ak _)
  exact ax (aU _ _) this
theorem bl1 {k:Nat} {ws:List Str} {m:Nat} (hm:m<=ws.length):(pkS k ws m).length<=2 ^ ws.length:=by
 refine ax ?_ (Iw (k+1) ws)
 show _<=(pkS k ws ws.length).length
 have:∀ j,(pkS k ws m).length<=(pkS k ws (m+j)).length:=by
  intro j
  induction j with
  | zero=>exact ak _
  | succ j ih=>
   refine ax ih ?_
   unfold pkS
   rw [<- Nat.add_assoc,cG,dq,aJ]
   exact aU _ _
 have:=this (ws.length - m)
 rwa [show m+(ws.length - m)=ws.length by omega] at this
theorem Yu {E:EK} {H:Hp} {r:Addr} {x:Str} {es:List (List Str×Addr)} {R:Hp->Addr->Prop} (hr:H r=some (.lst (es.map fun e=>.ref e.2))) (he:∀ e∈es,H e.2=some (Bi e.1)) (few:es.length<=64) (fl:∀ e∈es,e.1.length<=100)
  (k:∀ D H',Same H H'->H D=none -> ∀ fs:List (List Str×Addr),fs.map (·.1)=(es.map (·.1)).map (x :: ·)->H' D=some (.lst (fs.map fun y=>.ref y.2))->(∀ y∈fs,y.2≠D/\H y.2=none/\H' y.2=some (Bi y.1))->R H' D) :
  ∀ D,H D=none->E3 (Itl K r) (gdN 0) Bw (Ae (Bb K) (Bl (Ac (Aa 1) Ai)) (Aa 0)) D (fun H'=>R H' D) [none,some (.str x)] (upd H D (.lst [])) E:=by
 intro D hD
 refine Cs (As (es.map fun e=>V.ref e.2)) (fun m σ H'=>(∃ v,σ=[v,some (.str x)])/\Same H H' /\ ∃ fs:List (List Str×Addr),fs.map (·.1)=((es.take m).map (·.1)).map (x :: ·)/\H' D=some (.lst (fs.map fun y=>.ref y.2)) /\ ∀ y∈fs,y.2≠D/\H y.2=none/\H' y.2=some (Bi y.1))
  ⟨⟨_,rfl⟩,Same.upd hD,[],rfl,Ad,fun x hx=>by cases hx⟩ (fun m σ H' _ q=>q.2.1.seqL (SqL.of hr)) ?_ ?_
 ·rintro m y σ H1 hy ⟨⟨v,rfl⟩,S1,fs,ef,eD,hf⟩
  obtain⟨⟨e,ea⟩,hm,rfl⟩:=Ao hy
  have hea:=S1 _ _ (he _ (af hm))
  have le:=fl _ (af hm)
  have lm:=An hm
  refine⟨(show 1<=sizeLine by decide),fun p hp=>.inl ⟨p,ea,_,_,rfl,rfl,Ad,(Same.upd hp) _ _ hea,?_,fun q hq=>?_⟩⟩
  ·rw [ac];exact ax (show 1+e.length<=101 by have:e.length<=100:=le;omega) (by decide)
  have Sp:=Same.upd (o:=.lst [.str x]) hp
  have Sq:=Same.upd (o:=.lst ([.str x]++e.map V.str)) hq
  have eq:upd (upd H1 p (.lst [.str x])) q (.lst ([.str x]++e.map V.str)) q=some (Bi (x::e)):=Ad
  have S12:=Sp.trans Sq
  have qD:q≠D:=(Aj (Sp _ _ eD) hq).symm
  have hq0:H q=none:=(S1.trans Sp).free hq
  generalize upd (upd H1 p (.lst [.str x])) q (.lst ([.str x]++e.map V.str))=H2 at S12 eq ⊢
  have eD2:=S12 _ _ eD
  refine⟨_,eD2,?_,⟨_,rfl⟩,(S1.trans S12).set hD,fs++[(x::e,q)],?_,?_,fun y hy=>?_⟩
  ·rw [ac]
   have:=congrArg bv ef
   rw [ac,ac,ac,aF] at this
   exact aD (show fs.length<=64 by omega) (by decide)
  ·rw [aq,ef,Bh hm,aq];rfl
  ·rw [Ad,aq];rfl
  ·rcases List.mem_append.mp hy with hy|hy
   ·obtain⟨a1,a2,a3⟩:=hf y hy
    exact⟨a1,a2,by rw [Ak a1];exact S12 _ _ a3⟩
   ·have:y=(x::e,q):=by simpa using hy
    subst this
    exact⟨qD,hq0,by rw [Ak qD];exact eq⟩
 ·rintro σ H1 ⟨_,S1,fs,ef,eD,hf⟩
  rw [ac,aL] at ef
  exact k D H1 S1 hD fs ef eD hf
theorem an1 {k:Nat} {ws:List Str} (h:Be k ws≠[]):k<=ws.length:=by
 induction k generalizing ws with
 | zero=>exact bR _
 | succ k ih=>
  obtain⟨p,hp⟩:=List.exists_mem_of_ne_nil _ h
  unfold Be at hp
  obtain⟨i,hi,hp⟩:=List.mem_flatMap.mp hp
  cases e:ws[i]? with
  | none=>rw [e] at hp;cases hp
  | some x=>
   rw [e] at hp
   obtain⟨q,hq,rfl⟩:=List.mem_map.mp hp
   have:=ih (ws:=ws.drop (i+1)) (fun z=>by rw [z] at hq;cases hq)
   rw [cg] at this
   have:=List.mem_range.mp hi
   omega
theorem aw7 {xs:List V} {i:Nat} {x y:V} (h:(Ev 0 xs)[i]? = some (x,y)):x=.int (i:Int)/\xs[i]? = some y:=by
 have hi:=An h
 rw [Cc] at hi
 have:=De (k:=0) (ah hi)
 rw [h,cB] at this
 have:=aE this
 injection this with a b
 exact⟨a,by rw [ah hi,b]⟩
theorem bi6 (Z:A0 K t) (g:DOk K mg "picks" Ma t.f_zav t.d_zav Ke) (T:Tab P w K mg base 0 (Bk K t) bl):∀ n,FnOk P w K mg base CX0 (0+n+1) t.f_zav t.d_zav Ke (Hy K t n):=by
 refine X8 (Hy K t) (ba4 K t) g bt3 bw4 T 40 (bq8 K t) (fun n vs H Q E h=>?_) (fun vs H Q E h=>?_) (fun n vs H Q E h=>?_)
 ·obtain⟨l,k,ws,rfl,_⟩:=h;rfl
 ·obtain⟨l,k,ws,_,_,_,h,_⟩:=h;exact absurd h (cy _)
 ·obtain⟨l,k,ws,rfl,hl,few,hk,kk⟩:=h
  refine Er (fun e=>?_) (fun e=>?_)
  ·have e:(k:Int)=0:=by simpa using e
   have e:k=0:=by omega
   subst e
   refine⟨(show 0<=sizeLine by decide),fun a ha=>⟨(show 1<=sizeLine by decide),fun b hb=>kk _ b ((Same.upd ha).trans (Same.upd hb)) ⟨[([],a)],rfl,⟨(Same.upd ha).free hb,Ad⟩,fun x hx=>?_⟩⟩⟩
   have:x=([],a):=by simpa using hx
   subst this
   exact⟨ha,(Same.upd hb) _ _ Ad⟩
  ·have e:¬ (k:Int)=0:=by simpa using e
   obtain⟨j,rfl⟩:∃ j,k=j+1:=⟨k - 1,by omega⟩
   refine⟨(show 0<=sizeLine by decide),fun D hD=>?_⟩
   have S0:=Same.upd (o:=.lst []) hD
   have e0:upd H D (.lst []) D=some (.lst []):=Ad
   show Ah _ _ _ [some (.ref l),some (.int ((j+1:Nat):Int)),some (.ref D),none,none] _
   generalize upd H D (.lst [])=H0 at S0 e0 ⊢
   refine .inl ⟨⟨_,S0.seqL (SqL.of hl)⟩,?_⟩
   refine Ph (Qn (ws.map V.str)) (fun m σ H'=>(∃ v3 v4,σ=[some (.ref l),some (.int ((j+1:Nat):Int)),some (.ref D),v3,v4])/\Same H H' /\ ∃ fs:List (List Str×Addr),fs.map (·.1)=pkS j ws m/\H' D=some (.lst (fs.map fun y=>.ref y.2)) /\ ∀ y∈fs,y.2≠D/\H y.2=none/\H' y.2=some (Bi y.1))
    ⟨⟨_,_,rfl⟩,S0,[],rfl,e0,fun x hx=>by cases hx⟩ (fun m σ H' _ q=>q.2.1.seqL (SqL.of hl)) ?_ ?_
   ·rintro m x y T σ H1 hx hT ⟨⟨v3,v4,rfl⟩,S1,fs,ef,eD,hf⟩
    obtain⟨rfl,hy⟩:=aw7 hx
    obtain⟨z,hz,rfl⟩:=Ao hy
    have lm:=An hz
    have ST:=Same.upd (o:=.tup [.int (m:Int),.str z]) hT
    have tT:upd H1 T (.tup [.int (m:Int),.str z]) T=some (.tup [.int (m:Int),.str z]):=Ad
    generalize upd H1 T (.tup [.int (m:Int),.str z])=H2 at ST tT ⊢
    have S2:=S1.trans ST
    refine⟨_,.inl (SqT.of tT),rfl,.inl ⟨rfl,_,SqL.of (ST _ _ eD)⟩,.inl ⟨_,SqL.of (S2 _ _ hl),fun L hL=>?_⟩⟩
    have SL:=Same.upd (o:=.lst (Ds (ws.map V.str) (some ((m:Int)+1)) none)) hL
    have eL:upd H2 L (.lst (Ds (ws.map V.str) (some ((m:Int)+1)) none)) L=some (Bi (ws.drop (m+1))):=by
     rw [Ad,show ((m:Int)+1)=((m+1:Nat):Int) by omega,Eu];unfold Bi;rw [km]
    generalize upd H2 L (.lst (Ds (ws.map V.str) (some ((m:Int)+1)) none))=H3 at SL eL ⊢
    have S3:=S2.trans SL
    refine⟨L,j,ws.drop (m+1),by show [V.ref L,.int (((j+1:Nat):Int) - 1)]=_;rw [show ((j+1:Nat):Int) - 1=(j:Int) by omega],eL,by rw [cg];omega,by omega,fun H4 r S4 ⟨es,ee,⟨_,er⟩,he⟩=>?_⟩
    have S5:=(ST.trans SL).trans S4
    have lp:(Be j (ws.drop (m+1))).length<=32:=ax (Iw _ _) (cv (j:=5) (show 2 > 0 by decide) (show (ws.drop (m+1)).length<=5 by rw [cg];omega))
    have le:es.length=(Be j (ws.drop (m+1))).length:=by rw [<- ee,ac]
    refine .inl ⟨⟨_,SqL.of er⟩,?_⟩
    refine Yu er (fun e h=>(he e h).2) (by omega) (fun e h=>?_) fun D2 H5 S6 fD2 gs eg eD2 hg=>?_
    ·have:=(E9 j _ e.1 (by rw [<- ee];exact List.mem_map.mpr ⟨e,h,rfl⟩)).1
     rw [this]
     have:(Be j (ws.drop (m+1)))≠[]:=fun q=>by rw [q] at ee;have:=List.map_eq_nil_iff.mp ee;subst this;cases h
     exact ax (an1 this) (by rw [cg];omega)
    have S7:=S5.trans S6
    refine⟨D,D2,_,_,rfl,rfl,S7 _ _ eD,eD2,?_,⟨_,_,rfl⟩,(S1.trans S7).set hD,fs++gs,?_,?_,fun y hy=>?_⟩
    ·rw [ac,ac]
     have h1:=congrArg bv ef
     have h2:=congrArg bv eg
     rw [ac] at h1
     rw [ac,ac,ac] at h2
     have h3:(pkS j ws m).length<=32:=ax (bl1 (by omega)) (cv (j:=5) (show 2 > 0 by decide) few)
     exact ax (show _<=64 by omega) (by decide)
    ·rw [aq,ef,eg,ee,X0 hz]
    ·rw [Ad,aq]
    ·have nD:∀ {b},H4 b=none->b≠D:=fun q=>(Aj (S5 _ _ eD) q).symm
     rcases List.mem_append.mp hy with hy|hy
     ·obtain⟨a1,a2,a3⟩:=hf y hy
      exact⟨a1,a2,by rw [Ak a1];exact S7 _ _ a3⟩
     ·obtain⟨a1,a2,a3⟩:=hg y hy
      exact⟨nD a2,(S1.trans S5).free a2,by rw [Ak (nD a2)];exact a3⟩
   ·rintro σ H1 ⟨⟨v3,v4,rfl⟩,S1,fs,ef,eD,hf⟩
    rw [Cc,ac] at ef
    exact .inl (kk H1 D S1 ⟨fs,ef,⟨hD,eD⟩,fun y hy=>(hf y hy).2⟩)
theorem Vd {E:EK} {H:Hp} {l:Addr} {ds:List ((Str×V)×Addr)} {R:Hp->Addr->Prop} (hl:H l=some (.lst (ds.map fun x=>.ref x.2))) (hd:∀ x∈ds,H x.2=some (.tup [.str x.1.1,x.1.2])) (few:ds.length<=1000)
  (k:∀ D H',Same H H'->H D=none->H' D=some (Bi (ds.map (·.1.1)))->R H' D) :
  ∀ D,H D=none->E3 (Itl K l) (gdT K 2 [(gdN 0),(gdN 1)]) Bw (Aa 0) D (fun H'=>R H' D) [none,none] (upd H D (.lst [])) E:=by
 intro D hD
 refine Cs (As (ds.map fun x=>V.ref x.2)) (fun m σ H'=>(∃ a b,σ=[a,b])/\Same H H'/\H' D=some (Bi ((ds.take m).map (·.1.1)))) ⟨⟨_,_,rfl⟩,Same.upd hD,Ad⟩ (fun m σ H' _ q=>q.2.1.seqL (SqL.of hl)) ?_ ?_
 ·rintro m x σ H1 hx ⟨⟨a,b,rfl⟩,S1,eD⟩
  obtain⟨d,hm,rfl⟩:=Ao hx
  refine⟨_,.inl (SqT.of (S1 _ _ (hd d (af hm)))),rfl,_,eD,?_,⟨_,_,rfl⟩,S1.set hD,?_⟩
  ·rw [ac,ac,aF]
   exact aD (show _<=1000 by omega) (by decide)
  ·rw [Ad,Bh hm];unfold Bi;rw [aq];rfl
 ·rintro σ H1 ⟨_,S1,eD⟩
  rw [ac,aL] at eD
  exact k D H1 S1 hD eD
theorem Tq {E:EK} {H:Hp} {l:Addr} {sw:Sw} {ds:List (((Str×List Str)×Addr)×Addr)} {R:Hp->Addr->Prop} (hw:okSw sw) (ed:ds.map (·.1.1)=sw) (hl:H l=some (.lst (ds.map fun x=>.ref x.2))) (hd:∀ x∈ds,H x.2=some (.tup [.str x.1.1.1,.ref x.1.2]))
  (k:∀ D H',Same H H'->H D=none->H' D=some (Bi (sw.map (·.1)))->R H' D) :
  ∀ D,H D=none->E3 (Itl K l) (gdT K 2 [(gdN 0),(gdN 1)]) Bw (Aa 0) D (fun H'=>R H' D) [none,none] (upd H D (.lst [])) E:=by
 have len:ds.length=sw.length:=by rw [<- ed,ac]
 refine Vd (ds:=ds.map fun x=>((x.1.1.1,V.ref x.1.2),x.2)) (by rw [hl,bd];rfl) (fun x hx=>?_) (by rw [ac];have:=hw.2.1;omega) fun D H' S fD eD=>k D H' S fD (by rw [eD,bd,<- ed,bd];rfl)
 obtain⟨y,hy,rfl⟩:=List.mem_map.mp hx
 exact hd y hy
theorem Gu (l:List Str):(l.map V.str).all Bs=true:=by rw [e8,aY];exact fun _ _=>rfl
theorem Fs {α β:Type} {f:α->Option β} {b:β}:∀ {l:List α} {k:Nat} {x:α},l[k]? = some x->(∀ (j:Nat) y,j<k->l[j]? = some y->f y=none)->f x=some b->l.findSome? f=some b
 | [],_,_,h,_,_=>by simp at h
 | a::l,0,x,h,_,hb=>by
  have:a=x:=by simpa using h
  subst this
  rw [jV,hb]
 | a::l,k+1,x,h,no,hb=>by
  rw [jV,no 0 a (by omega) rfl]
  exact Fs (by simpa using h) (fun j y hj hy=>no (j+1) y (by omega) (by simpa using hy)) hb
theorem ce2 {n b:Nat} {f:Nat->Nat->Bool}:Cw n 0 b f=false:=by
 unfold Cw
 rw [cn]
 intro i _
 rw [b5]
 exact am
theorem ce3 {n a:Nat} {f:Nat->Nat->Bool}:Cw n a 0 f=false:=by
 unfold Cw
 rw [cn]
 intro i _
 have:((aw n).any fun j=>(0:Nat).testBit j&&f i j)=false:=by
  rw [cn]
  intro j _
  rw [b5]
  exact am
 rw [this,c_]
 exact am
theorem Yi {sw:Sw} {n a b:Nat} (ha:a<2 ^ n) (hb:b<2 ^ n) (a0:a≠0) (b0:b≠0):Cw n a b (Ca sw [])=true:=by
 obtain⟨i,hi,ei⟩:=Os ha a0
 obtain⟨j,hj,ej⟩:=Os hb b0
 unfold Cw
 rw [bA]
 refine⟨i,List.mem_range.mpr hi,?_⟩
 rw [ei,cC,bA]
 refine⟨j,List.mem_range.mpr hj,?_⟩
 rw [ej]
 rfl
theorem Mm {sw:Sw} (hw:okSw sw) {p:Nat} {x:Str×List Str} (hp:sw[p]? = some x) {a b:Nat} {ws:List Str}:Cw (Af sw).length a b (Ca sw (x.1::ws))=x.2.any fun z=>Cw (Af sw).length (a &&& Au (Af sw) p z) (b &&& Au (Af sw) p z) (Ca sw ws):=by
 have lk:∀ i j,Ca sw (x.1::ws) i j=(decide (Cd sw i p=Cd sw j p)&&Ca sw ws i j):=fun i j=>by
  unfold Ca
  rw [bt,C7 hp hw.2.2.1]
 unfold Cw
 rw [bH,bA,bA]
 constructor
 ·rintro⟨i,hi,q⟩
  rw [aA,bA] at q
  obtain⟨q1,j,hj,q2⟩:=q
  rw [aA,lk,aA] at q2
  have hi':=List.mem_range.mp hi
  obtain⟨l1,c1⟩:=Fm hi' hp
  have hz:x.2.getD (Cj sw i p) a_∈x.2:=by
   rw [au,ah l1]
   exact cf l1
  generalize x.2.getD (Cj sw i p) a_=z at hz c1
  have c2:Cd sw j p=some z:=by rw [<- of_decide_eq_true q2.2.1,c1]
  refine⟨z,hz,List.any_eq_true.mpr ⟨i,hi,?_⟩⟩
  rw [bo,q1,Df,show Ju (Af sw) p z i=true from decide_eq_true c1,cC,cC,bA]
  refine⟨j,hj,?_⟩
  rw [bo,q2.1,Df,show Ju (Af sw) p z j=true from decide_eq_true c2,q2.2.2]
  rfl
 ·rintro⟨z,hz,q⟩
  obtain⟨i,hi,q⟩:=List.any_eq_true.mp q
  rw [aA,bo,aA,Df,bA] at q
  obtain⟨⟨q1,q2⟩,j,hj,q3⟩:=q
  rw [aA,bo,aA,Df] at q3
  refine⟨i,hi,?_⟩
  rw [q1,cC,bA]
  refine⟨j,hj,?_⟩
  have e:Cd sw i p=Cd sw j p:=(of_decide_eq_true q2).trans (of_decide_eq_true q3.1.2).symm
  rw [q3.1.1,lk,decide_eq_true e,q3.2]
  rfl
theorem Hm {sw:Sw} {x:Str} (h:x∈sw.map (·.1)):∃ (i:Nat) (e:Str×List Str),sw[i]? = some e/\x=e.1:=by
 obtain⟨i,hi⟩:=List.mem_iff_getElem?.mp h
 obtain⟨e,he,ex⟩:=Ao hi
 exact⟨i,e,he,ex⟩
theorem bi1 (Z:A0 K t) (g:DOk K mg "decides" Ly t.f_zaq t.d_zaq Kd) (T:Tab P w K mg base 1 (D9 K t) bl):∀ n,FnOk P w K mg base CX0 (1+n+1) t.f_zaq t.d_zaq Kd (Hx K t n):=by
 refine X8 (Hx K t) (ba3 K t) g bs8 bv9 T 40 (bq3 K t) (fun n vs H Q E h=>?_) (fun vs H Q E h=>?_) (fun n vs H Q E h=>?_)
 ·obtain⟨p,l,a,b,ws,sw,rules,rfl,_⟩:=h;rfl
 ·obtain⟨p,l,a,b,ws,sw,rules,_,_,_,_,_,_,h,_⟩:=h;exact absurd h (cy _)
 ·obtain⟨p,l,a,b,ws,sw,rules,rfl,hP,hw,ha,hb,hl,lw,n9,hin,kk⟩:=h
  refine Er (fun e=>?_) (fun e=>?_)
  ·have e:(a:Int)=0:=by simpa using e
   have e:a=0:=by omega
   subst e
   rw [ce2] at kk
   exact kk H (Same.refl _)
  have a0:¬ (a:Int)=0:=by simpa using e
  refine Er (fun e=>?_) (fun e=>?_)
  ·have e:(b:Int)=0:=by simpa using e
   have e:b=0:=by omega
   subst e
   rw [ce3] at kk
   exact kk H (Same.refl _)
  have b0:¬ (b:Int)=0:=by simpa using e
  refine⟨(show 0<=sizeLine by decide),fun el hel=>?_⟩
  have S0:=Same.upd (o:=.lst []) hel
  have e0:upd H el (.lst []) el=some (.lst []):=Ad
  generalize upd H el (.lst [])=H0 at S0 e0 ⊢
  refine .inl ⟨l,el,_,_,rfl,rfl,SqL.of (S0 _ _ hl),SqL.of e0,Gu ws,rfl,?_⟩
  cases ws with
  | nil=>
   rw [Yi ha hb (by omega) (by omega)] at kk
   exact kk H0 S0
  | cons y ws=>
   refine Ew (Hc (by rw [ac];exact fun z=>by cases z)) ?_
   refine .inl ⟨_,SqL.of (S0 _ _ hl),fun L hL=>?_⟩
   have SL:=Same.upd (o:=.lst (Ds ((y::ws).map V.str) (some 1) none)) hL
   have eL:upd H0 L (.lst (Ds ((y::ws).map V.str) (some 1) none)) L=some (Bi ws):=by
    rw [Ad,show (1:Int)=((1:Nat):Int) from rfl,Eu];rfl
   show Ah _ _ _ [some (.ref p),some (.int (a:Int)),some (.int (b:Int)),some (.ref l),some (.ref L),none,none] _
   generalize upd H0 L (.lst (Ds ((y::ws).map V.str) (some 1) none))=H1 at SL eL ⊢
   have S1:=S0.trans SL
   obtain⟨i,x,hi,ex⟩:=Hm (hin y az)
   subst ex
   obtain⟨dx,d,la,nn,s,kx,bb,h⟩:=id hP
   refine⟨p,dx,_,⟨t.c_zbg,ax7 K t⟩,rfl,.head _,S1 _ _ h.ins.2,rfl,⟨aC rfl,aC rfl⟩,_,_,.inl (SqL.of (S1 _ _ hl)),Ar (j:=0) rfl,p,i,x,sw,rules,rfl,hP.mono (Kp.same S1),hw,hi,fun H2 r S2 ⟨Ts,er,et,tw⟩=>?_⟩
   rw [ac] at et
   refine .inl ⟨⟨_,SqL.of er⟩,?_⟩
   refine A5 (As (Ts.map V.ref)) (fun m σ H'=>(∃ v5 v6,σ=[some (.ref p),some (.int (a:Int)),some (.int (b:Int)),some (.ref l),some (.ref L),v5,v6])/\Same H2 H' /\ ∀ (j:Nat) z,j<m->x.2[j]? = some z->Cw (Af sw).length (a &&& Au (Af sw) i z) (b &&& Au (Af sw) i z) (Ca sw ws)=false)
    ⟨⟨_,_,rfl⟩,Same.refl _,fun j z hj=>absurd hj (cy _)⟩ (fun m σ H' _ q=>q.2.1.seqL (SqL.of er)) ?_ ?_
   ·rintro m v σ H3 hv ⟨⟨v5,v6,rfl⟩,S3,no⟩
    obtain⟨T,hT,rfl⟩:=Ao hv
    have hz:x.2[m]? = some (x.2[m]'(by rw [<- et];exact An hT)):=ah _
    generalize x.2[m]'(by rw [<- et];exact An hT)=z at hz
    have tT:=tw m (.str z) (.int (Cl (Af sw) i z)) T (by rw [ai,hz];rfl) hT
    have S13:=S2.trans S3
    refine⟨_,.inl (SqT.of (S3 _ _ tT)),rfl,p,L,a &&& Au (Af sw) i z,b &&& Au (Af sw) i z,ws,sw,rules,?_,hP.mono (Kp.same (S1.trans S13)),hw,Eo ha,Eo hb,S13 _ _ eL,?_,by omega,fun y hy=>hin y (ar _ hy),fun H4 S4=>?_⟩
    ·show [V.ref p,.int (aS (a:Int) (Cl (Af sw) i z)),.int (aS (b:Int) (Cl (Af sw) i z)),.ref L]=_
     rw [Ip,B3,B3]
    ·have:(x.1::ws).length<n+1:=lw
     rw [aI] at this
     omega
    cases e:Cw (Af sw).length (a &&& Au (Af sw) i z) (b &&& Au (Af sw) i z) (Ca sw ws) with
    | true=>
     rw [Mm hw hi,List.any_eq_true.mpr ⟨z,af hz,e⟩] at kk
     exact kk H4 ((S1.trans S13).trans S4)
    | false=>
     refine⟨⟨_,_,rfl⟩,S3.trans S4,fun j z' hj hz'=>?_⟩
     rcases dy j m with q|q
     ·exact no j z' q hz'
     ·have:j=m:=by omega
      subst this
      rw [hz] at hz'
      rw [<- aE hz']
      exact e
   ·rintro σ H3 ⟨⟨v5,v6,rfl⟩,S3,no⟩
    rw [ac,et] at no
    have e:(x.2.any fun z=>Cw (Af sw).length (a &&& Au (Af sw) i z) (b &&& Au (Af sw) i z) (Ca sw ws))=false:=by
     rw [cn]
     intro z hz
     obtain⟨j,hj⟩:=List.mem_iff_getElem?.mp hz
     rw [no j z (An hj) hj]
     exact am
    rw [Mm hw hi,e] at kk
    exact .inl (kk H3 ((S1.trans S2).trans S3))
theorem Pg {α:Type} {p:α->Bool}:∀ {l:List α} {j:Nat} {x:α},l[j]? = some x->p x=true->(∀ (j':Nat) y,j'<j->l[j']? = some y->p y=false)->l.find? p=some x
 | [],_,_,h,_,_=>by simp at h
 | a::l,0,x,h,hp,_=>by
  have:a=x:=by simpa using h
  subst this
  rw [bD,hp]
 | a::l,j+1,x,h,hp,no=>by
  rw [bD,no 0 a (by omega) rfl]
  exact Pg (by simpa using h) hp fun j' y hj hy=>no (j'+1) y (by omega) (by simpa using hy)
theorem Xk {α:Type} {p:α->Bool} {l:List α} (no:∀ (j:Nat) y,l[j]? = some y->p y=false):l.find? p=none:=by
 rw [g8]
 intro y hy q
 obtain⟨j,hj⟩:=List.mem_iff_getElem?.mp hy
 rw [no j y hj] at q
 cases q
theorem Uw {α:Type} {l:List α} {k j:Nat} {x:List α} {p:List α->Bool} (hk:k<l.length) (hj:(Be k l)[j]? = some x) (hp:p x=true) (n1:∀ k',k'<k -> ∀ y∈Be k' l,p y=false) (n2:∀ (j':Nat) y,j'<j->(Be k l)[j']? = some y->p y=false):(Cy l).find? p=some x:=by
 unfold Cy
 rw [List.find?_flatMap]
 refine Fs (k:=k) (x:=k) (by rw [dt hk]) (fun k' y hk' hy=>?_) (Pg hj hp n2)
 rw [dt (by omega)] at hy
 cases hy
 exact Xk fun i z hz=>n1 _ hk' z (af hz)
theorem M0 {α:Type} {l:List α} {p:List α->Bool} (n1:∀ k',k'<l.length -> ∀ y∈Be k' l,p y=false):(Cy l).find? p=none:=by
 rw [g8]
 intro y hy q
 unfold Cy at hy
 obtain⟨k,hk,hy⟩:=List.mem_flatMap.mp hy
 rw [n1 k (List.mem_range.mp hk) y hy] at q
 cases q
theorem bh5 {f:Addr} {fd:aB} (Z:A0 K t) (F:FunD K "deciding" "deciding" Lr f fd .none) (T:Tab P w K mg base 8 (ax4 K t) bl):FnOk P w K mg base CX0 9 f fd Qz (Wr K t):=by
 refine F.okW0 bs2 bv3 T (bp7 K t) (fun vs H Q E h=>?_) (fun vs H Q E h=>?_)
 ·obtain⟨p,c,w,sw,rules,rfl,_⟩:=h;rfl
 ·obtain⟨p,c,w,sw,rules,rfl,hP,hw,hc,hww,k⟩:=h
  obtain⟨dx,d,l,n,s,kk,b,h⟩:=id hP
  have l5:=hw.2.1
  refine⟨p,dx,_,⟨t.c_zbg,bf2 K t⟩,rfl,.head _,h.ins.2,rfl,⟨aC rfl,aC rfl⟩,p,sw,rules,rfl,hP,hw,fun H1 q ds S1 fq ed eq hd=>?_⟩
  refine .inl ⟨⟨_,SqL.of eq⟩,?_⟩
  refine Tq hw ed eq (fun x hx=>(hd x hx).1) fun D H2 S2 fD eD=>?_
  have S:=S1.trans S2
  have ln:(sw.map (·.1)).length=sw.length:=ac _
  refine .inl ⟨_,.inl (SqL.of eD),?_⟩
  rw [ac,ln]
  refine⟨⟨by omega,by omega⟩,?_⟩
  rw [aG]
  refine A5 (Bq 0 sw.length) (fun m σ H'=>(∃ v4 v5,σ=[some (.ref p),some (.int (c:Int)),some (.int (w:Int)),some (.ref D),v4,v5])/\Same H2 H' /\ ∀ k',k'<m -> ∀ y∈Be k' (sw.map (·.1)),(!Cw (Af sw).length (c &&& w) (Cz w c) (Ca sw y))=false)
   ⟨⟨_,_,rfl⟩,Same.refl _,fun k' hk=>absurd hk (cy _)⟩ (fun _ _ _ _ _=>bn) ?_ ?_
  ·rintro m x σ H3 hx ⟨⟨v4,v5,rfl⟩,S3,no⟩
   obtain⟨hm,rfl⟩:=Dh hx
   refine⟨D,m,sw.map (·.1),rfl,S3 _ _ eD,by omega,by omega,fun H4 r S4 ⟨es,ee,⟨_,er⟩,he⟩=>?_⟩
   refine .inl ⟨⟨_,SqL.of er⟩,?_⟩
   refine A5 (As (es.map fun x=>V.ref x.2)) (fun j σ H'=>(∃ v5,σ=[some (.ref p),some (.int (c:Int)),some (.int (w:Int)),some (.ref D),some (.int (m:Int)),v5])/\Same H4 H' /\ ∀ (j':Nat) y,j'<j->(Be m (sw.map (·.1)))[j']? = some y->(!Cw (Af sw).length (c &&& w) (Cz w c) (Ca sw y))=false)
    ⟨⟨_,rfl⟩,Same.refl _,fun j' y hj=>absurd hj (cy _)⟩ (fun j σ H' _ q=>q.2.1.seqL (SqL.of er)) ?_ ?_
   ·rintro j v σ H5 hv ⟨⟨v5,rfl⟩,S5,no2⟩
    obtain⟨⟨ws,e⟩,hj,rfl⟩:=Ao hv
    have hj2:(Be m (sw.map (·.1)))[j]? = some ws:=by rw [<- ee,ai,hj];rfl
    obtain⟨p1,p2⟩:=E9 m _ ws (af hj2)
    obtain⟨fe,oe⟩:=he _ (af hj)
    have S25:=(S3.trans S4).trans S5
    refine⟨p,e,c &&& w,Cz w c,ws,sw,rules,?_,hP.mono (Kp.same (S.trans S25)),hw,Eo hc,Py hww,S5 _ _ oe,by omega,by omega,p2,fun H6 S6=>?_⟩
    ·show [V.ref p,.int (aS (c:Int) (w:Int)),.int (aS (w:Int) (be (c:Int))),.ref e]=_
     rw [Ss,B3]
    cases eu:Cw (Af sw).length (c &&& w) (Cz w c) (Ca sw ws) with
    | false=>
     have ed2:Gm sw c w=ws:=by
      unfold Gm
      rw [Uw (k:=m) (j:=j) (x:=ws) (by rw [ln];exact hm) hj2 (by rw [eu];rfl) no no2]
      rfl
     refine k H6 e ((S.trans S25).trans S6) ((S.trans S3).free fe) ?_
     rw [ed2]
     exact S6 _ _ (S5 _ _ oe)
    | true=>
     refine⟨⟨_,rfl⟩,S5.trans S6,fun j' y hj' hy=>?_⟩
     rcases dy j' j with q|q
     ·exact no2 j' y q hy
     ·have:j'=j:=by omega
      subst this
      rw [hj2] at hy
      rw [<- aE hy,eu]
      rfl
   ·rintro σ H5 ⟨⟨v5,rfl⟩,S5,no2⟩
    have le:es.length=(Be m (sw.map (·.1))).length:=by rw [<- ee,ac]
    rw [ac,le] at no2
    refine .inl ⟨⟨_,_,rfl⟩,(S3.trans S4).trans S5,fun k' hk' y hy=>?_⟩
    rcases dy k' m with q|q
    ·exact no k' q y hy
    ·have:k'=m:=by omega
     subst this
     obtain⟨j,hj⟩:=List.mem_iff_getElem?.mp hy
     exact no2 j y (An hj) hj
  ·rintro σ H3 ⟨⟨v4,v5,rfl⟩,S3,no⟩
   rw [Bc] at no
   have ed2:Gm sw c w=sw.map (·.1):=by
    unfold Gm
    rw [M0 (by rw [ln];exact no)]
    rfl
   refine .inl (k H3 D (S.trans S3) (S1.free fD) ?_)
   rw [ed2]
   exact S3 _ _ eD
theorem Ct {xs:List Int} {j:Nat} (h:j<xs.length):atI (xs.map V.int) (j:Int)=some (.int (xs.getD j 0)):=by
 refine Ar ?_
 rw [ai,au,ah h]
 rfl
theorem bi3 {f:Addr} {fd:aB} (Z:A0 K t) (F:FunD K "_law_key" "_law_key" L6 f fd .none) (T:Tab P w K mg base 0 (Bk K t) bl):FnOk P w K mg base CX0 1 f fd Q8 (Fb K t):=by
 refine F.okW0 bt0 bw1 T (bq5 K t) (fun vs H Q E h=>?_) (fun vs H Q E h=>?_)
 ·obtain⟨r,l,d,xs,m,rfl,_⟩:=h;rfl
 ·obtain⟨r,l,d,xs,m,rfl,hr,dne,d4,hl,mx,m3,k⟩:=h
  have dp:0<d.length:=List.length_pos_iff.mpr dne
  refine⟨⟨by omega,by omega⟩,?_⟩
  rw [aG]
  refine A5 (Bq 0 m) (fun i σ H'=>(∃ (key:Int) (v:Option V),σ=[some (.ref r),some (.ref l),some (.int (m:Int)),some (.int key),v]/\0<=key/\key<4 ^ i)/\H'=H) ⟨⟨0,_,rfl,by omega,by decide⟩,rfl⟩ (fun _ _ _ _ _=>bn) ?_ ?_
  ·rintro i x σ H1 hx ⟨⟨key,v,rfl,k0,k4⟩,rfl⟩
   obtain⟨hi,rfl⟩:=Dh hx
   have q0:=bP (xs.getD i 0) (show ((d.length:Nat):Int)≠0 by omega)
   have q1:=bK (xs.getD i 0) (show (0:Int)<((d.length:Nat):Int) by omega)
   obtain⟨q,hq⟩:∃ q:Nat,xs.getD i 0 % ((d.length:Nat):Int)=(q:Int):=⟨(xs.getD i 0 % ((d.length:Nat):Int)).toNat,by omega⟩
   have ql:q<d.length:=by omega
   refine⟨.inl ⟨by decide,by decide⟩,_,_,.inl (SqL.of hl),Ct (by omega),.inl ⟨_,.inl (SqL.of hr),?_⟩⟩
   rw [ac]
   refine⟨by omega,_,.int ((d[q]'ql:Nat):Int),.inl (SqL.of hr),?_,?_⟩
   ·rw [hq]
    refine Ar ?_
    rw [ai,ah ql]
    rfl
   ·have:=d4 _ (cf ql)
    generalize d[q]'ql=z at this ⊢
    refine⟨⟨_,_,rfl,by omega,?_⟩,rfl⟩
    rw [Int.pow_succ]
    omega
  ·rintro σ H1 ⟨⟨key,v,rfl,k0,k4⟩,rfl⟩
   rw [Bc] at k4
   refine .inl (k key k0 ?_)
   have:m=0\/m=1\/m=2\/m=3:=by omega
   rcases this with rfl|rfl|rfl|rfl
   ·have:(4:Int) ^ 0=1:=by decide
    omega
   ·have:(4:Int) ^ 1=4:=by decide
    omega
   ·have:(4:Int) ^ 2=16:=by decide
    omega
   ·have:(4:Int) ^ 3=64:=by decide
    omega
noncomputable def ls6 (K:ae) (t:Adr):DS:=Ah (dIf (Dy K (Aa 5)) (Ah (Ap 3 (Ae ap4 (Aa 3) (Ae Jp (dC (.int 1)) (Aa 4))))     Ag) Ag) Ag
noncomputable def ls5 (K:ae) (t:Adr):DS:=Ah (dIf (Mw (Az (Ae (Ax K false) (Ae A3 (Ae (Aq K) (Aa 2) (dC (.int 0))) (dC (.int 6))) (dC (.int 5)))) (Az (Ae Z1 (Ae A3 (Ae (Aq K) (Aa 2) (dC (.int 5))) (dC (.int 3))) (dC (.int 0))))) (Ah (Ap 5 (Ae (Ax K false) (Ae A3 (Ae (Aq K) (Aa 2) (dC (.int 5))) (dC (.int 3))) (dC (.int 1))))     Ag) Ag) (ls6 K t)
noncomputable def ls4 (K:ae) (t:Adr):DS:=Ah (dIf (Az (Ae (Ax K false) (Ae A3 (Ae (Aq K) (Aa 2) (dC (.int 0))) (dC (.int 6))) (dC (.int 4)))) (Ah (Ap 5 (Ae (Ax K false) (Ae (Ax K false) (Aa 4) (Ae A3 (Ae (Aq K) (Aa 2) (dC (.int 4))) (dFn (fun vs H Q _=>(Ci K) vs H Q) (Ac (Aa 0) Ai)))) (Ae (Ax K false) (Ae A3 (Ae (Aq K) (Aa 2) (dC (.int 5))) (dC (.int 2))) (dC (.int 1)))))     Ag) Ag) (ls5 K t)
noncomputable def ls3 (K:ae) (t:Adr):DS:=Ah (dIf (Az (Ae (Ax K false) (Ae A3 (Ae (Aq K) (Aa 2) (dC (.int 0))) (dC (.int 6))) (dC (.int 3)))) (Ah (Ap 6 (Ae (Bb K) (Ae (Bb K) (Ae (Cr K) (Ae (Aq K) (Aa 2) (dC (.int 4))) (Ae Tg (dC (.int 2)) (dC (.int 56)))) (Ae (Cr K) (Ae (Aq K) (Aa 2) (dC (.int 5))) (Ae Tg (dC (.int 2)) (dC (.int 28))))) (Ae (Aq K) (Aa 2) (dC (.int 6)))))     (Ah (Ap 5 (Ae (Ax K false) (Ae B0 (Ae Dq (Aa 6) (dFn (spE (Fb K t) []) (Ac (Ae (Aq K) (Aa 0) (Aa 4)) (Ac (dSl K (Aa 2) (Dd (dC (.int 1))) Ce) (Ac (dC (.int 3)) Ai))))) (dC (.int 1))) (dC (.int 1))))     Ag)) Ag) (ls4 K t)
noncomputable def ls2 (K:ae) (t:Adr):DS:=Ah (dIf (Az (Ae (Ax K false) (Ae A3 (Ae (Aq K) (Aa 2) (dC (.int 0))) (dC (.int 6))) (dC (.int 2)))) (Ah (Ap 5 (Ae (Ax K false) (Ae B0 (Ae Dq (Ae (Aq K) (Aa 2) (dC (.int 4))) (dFn (spE (Fb K t) []) (Ac (Ae (Aq K) (Aa 0) (Aa 4)) (Ac (dSl K (Aa 2) (Dd (dC (.int 1))) Ce) (Ac (dC (.int 2)) Ai))))) (dC (.int 1))) (dC (.int 1))))     Ag) Ag) (ls3 K t)
noncomputable def ls1 (K:ae) (t:Adr):DS:=Ah (dIf (Az (Ae (Ax K false) (Ae A3 (Ae (Aq K) (Aa 2) (dC (.int 0))) (dC (.int 6))) (dC (.int 1)))) (Ah (Ap 5 (Ae (Ax K false) (Ae B0 (Ae Dq (Ae (Aq K) (Aa 2) (dC (.int 4))) (dFn (spE (Fb K t) []) (Ac (Ae (Aq K) (Aa 0) (Aa 4)) (Ac (dSl K (Aa 2) (Dd (dC (.int 1))) Ce) (Ac (dC (.int 1)) Ai))))) (dC (.int 1))) (dC (.int 1))))     Ag) Ag) (ls2 K t)
noncomputable abbrev lsσ (r l:Addr) (c:Int) (f m:Nat) (b:Bool) (v:Option V):St:=[some (.ref r),some (.int c),some (.ref l),some (.int (f:Int)),some (.int (m:Int)),some (.bl b),v]
structure LsK (r l:Addr) (ds:List (List Nat×Addr)) (xs:List Int) (H1 H':Hp):Prop where
 S:Same H1 H'
 er:H' r=some (.lst (ds.map fun x=>.ref x.2))
 ed:∀ x∈ds,H' x.2=some (nO x.1)
 el:H' l=some (.lst (xs.map V.int))
theorem LsK.up {r l:Addr} {ds:List (List Nat×Addr)} {xs:List Int} {H1 H2 H3:Hp} (h:LsK r l ds xs H1 H2) (S:Same H2 H3):LsK r l ds xs H1 H3:=⟨h.S.trans S,S _ _ h.er,fun x hx=>S _ _ (h.ed x hx),S _ _ h.el⟩
theorem bk0 (f m:Nat):cD (f:Int) (1 * 2 ^ ((m:Int)).toNat)=((f ||| 2 ^ m:Nat):Int):=by
 rw [fU,aG,C9,Ga]
theorem b38 {f m:Nat} (h:f<2 ^ m):f ||| 2 ^ m<2 ^ (m+1):=Nat.or_lt_two_pow (aM h (cv (by decide) (d9 _))) (Nat.pow_lt_pow_right (by decide) (cZ _))
theorem lw {b1:Bool} {A B X:Prop} (hx:A->B->X) (a:A) (b:B):if b1=true then X else (if false=true then A else B):=by
 cases b1
 ·exact Dv (Dv b)
 ·exact Eb (hx a b)
theorem be4 {b2 b3:Bool} {A B:Prop} (a:A) (b:B):if b2=true then (if (!b3)=true then A else B) else (if (!false)=true then A else B):=by
 cases b2 <;> cases b3 <;> first|exact Dv (Eb a)|exact Eb (Dv b)|exact Eb (Eb a)
theorem Iv {b:Bool} {A B:Prop} (a:A) (b':B):if b=true then A else B:=by
 cases b
 ·exact Dv b'
 ·exact Eb a
section
variable {r l:Addr} {c:Int} {f m:Nat} {ds:List (List Nat×Addr)} {xs:List Int} {H1:Hp} {D:Ol} {e:List Nat×Addr}
theorem U5 {n:Nat} {b:Bool} {v:Option V} {H3:Hp} {Q:VK} {E:EK} (hn:n<=3) (h:LsK r l ds xs H1 H3) (hm:ds[m]? = some e) (dne:e.1≠[]) (d4:∀ j∈e.1,j<4) (lx:xs.length=8) (k:∀ (j:Int) H4,0<=j->LsK r l ds xs H1 H4->Q (.int j) H4) :
  dFn (spE (Fb K t) []) (Ac (Ae (Aq K) (Aa 0) (Aa 4)) (Ac (dSl K (Aa 2) (Dd (dC (.int 1))) Ce) (Ac (dC (.int (n:Int))) Ai))) (lsσ r l c f m b v) H3 Q E:=by
 refine⟨_,_,.inl (SqL.of h.er),Ar (j:=m) (by rw [ai,hm];rfl),.inl ⟨_,SqL.of h.el,fun L hL=>?_⟩⟩
 have SL:=Same.upd (o:=.lst (Ds (xs.map V.int) (some 1) none)) hL
 have eL:upd H3 L (.lst (Ds (xs.map V.int) (some 1) none)) L=some (.lst ((xs.drop 1).map V.int)):=by
  rw [Ad,show (1:Int)=((1:Nat):Int) from rfl,Eu,km]
 generalize upd H3 L (.lst (Ds (xs.map V.int) (some 1) none))=H4 at SL eL ⊢
 exact⟨e.2,L,e.1,xs.drop 1,n,rfl,SL _ _ (h.ed e (af hm)),dne,d4,eL,by rw [cg];omega,hn,fun j j0 _=>k j H4 j0 (h.up SL)⟩
variable (hD:∀ (f':Nat) (b:Bool) (v:Option V) (H3:Hp),f'<2 ^ (m+1)->LsK r l ds xs H1 H3->D.nx (lsσ r l c f' m b v) H3) (hf:f<2 ^ m) (m256:m<256) (lx:xs.length=8) (hm:ds[m]? = some e) (dne:e.1≠[]) (d4:∀ j∈e.1,j<4)
include hD hf m256
theorem ak8 (b:Bool) (v:Option V) (H3:Hp) (h:LsK r l ds xs H1 H3):ls6 K t D (lsσ r l c f m b v) H3:=by
 have h0:=hD f b v H3 (aM hf (cv (by decide) (d9 _))) h
 cases b with
 | true=>
  refine⟨⟨by omega,by omega,by decide⟩,?_⟩
  show D.nx [some (.ref r),some (.int c),some (.ref l),some (.int (cD (f:Int) (1 * 2 ^ ((m:Int)).toNat))),some (.int (m:Int)),some (.bl true),v] H3
  rw [bk0]
  exact hD (f ||| 2 ^ m) true v H3 (b38 hf) h
 | false=>exact h0
include lx
theorem ak7 (b:Bool) (v:Option V) (H3:Hp) (h:LsK r l ds xs H1 H3):ls5 K t D (lsσ r l c f m b v) H3:=by
 refine⟨_,_,.inl (SqL.of h.el),Ct (j:=0) (by omega),by decide,lw (fun a b=>⟨_,_,.inl (SqL.of h.el),Ct (j:=5) (by omega),by decide,Iv a b⟩) ?_ ?_⟩
 ·exact⟨_,_,.inl (SqL.of h.el),Ct (j:=5) (by omega),by decide,ak8 (K:=K) (t:=t) hD hf m256 _ v H3 h⟩
 ·exact ak8 (K:=K) (t:=t) hD hf m256 b v H3 h
include hm
theorem ak6 (b:Bool) (v:Option V) (H3:Hp) (h:LsK r l ds xs H1 H3):ls4 K t D (lsσ r l c f m b v) H3:=by
 have dp:0<ds.length:=aD (bR m) (An hm)
 refine⟨_,_,.inl (SqL.of h.el),Ct (j:=0) (by omega),by decide,Iv ?_ ?_⟩
 ·refine⟨_,_,.inl (SqL.of h.el),Ct (j:=4) (by omega),.inl ⟨_,.inl (SqL.of h.er),?_⟩⟩
  rw [ac]
  exact⟨by omega,_,_,.inl (SqL.of h.el),Ct (j:=5) (by omega),by decide,ak7 (K:=K) (t:=t) hD hf m256 lx _ v H3 h⟩
 ·exact ak7 (K:=K) (t:=t) hD hf m256 lx b v H3 h
include dne d4
theorem ak5 (b:Bool) (v:Option V) (H3:Hp) (h:LsK r l ds xs H1 H3):ls3 K t D (lsσ r l c f m b v) H3:=by
 refine⟨_,_,.inl (SqL.of h.el),Ct (j:=0) (by omega),by decide,Iv ?_ ?_⟩
 ·refine⟨_,_,.inl (SqL.of h.el),Ct (j:=4) (by omega),⟨by decide,by decide,by decide⟩,.inr ⟨by decide,by decide⟩,_,_,.inl (SqL.of h.el),Ct (j:=5) (by omega),⟨by decide,by decide,by decide⟩,.inr ⟨by decide,by decide⟩,_,_,.inl (SqL.of h.el),Ct (j:=6) (by omega),?_⟩
  refine U5 (n:=3) (by decide) h hm dne d4 lx fun j H4 j0 h4=>⟨j0,ak6 (K:=K) (t:=t) hD hf m256 lx hm _ _ H4 h4⟩
 ·exact ak6 (K:=K) (t:=t) hD hf m256 lx hm b v H3 h
theorem ak4 (b:Bool) (v:Option V) (H3:Hp) (h:LsK r l ds xs H1 H3):ls2 K t D (lsσ r l c f m b v) H3:=by
 refine⟨_,_,.inl (SqL.of h.el),Ct (j:=0) (by omega),by decide,Iv ?_ ?_⟩
 ·refine⟨_,_,.inl (SqL.of h.el),Ct (j:=4) (by omega),?_⟩
  exact U5 (n:=2) (by decide) h hm dne d4 lx fun j H4 j0 h4=>⟨j0,ak5 (K:=K) (t:=t) hD hf m256 lx hm dne d4 _ _ H4 h4⟩
 ·exact ak5 (K:=K) (t:=t) hD hf m256 lx hm dne d4 b v H3 h
theorem bg3 (b:Bool) (v:Option V) (H3:Hp) (h:LsK r l ds xs H1 H3):ls1 K t D (lsσ r l c f m b v) H3:=by
 refine⟨_,_,.inl (SqL.of h.el),Ct (j:=0) (by omega),by decide,Iv ?_ ?_⟩
 ·refine⟨_,_,.inl (SqL.of h.el),Ct (j:=4) (by omega),?_⟩
  exact U5 (n:=1) (by decide) h hm dne d4 lx fun j H4 j0 h4=>⟨j0,ak4 (K:=K) (t:=t) hD hf m256 lx hm dne d4 _ _ H4 h4⟩
 ·exact ak4 (K:=K) (t:=t) hD hf m256 lx hm dne d4 b v H3 h
end
theorem aw3 {sw:Sw} (hw:okSw sw) {d:List Nat} (hd:d∈Cf sw):d≠[] /\ ∀ j∈d,j<4:=by
 have hl:=Pb d hd
 have h1:=hw.1
 refine⟨fun e=>by rw [e] at hl;simp at hl;omega,fun j hj=>?_⟩
 obtain⟨p,hp⟩:=List.mem_iff_getElem?.mp hj
 have hs:p<sw.length:=by rw [<- hl];exact An hp
 have hx:sw[p]? = some (sw[p]'hs):=ah _
 obtain⟨j',e,lt⟩:=Ko hd hx
 rw [hp] at e
 rw [aE e]
 have:=(hw.sets _ (af hx)).2.2
 omega
theorem bi4 {f:Addr} {fd:aB} (Z:A0 K t) (F:FunD K "_law_set" "_law_set" L8 f fd .none) (T:Tab P w K mg base 1 (D9 K t) bl):FnOk P w K mg base CX0 2 f fd Q9 (Qj K t):=by
 refine F.okW0 bt1 bw2 T (bq6 K t) (fun vs H Q E h=>?_) (fun vs H Q E h=>?_)
 ·obtain⟨r,c,sw,rfl,_⟩:=h;rfl
 ·obtain⟨r,c,sw,rfl,⟨ds,ed,er,hd⟩,hw,k⟩:=h
  have ln:ds.length=(Af sw).length:=by rw [Eh,ac,<- ed,ac]
  have n256:=hw.len
  have lnV:(ds.map fun x=>V.ref x.2).length=(Af sw).length:=by rw [ac,ln]
  refine⟨by decide,lw (fun a b=>⟨⟨by decide,by decide⟩,.inl ⟨_,.inl (SqL.of er),⟨by omega,be4 a b⟩⟩⟩) ?_ ?_⟩
  ·refine⟨⟨by decide,by decide⟩,.inl ⟨_,.inl (SqL.of er),?_⟩⟩
   rw [lnV]
   have p0:(0:Int)<1 * 2 ^ (((Af sw).length:Int)).toNat:=by
    rw [fU,aG,C9]
    exact Int.natCast_pos.mpr (fB _)
   refine⟨⟨by omega,by omega,by decide⟩,p0,?_⟩
   rw [fU,aG,C9]
   have q0:=bP (c / 2) (show ((2 ^ (Af sw).length:Nat):Int)≠0 by have:=fB (Af sw).length;omega)
   have q1:=bK (c / 2) (show (0:Int)<((2 ^ (Af sw).length:Nat):Int) by have:=fB (Af sw).length;omega)
   have qe:c / 2 % ((2 ^ (Af sw).length:Nat):Int)=(((c / 2 % ((2 ^ (Af sw).length:Nat):Int)).toNat:Nat):Int):=by omega
   show Q (.int (c / 2 % ((2 ^ (Af sw).length:Nat):Int))) H
   rw [qe]
   exact k H _ (Same.refl _) (by omega)
  ·refine⟨⟨by decide,by decide⟩,c / 2,8,rfl,by decide,fun H1 l xs S1 fl el lx nn=>?_⟩
   refine .inl ⟨_,.inl (SqL.of (S1 _ _ er)),?_⟩
   rw [lnV]
   refine⟨⟨by omega,by omega⟩,?_⟩
   rw [aG]
   refine A5 (Bq 0 (Af sw).length) (fun m σ H'=>(∃ (f:Nat) (v4 v5 v6:Option V),σ=[some (.ref r),some (.int c),some (.ref l),some (.int (f:Int)),v4,v5,v6]/\f<2 ^ m)/\LsK r l ds xs H1 H')
    ⟨⟨0,_,_,_,rfl,by decide⟩,Same.refl _,S1 _ _ er,fun x hx=>S1 _ _ (hd x hx),el⟩ (fun _ _ _ _ _=>bn) ?_ ?_
   ·rintro m x σ H2 hx ⟨⟨f,v4,v5,v6,rfl,hf⟩,h2⟩
    obtain⟨hm,rfl⟩:=Dh hx
    obtain⟨e,he⟩:∃ e,ds[m]? = some e:=⟨_,ah (by omega)⟩
    obtain⟨d1,d2⟩:=aw3 hw (show e.1∈Cf sw by rw [<- ed];exact List.mem_map.mpr ⟨e,af he,rfl⟩)
    refine⟨_,_,.inl (SqL.of h2.el),Ct (j:=4) (by omega),.inl ⟨by decide,by decide⟩,.inr ⟨by decide,by decide⟩,by decide,by decide,by decide,?_⟩
    refine bg3 (K:=K) (t:=t) ?_ hf (by omega) lx he d1 d2 _ _ H2 h2
    exact fun f' b v H3 hf' h3=>⟨⟨f',_,_,_,rfl,hf'⟩,h3⟩
   ·rintro σ H2 ⟨⟨f,v4,v5,v6,rfl,hf⟩,h2⟩
    rw [Bc] at hf
    exact .inl (k H2 f (S1.trans h2.S) hf)
theorem b30 {f:Addr} {fd:aB} (Z:A0 K t) (F:FunD K "_law_within" "_law_within" Wd f fd .none) (T:Tab P w K mg base 2 (Y7 K t) bl):FnOk P w K mg base CX0 3 f fd af7 (as1 K t):=by
 refine F.okW0 ca6 cg8 T (b80 K t) (fun vs H Q E h=>?_) (fun vs H Q E h=>?_)
 ·obtain⟨r,c,sw,rfl,_⟩:=h;rfl
 ·obtain⟨r,c,sw,rfl,hr,hw,k⟩:=h
  refine⟨by decide,Iv ?_ ?_⟩
  ·obtain⟨ds,ed,er,hd⟩:=hr
   have ln:(ds.map fun x=>V.ref x.2).length=(Af sw).length:=by rw [ac,Eh,ac,<- ed,ac]
   have n256:=hw.len
   refine .inl ⟨_,.inl (SqL.of er),?_⟩
   rw [ln]
   refine⟨⟨by omega,by omega,by decide⟩,?_⟩
   have p:=fB (Af sw).length
   have e:(1 * 2 ^ (((Af sw).length:Int)).toNat - 1:Int)=((2 ^ (Af sw).length - 1:Nat):Int):=by
    rw [fU,aG,C9]
    omega
   show Q (.int (1 * 2 ^ (((Af sw).length:Int)).toNat - 1)) H
   rw [e]
   exact k H _ (Same.refl _) (by omega)
  ·exact⟨⟨by decide,by decide⟩,r,c / 2,sw,rfl,hr,hw,k⟩
end
section
variable {P:aW} {w:bE} {K:ae} {mg:Str->Option Value} {base:Heap} {t:Adr}
theorem Nk (c m:Nat):(aw (m+1)).filter (fun j=>c.testBit j)=(aw m).filter (fun j=>c.testBit j)++(if c.testBit m=true then [m] else []):=by
 rw [cG,fv,iM]
 rfl
noncomputable def C8 (n b:Nat):List Nat:=(aw n).filter fun a=>b.testBit a
noncomputable def Jl (n b:Nat):Int×List Int:=(((C8 n b).length:Int),(C8 n b).map fun a:Nat=>(a:Int))
noncomputable def Pl (n:Nat):List (Int×List Int):=(aw (2 ^ n)).map (Jl n)
theorem a40 (n:Nat) (h1:1<=n) (h5:n<=5):∃ p:Array Nat,PySem.W.kRun (2 ^ n) (ak9 (Pl n)) (iR (2 ^ n))=some p/\p.toList.length=2 ^ n/\(p.toList.all fun i=>decide (i<2 ^ n))=true/\p.toList.map (C8 n)=Ec n:=by
 have:n=1\/n=2\/n=3\/n=4\/n=5:=by omega
 rcases this with rfl|rfl|rfl|rfl|rfl
 ·exact⟨#[0,1],by kernel_rfl,rfl,by decide,by decide +kernel⟩
 ·exact⟨#[0,1,2,3],by kernel_rfl,rfl,by decide,by decide +kernel⟩
 ·exact⟨#[0,1,2,4,3,5,6,7],by kernel_rfl,rfl,by decide,by decide +kernel⟩
 ·exact⟨#[0,1,2,4,8,3,5,9,6,10,12,7,11,13,14,15],by kernel_rfl,rfl,by decide,by decide +kernel⟩
 ·exact⟨#[0,1,2,4,8,16,3,5,9,17,6,10,18,12,20,24,7,11,19,13,21,25,14,22,26,28,15,23,27,29,30,31],by kernel_rfl,rfl,by decide,by decide +kernel⟩
theorem Ta {E:EK} {H:Hp} {n m:Nat} {R:Hp->Addr->Prop} (hn:n<=5) (k:∀ D H',Same H H'->H D=none->H' D=some (nO (C8 n m))->R H' D) :
  ∀ D,H D=none->E3 (Itr 0 n) (gdN 0) (Az (Ae (Ax K false) (Ae B0 (Ae Dq (Aa 1) (Aa 0)) (dC (.int 1))) (dC (.int 1)))) (Aa 0) D (fun H'=>R H' D) [none,some (.int (m:Int))] (upd H D (.lst [])) E:=by
 intro D hD
 refine Cs (Bq 0 n) (fun i σ H'=>(∃ v,σ=[v,some (.int (m:Int))])/\Same H H'/\H' D=some (nO ((aw i).filter fun a=>m.testBit a))) ⟨⟨_,rfl⟩,Same.upd hD,Ad⟩ (fun _ _ _ _ _=>bn) ?_ ?_
 ·rintro i x σ H1 hx ⟨⟨v,rfl⟩,S1,eD⟩
  obtain⟨hi,rfl⟩:=Dh hx
  refine⟨by omega,?_⟩
  show if decide (aS ((m:Int) / 2 ^ ((i:Int)).toNat) 1=1)=true then _ else _
  rw [Fl]
  cases e:m.testBit i with
  | true=>
   refine Eb ⟨_,eD,?_,⟨_,rfl⟩,S1.set hD,?_⟩
   ·rw [ac]
    have:=cR (fun j=>m.testBit j) (aw i)
    rw [bh] at this
    exact aM (show _<6 by omega) (by decide)
   ·rw [Ad,Nk,if_pos e]
    unfold nO
    rw [aq]
    rfl
  | false=>exact Dv ⟨⟨_,rfl⟩,S1,by rw [Nk,if_neg (by rw [e];exact am),bQ];exact eD⟩
 ·rintro σ H1 ⟨_,S1,eD⟩
  rw [Bc] at eD
  exact k D H1 S1 hD eD
theorem bg7 {f:Addr} {fd:aB} (Z:A0 K t) (F:FunD K "_law_lists" "_law_lists" Lj f fd .none) (T:Tab P w K mg base 0 (Bk K t) bl):FnOk P w K mg base CX0 1 f fd Qr (Wk K t):=by
 refine F.okW0 br4 bu5 T (bo9 K t) (fun vs H Q E h=>?_) (fun vs H Q E h=>?_)
 ·obtain⟨n,rfl,_⟩:=h;rfl
 ·obtain⟨n,rfl,h1,h5,k⟩:=h
  refine⟨(show 0<=sizeLine by decide),fun D hD=>?_⟩
  have S0:=Same.upd (o:=.lst []) hD
  have e0:upd H D (.lst []) D=some (.lst []):=Ad
  generalize upd H D (.lst [])=H0 at S0 e0 ⊢
  have p32:2 ^ n<=32:=cv (j:=5) (show 2 > 0 by decide) h5
  have p2:2<=2 ^ n:=cv (i:=1) (show 2 > 0 by decide) h1
  have en:(1 * 2 ^ ((n:Int)).toNat:Int)=((2 ^ n:Nat):Int):=by rw [fU,aG,C9]
  refine⟨⟨by omega,by omega,by decide⟩,⟨by rw [en];omega,by rw [en];omega⟩,?_⟩
  rw [en,aG]
  refine A5 (Bq 0 (2 ^ n)) (fun m σ H'=>(∃ v2 v3,σ=[some (.int (n:Int)),some (.ref D),v2,v3])/\Same H H' /\ ∃ ds:List ((Int×List Int)×Addr×Addr),ds.map (·.1)=(aw m).map (Jl n)/\H' D=some (.lst (soV ds)) /\ ∀ d∈ds,d.2.1≠D/\d.2.2≠D/\H' d.2.1=some (.tup [.int d.1.1,.ref d.2.2])/\H' d.2.2=some (.lst (d.1.2.map V.int)))
   ⟨⟨_,_,rfl⟩,S0,[],rfl,e0,fun x hx=>by cases hx⟩ (fun _ _ _ _ _=>bn) ?_ ?_
  ·rintro m x σ H1 hx ⟨⟨v2,v3,rfl⟩,S1,ds,ed,eD,hd⟩
   obtain⟨hm,rfl⟩:=Dh hx
   refine⟨⟨by omega,by omega⟩,?_⟩
   rw [aG]
   refine Ta h5 fun L H2 S2 fL eL=>?_
   refine⟨.inl ⟨rfl,_,SqL.of (S2 _ _ eD)⟩,.inl ⟨_,.inl (SqL.of eL),?_⟩⟩
   rw [ac]
   refine⟨(show 2<=sizeLine by decide),fun T hT=>?_⟩
   have ST:=Same.upd (o:=.tup [.int ((C8 n m).length:Int),.ref L]) hT
   have eT:upd H2 T (.tup [.int ((C8 n m).length:Int),.ref L]) T=some (.tup [.int ((C8 n m).length:Int),.ref L]):=Ad
   have nT:T≠D:=(Aj (S2 _ _ eD) hT).symm
   have nL:L≠D:=(Aj eD fL).symm
   generalize upd H2 T (.tup [.int ((C8 n m).length:Int),.ref L])=H3 at ST eT ⊢
   have S3:=S2.trans ST
   refine⟨D,_,_,rfl,rfl,S3 _ _ eD,?_,⟨_,_,rfl⟩,(S1.trans S3).set hD,ds++[(Jl n m,T,L)],?_,?_,fun d hd'=>?_⟩
   ·have:=congrArg bv ed
    rw [ac,ac,bh] at this
    rw [ac]
    exact aD (show ds.length<=32 by omega) (by decide)
   ·rw [aq,ed,cG,aq];rfl
   ·rw [Ad];unfold soV;rw [aq];rfl
   ·rcases List.mem_append.mp hd' with hd'|hd'
    ·obtain⟨a1,a2,a3,a4⟩:=hd d hd'
     exact⟨a1,a2,by rw [Ak a1];exact S3 _ _ a3,by rw [Ak a2];exact S3 _ _ a4⟩
    ·have:d=(Jl n m,T,L):=by simpa using hd'
     subst this
     refine⟨nT,nL,by rw [Ak nT];exact eT,?_⟩
     rw [Ak nL,ST _ _ eL]
     unfold nO Jl
     rw [bd]
     rfl
  ·rintro σ H1 ⟨⟨v2,v3,rfl⟩,S1,ds,ed,eD,hd⟩
   rw [Bc] at ed
   have ed:ds.map (·.1)=Pl n:=ed
   have ln:ds.length=2 ^ n:=by
    have:=congrArg bv ed
    rw [ac] at this
    rw [this]
    unfold Pl
    rw [ac,bh]
   obtain⟨p,r1,r2,r3,r4⟩:=a40 n h1 h5
   refine .inl (.inl (.inl (.inl ⟨ds,p,SqL.of eD,fun d hx=>(hd d hx).2.2,by omega,by omega,by rw [ln,ed];exact r1,by rw [ln];exact r2,by rw [ln];exact r3,fun A hA=>?_⟩)))
   have SA:=Same.upd (o:=.lst (p.toList.map fun i=>(soV ds).getD i .non)) hA
   have eA:upd H1 A (.lst (p.toList.map fun i=>(soV ds).getD i .non)) A=some (.lst (p.toList.map fun i=>(soV ds).getD i .non)):=Ad
   generalize upd H1 A (.lst (p.toList.map fun i=>(soV ds).getD i .non))=H2 at SA eA ⊢
   have S2:=S1.trans SA
   have dAt:∀ i,i<2 ^ n -> ∃ d,ds[i]? = some d/\d.1=Jl n i:=fun i hi=>by
    refine⟨_,ah (by omega),?_⟩
    have:(ds.map (·.1))[i]? = some (Jl n i):=by rw [ed];unfold Pl;rw [ai,dt hi];rfl
    rw [ai,ah (by omega)] at this
    exact aE this
   have pl:∀ i∈p.toList,i<2 ^ n:=fun i hi=>by simpa using List.all_eq_true.mp r3 i hi
   refine .inl ⟨⟨_,SqL.of eA⟩,fun D2 hD2=>?_⟩
   refine Cs (As (p.toList.map fun i=>(soV ds).getD i .non)) (fun m σ H'=>(∃ v,σ=[v])/\Same H2 H' /\ ∃ fs:List (List Nat×Addr),fs.map (·.1)=(p.toList.take m).map (C8 n)/\H' D2=some (.lst (fs.map fun x=>.ref x.2)) /\ ∀ x∈fs,H2 x.2=some (nO x.1))
    ⟨⟨_,rfl⟩,Same.upd hD2,[],rfl,Ad,fun x hx=>by cases hx⟩ (fun m σ H' _ q=>q.2.1.seqL (SqL.of eA)) ?_ ?_
   ·rintro m x σ H3 hx ⟨⟨v,rfl⟩,S3,fs,ef,eD2,hf⟩
    obtain⟨i,hi,rfl⟩:=Ao hx
    obtain⟨d,hd1,hd2⟩:=dAt i (pl i (af hi))
    obtain⟨_,_,a3,a4⟩:=hd d (af hd1)
    have ex:(soV ds).getD i .non=.ref d.2.1:=by
     unfold soV
     rw [au,ai,hd1]
     rfl
    rw [ex]
    refine⟨_,_,.inr (SqT.of ((SA.trans S3) _ _ a3)),Ar (j:=1) rfl,_,eD2,?_,⟨_,rfl⟩,S3.set hD2,fs++[(C8 n i,d.2.2)],?_,?_,fun y hy=>?_⟩
    ·rw [ac]
     have:=congrArg bv ef
     rw [ac,ac,aF] at this
     exact aD (show fs.length<=32 by omega) (by decide)
    ·rw [aq,ef,Bh hi];rfl
    ·rw [Ad,aq];rfl
    ·rcases List.mem_append.mp hy with hy|hy
     ·exact hf y hy
     ·have:y=(C8 n i,d.2.2):=by simpa using hy
      subst this
      rw [SA _ _ a4,hd2]
      unfold nO Jl
      rw [bd]
      rfl
   ·rintro σ H3 ⟨_,S3,fs,ef,eD2,hf⟩
    rw [ac,aL,r4] at ef
    exact k H3 D2 (S2.trans S3) ⟨fs,ef,eD2,fun x hx=>S3 _ _ (hf x hx)⟩
theorem DigAt.up {H H':Hp} {r:Addr} {rows:List (List Nat)} (h:DigAt H r rows) (S:Same H H'):DigAt H' r rows:=by
 obtain⟨ds,a,b,c⟩:=h
 exact⟨ds,a,S _ _ b,fun x hx=>S _ _ (c x hx)⟩
theorem Im {n:Nat} {ps:List Nat} (h:ps∈Ec n):ps.length<=n /\ ∀ p∈ps,p<n:=by
 unfold Ec at h
 rcases List.mem_append.mp h with h|h
 ·obtain⟨h1,h2⟩:=M9 h
  rw [bh] at h1
  exact⟨d8 h1,fun p hp=>List.mem_range.mp (h2 p hp)⟩
 ·have:ps=aw n:=by simpa using h
  subst this
  exact⟨by rw [bh];exact ak _,fun p hp=>List.mem_range.mp hp⟩
theorem b20 {f:Addr} {fd:aB} (Z:A0 K t) (F:FunD K "_law_deciding" "_law_deciding" V4 f fd .none) (T:Tab P w K mg base 1 (D9 K t) bl):FnOk P w K mg base CX0 2 f fd ae7 (ar4 K t):=by
 refine F.okW0 b96 cf8 T (b70 K t) (fun vs H Q E h=>?_) (fun vs H Q E h=>?_)
 ·obtain⟨r,c,w,sw,rfl,_⟩:=h;rfl
 ·obtain⟨r,c,w,sw,rfl,hr,hw,hc,hww,k⟩:=h
  refine⟨sw.length,rfl,hw.1,hw.2.1,fun H1 a S1 ⟨ds,ed,ea,hd⟩=>?_⟩
  obtain⟨_,de⟩:=Us hw c w
  refine .inl ⟨⟨_,SqL.of ea⟩,?_⟩
  refine A5 (As (ds.map fun x=>V.ref x.2)) (fun m σ H'=>(∃ v,σ=[some (.ref r),some (.int (c:Int)),some (.int (w:Int)),some (.int (sw.length:Int)),v])/\Same H1 H' /\ ∀ (j:Nat) y,j<m->(Ec sw.length)[j]? = some y->(Eg (Af sw).length c w (Cg sw y)).isNone=false)
   ⟨⟨_,rfl⟩,Same.refl _,fun j y hj=>absurd hj (cy _)⟩ (fun m σ H' _ q=>q.2.1.seqL (SqL.of ea)) ?_ ?_
  ·rintro m x σ H2 hx ⟨⟨v,rfl⟩,S2,no⟩
   obtain⟨⟨ps,la⟩,hm,rfl⟩:=Ao hx
   have hm2:(Ec sw.length)[m]? = some ps:=by rw [<- ed,ai,hm];rfl
   have sub:=Im (af hm2)
   have S:=S1.trans S2
   have l5:=hw.2.1
   refine⟨r,la,c,w,ps,sw,rfl,hr.up S,hw,hc,hww,S2 _ _ (hd _ (af hm)),by omega,sub.2,fun H3 v S3 hv=>?_⟩
   cases e:Eg (Af sw).length c w (Cg sw ps) with
   | none=>
    rw [e] at hv
    unfold Sy At at hv
    obtain⟨rfl,_⟩:=hv
    have:Ur sw c w=ps:=by
     rw [Pg hm2 (by rw [e];rfl) no] at de
     exact (aE de).symm
    refine k H3 la (S.trans S3) ?_
    rw [this]
    exact (S2.trans S3) _ _ (hd _ (af hm))
   | some o=>
    rw [e] at hv
    obtain⟨i,j⟩:=o
    unfold Sy At at hv
    obtain⟨b,xs,rfl,_⟩:=hv
    refine⟨⟨_,rfl⟩,S2.trans S3,fun j' y hj' hy=>?_⟩
    rcases dy j' m with q|q
    ·exact no j' y q hy
    ·have:j'=m:=by omega
     subst this
     rw [hm2] at hy
     rw [<- aE hy,e]
     rfl
  ·rintro σ H2 ⟨⟨v,rfl⟩,S2,no⟩
   exfalso
   have ln:ds.length=(Ec sw.length).length:=by rw [<- ed,ac]
   rw [ac,ln] at no
   rw [Xk fun j y hy=>no j y (An hy) hy] at de
   cases de
theorem au9 {H:Hp} {T:Addr} {i j:Nat} (hT:H T=none):At K (upd H T (.tup [.int (i:Int),.int (j:Int)])) (.tup [.at_ (.int (i:Int)),.at_ (.int (j:Int))]) (.ref T):=by
 unfold At
 refine⟨T,_,rfl,SqT.of Ad,?_⟩
 unfold AtL
 refine⟨_,_,rfl,by unfold At;exact⟨rfl,rfl⟩,?_⟩
 unfold AtL
 refine⟨_,_,rfl,by unfold At;exact⟨rfl,rfl⟩,?_⟩
 unfold AtL
 rfl
theorem W9 (m n:Nat):decide (aS ((m:Int) / 2 ^ ((n:Int)).toNat) 1=0) = !m.testBit n:=by
 rw [<- Fl,<- decide_not]
 refine decide_eq_decide.mpr ?_
 rw [aG,C9,<- Int.natCast_ediv,show (1:Int)=((1:Nat):Int) from rfl,B3,kr]
 omega
noncomputable def C2 (sw:Sw) (ps:List Nat) (j:Nat):List Key:=ps.map fun p=>.inl ((Cj sw j p:Nat):Int)
theorem ay0 {sw:Sw} {ps:List Nat} {i j:Nat}:C2 sw ps j=C2 sw ps i ↔ Cg sw ps i j=true:=by
 rw [Il,aY]
 unfold C2
 rw [List.map_inj_left]
 refine forall_congr' fun p=>forall_congr' fun _=>?_
 rw [decide_eq_true_iff]
 constructor
 ·intro h
  injection h with h
  omega
 ·intro h
  rw [h]
theorem R3 {E:EK} {H:Hp} {l r:Addr} {m:Nat} {ps:List Nat} {ds:List (List Nat×Addr)} {sw:Sw} {e:List Nat×Addr} {R:Hp->Addr->Prop} (hl:H l=some (nO ps)) (er:H r=some (.lst (ds.map fun x=>.ref x.2))) (ed:ds.map (·.1)=Cf sw) (hd:∀ x∈ds,H x.2=some (nO x.1))
  (hm:ds[m]? = some e) (hp:∀ p∈ps,p<sw.length) (few:ps.length<=5) (k:∀ D H',Same H H'->H D=none->H' D=some (.lst ((C2 sw ps m).map kV))->R H' D) :
  ∀ D,H D=none->E3 (Itl K l) (gdN 0) Bw (Ae (Aq K) (Ae (Aq K) (Aa 2) (Aa 1)) (Aa 0)) D (fun H'=>R H' D) [none,some (.int (m:Int)),some (.ref r)] (upd H D (.lst [])) E:=by
 intro D hD
 have he:(Cf sw)[m]? = some e.1:=by rw [<- ed,ai,hm];rfl
 refine Cs (As (ps.map fun n:Nat=>V.int (n:Int))) (fun i σ H'=>(∃ v,σ=[v,some (.int (m:Int)),some (.ref r)])/\Same H H'/\H' D=some (.lst ((C2 sw (ps.take i) m).map kV))) ⟨⟨_,rfl⟩,Same.upd hD,Ad⟩ (fun i σ H' _ q=>q.2.1.seqL (SqL.of hl)) ?_ ?_
 ·rintro i x σ H1 hx ⟨⟨v,rfl⟩,S1,eD⟩
  obtain⟨p,hi,rfl⟩:=Ao hx
  have hps:=hp p (af hi)
  obtain⟨j,hj,_⟩:=Ko (af he) (ah hps)
  have ej:Cj sw m p=j:=by unfold Cj;rw [he];show (e.1[p]?).getD 0=j;rw [hj];rfl
  refine⟨_,.ref e.2,.inl (SqL.of (S1 _ _ er)),Ar (j:=m) (by rw [ai,hm];rfl),_,.int (j:Int),.inl (SqL.of (S1 _ _ (hd e (af hm)))),Ar (j:=p) (by rw [ai,hj];rfl),_,eD,?_,⟨_,rfl⟩,S1.set hD,?_⟩
  ·rw [ac]
   unfold C2
   rw [ac,aF]
   exact aD (show _<=5 by omega) (by decide)
  ·rw [Ad]
   unfold C2
   rw [Bh hi,aq,ej]
   rfl
 ·rintro σ H1 ⟨_,S1,eD⟩
  rw [ac,aL] at eD
  exact k D H1 S1 hD eD
noncomputable def Yz (n c w:Nat) (f:Nat->Bool) (m:Nat):Option Nat:=(aw m).find? fun j=>w.testBit j && !c.testBit j&&f j
theorem Kr {n c w m:Nat} {f:Nat->Bool}:Yz n c w f (m+1)=(Yz n c w f m).or (if (w.testBit m && !c.testBit m&&f m)=true then some m else none):=by
 unfold Yz
 rw [cG,List.find?_append,bD,List.find?_nil]
 cases (aw m).find? (fun j=>w.testBit j && !c.testBit j&&f j) with
 | some x=>rfl
 | none=>
  cases w.testBit m && !c.testBit m&&f m <;> rfl
noncomputable def Kb (sw:Sw) (c w:Nat) (ps:List Nat) (m:Nat) (kvs:List (List Key×V)):Prop:=kvs.length<=m /\ ∀ ks,Bp kvs ks=(Yz 0 c w (fun j=>decide (C2 sw ps j=ks)) m).map fun j:Nat=>V.int (j:Int)
theorem Qp {sw:Sw} {c w m:Nat} {ps:List Nat} {kvs:List (List Key×V)} (h:Kb sw c w ps m kvs) (q:(w.testBit m && !c.testBit m)=false):Kb sw c w ps (m+1) kvs:=by
 refine⟨ii h.1,fun ks=>?_⟩
 rw [h.2 ks,Kr,q]
 simp
theorem au3 {sw:Sw} {c w m:Nat} {ps:List Nat} {kvs:List (List Key×V)} {v:V} (h:Kb sw c w ps m kvs) (q:Bp kvs (C2 sw ps m)=some v):Kb sw c w ps (m+1) kvs:=by
 refine⟨ii h.1,fun ks=>?_⟩
 rw [h.2 ks,Kr]
 by_cases e:C2 sw ps m=ks
 ·subst e
  rw [h.2] at q
  cases z:Yz 0 c w (fun j=>decide (C2 sw ps j=C2 sw ps m)) m with
  | none=>rw [z] at q;cases q
  | some x=>rfl
 ·rw [decide_eq_false e,c_,if_neg am,Option.or_none]
theorem au2 {sw:Sw} {c w m:Nat} {ps:List Nat} {kvs:List (List Key×V)} (h:Kb sw c w ps m kvs) (q:Bp kvs (C2 sw ps m)=none) (b:(w.testBit m && !c.testBit m)=true):Kb sw c w ps (m+1) (Dg kvs (C2 sw ps m) (.int (m:Int))):=by
 refine⟨?_,fun ks=>?_⟩
 ·rw [Hs _ q,aJ]
  have:=h.1
  show kvs.length+1<=_
  omega
 ·rw [as9,Kr,b,cC]
  by_cases e:C2 sw ps m=ks
  ·subst e
   rw [if_pos rfl,decide_eq_true rfl,if_pos rfl]
   rw [h.2] at q
   rw [Option.map_eq_none_iff.mp q]
   rfl
  ·rw [if_neg (fun z=>e z.symm),decide_eq_false e,if_neg am,Option.or_none,h.2]
theorem bh7 {f:Addr} {fd:aB} (Z:A0 K t) (F:FunD K "_law_pair" "_law_pair" Lu f fd .none) (T:Tab P w K mg base 0 (Bk K t) bl):FnOk P w K mg base CX0 1 f fd Q3 (Ws K t):=by
 refine F.okW0 bs4 bv5 T (bp9 K t) (fun vs H Q E h=>?_) (fun vs H Q E h=>?_)
 ·obtain⟨r,l,c,w,ps,sw,rfl,_⟩:=h;rfl
 ·obtain⟨r,l,c,w,ps,sw,rfl,⟨ds,ed,er,hd⟩,hw,hc,hww,hl,few,hp,k⟩:=h
  have ln:ds.length=(Af sw).length:=by rw [Eh,ac,<- ed,ac]
  have n256:=hw.len
  have lnV:(ds.map fun x=>V.ref x.2).length=(Af sw).length:=by rw [ac,ln]
  refine fun q hq=>.inr ?_
  have Sq:=Same.upd (o:=.dT []) hq
  have eq0:upd H q (.dT []) q=some (.dT []):=Ad
  show Ah _ _ _ [some (.ref r),some (.int (c:Int)),some (.int (w:Int)),some (.ref l),some (.ref q),none,none] _
  generalize upd H q (.dT [])=H0 at Sq eq0 ⊢
  refine .inl ⟨_,.inl (SqL.of (Sq _ _ er)),?_⟩
  rw [lnV]
  refine⟨⟨by omega,by omega⟩,?_⟩
  rw [aG]
  refine A5 (Bq 0 (Af sw).length) (fun m σ H'=>(∃ v5 v6,σ=[some (.ref r),some (.int (c:Int)),some (.int (w:Int)),some (.ref l),some (.ref q),v5,v6])/\Same H H' /\ ∃ kvs,H' q=some (.dT kvs)/\Kb sw c w ps m kvs)
   ⟨⟨_,_,rfl⟩,Sq,[],eq0,ak _,fun ks=>rfl⟩ (fun _ _ _ _ _=>bn) ?_ ?_
  ·rintro m x σ H1 hx ⟨⟨v5,v6,rfl⟩,S1,kvs,e1,o1⟩
   obtain⟨hm,rfl⟩:=Dh hx
   obtain⟨e,he⟩:∃ e,ds[m]? = some e:=⟨_,ah (by omega)⟩
   refine⟨by omega,?_⟩
   show if decide (aS ((w:Int) / 2 ^ ((m:Int)).toNat) 1=1)=true then _ else _
   rw [Fl]
   cases ew:w.testBit m with
   | false=>exact Dv (Dv ⟨⟨_,_,rfl⟩,S1,kvs,e1,Qp o1 (by rw [ew];rfl)⟩)
   | true=>
    refine Eb ⟨by omega,?_⟩
    show if decide (aS ((c:Int) / 2 ^ ((m:Int)).toNat) 1=0)=true then _ else _
    rw [W9]
    cases ec:c.testBit m with
    | true=>exact Dv ⟨⟨_,_,rfl⟩,S1,kvs,e1,Qp o1 (by rw [ec,Bool.not_true,c_])⟩
    | false=>
     refine Eb ⟨.inr (.inr (.inl ⟨rfl,.inr ⟨_,e1⟩⟩)),.inl ⟨⟨_,SqL.of (S1 _ _ hl)⟩,?_⟩⟩
     refine R3 (S1 _ _ hl) (S1 _ _ er) ed (fun x hx=>S1 _ _ (hd x hx)) he hp few fun D H2 S2 fD eD=>⟨_,.inl ⟨SqL.of eD,fun T hT=>?_⟩⟩
     have ST:=Same.upd (o:=.tup ((C2 sw ps m).map kV)) hT
     have eT:upd H2 T (.tup ((C2 sw ps m).map kV)) T=some (.tup ((C2 sw ps m).map kV)):=Ad
     generalize upd H2 T (.tup ((C2 sw ps m).map kV))=H3 at ST eT ⊢
     have S3:=S2.trans ST
     refine .inl ⟨q,T,kvs,C2 sw ps m,.int (m:Int),rfl,rfl,S3 _ _ e1,eT,aD (ax o1.1 (d8 hm)) (aD n256 (by decide)),?_⟩
     cases ev:Bp kvs (C2 sw ps m) with
     | some v=>exact⟨⟨_,_,rfl⟩,S1.trans S3,kvs,S3 _ _ e1,au3 o1 ev⟩
     | none=>exact⟨⟨_,_,rfl⟩,(S1.trans S3).set hq,_,Ad,au2 o1 ev (by rw [ew,ec];rfl)⟩
  ·rintro σ H1 ⟨⟨v5,v6,rfl⟩,S1,kvs,e1,o1⟩
   rw [Bc] at o1
   have due:∀ i,Bp kvs (C2 sw ps i)=((aw (Af sw).length).find? fun j=>w.testBit j && !c.testBit j&&Cg sw ps i j).map fun j:Nat=>V.int (j:Int):=fun i=>by
    rw [o1.2]
    unfold Yz
    refine congrArg (Option.map fun j:Nat=>V.int (j:Int)) (Uo fun j _=>?_)
    show (w.testBit j && !c.testBit j&&decide (C2 sw ps j=C2 sw ps i))=_
    rw [show decide (C2 sw ps j=C2 sw ps i)=Cg sw ps i j by rw [bH,decide_eq_true_iff];exact ay0]
   refine .inl (.inl ⟨_,.inl (SqL.of (S1 _ _ er)),?_⟩)
   rw [lnV]
   refine⟨⟨by omega,by omega⟩,?_⟩
   rw [aG]
   unfold Eg at k
   refine A5 (Bq 0 (Af sw).length) (fun m σ H'=>(∃ v5 v6,σ=[some (.ref r),some (.int (c:Int)),some (.int (w:Int)),some (.ref l),some (.ref q),v5,v6])/\Same H1 H' /\ ∀ (j:Nat) y,j<m->(aw (Af sw).length)[j]? = some y->(if (c.testBit y&&w.testBit y)=true then ((aw (Af sw).length).find? fun j=>w.testBit j && !c.testBit j&&Cg sw ps y j).map fun j=>(y,j) else none)=none)
    ⟨⟨_,_,rfl⟩,Same.refl _,fun j y hj=>absurd hj (cy _)⟩ (fun _ _ _ _ _=>bn) ?_ ?_
   ·rintro m x σ H2 hx ⟨⟨v5,v6,rfl⟩,S2,no⟩
    obtain⟨hm,rfl⟩:=Dh hx
    obtain⟨e,he⟩:∃ e,ds[m]? = some e:=⟨_,ah (by omega)⟩
    have S12:=S1.trans S2
    have rm:(aw (Af sw).length)[m]? = some m:=dt hm
    have stay:∀ H3,Same H2 H3->(if (c.testBit m&&w.testBit m)=true then ((aw (Af sw).length).find? fun j=>w.testBit j && !c.testBit j&&Cg sw ps m j).map fun j=>(m,j) else none)=none->Same H1 H3 /\ ∀ (j:Nat) y,j<m+1->(aw (Af sw).length)[j]? = some y->(if (c.testBit y&&w.testBit y)=true then ((aw (Af sw).length).find? fun j=>w.testBit j && !c.testBit j&&Cg sw ps y j).map fun j=>(y,j) else none)=none:=fun H3 S3 h0=>⟨S2.trans S3,fun j y hj hy=>by
     rcases dy j m with z|z
     ·exact no j y z hy
     ·have:j=m:=by omega
      subst this
      rw [rm] at hy
      rw [<- aE hy]
      exact h0⟩
    refine .inl ⟨⟨_,SqL.of (S12 _ _ hl)⟩,?_⟩
    refine R3 (S12 _ _ hl) (S12 _ _ er) ed (fun x hx=>S12 _ _ (hd x hx)) he hp few fun D H3 S3 fD eD=>⟨_,.inl ⟨SqL.of eD,fun T hT=>?_⟩⟩
    have ST:=Same.upd (o:=.tup ((C2 sw ps m).map kV)) hT
    have eT:upd H3 T (.tup ((C2 sw ps m).map kV)) T=some (.tup ((C2 sw ps m).map kV)):=Ad
    show Ah _ _ _ [some (.ref r),some (.int (c:Int)),some (.int (w:Int)),some (.ref l),some (.ref q),some (.int (m:Int)),some (.ref T)] _
    generalize upd H3 T (.tup ((C2 sw ps m).map kV))=H4 at ST eT ⊢
    have S4:=S3.trans ST
    have e4:=(S2.trans S4) _ _ e1
    refine⟨by omega,?_⟩
    show if decide (aS ((w:Int) / 2 ^ ((m:Int)).toNat) 1=1)=true then _ else _
    rw [Fl]
    cases ew:w.testBit m with
    | false=>exact Dv (Dv ⟨⟨_,_,rfl⟩,stay H4 S4 (by rw [ew,c_];rfl)⟩)
    | true=>
     refine Eb ⟨by omega,?_⟩
     show if decide (aS ((c:Int) / 2 ^ ((m:Int)).toNat) 1=1)=true then _ else _
     rw [Fl]
     cases ec:c.testBit m with
     | false=>exact Dv (Dv ⟨⟨_,_,rfl⟩,stay H4 S4 (by rw [ec];rfl)⟩)
     | true=>
      refine Eb (.inr ⟨_,DGet.t e4 eT,?_⟩)
      rw [due m]
      cases ef:(aw (Af sw).length).find? fun j=>w.testBit j && !c.testBit j&&Cg sw ps m j with
      | none=>exact⟨⟨_,_,rfl⟩,stay H4 S4 (by rw [ef];simp)⟩
      | some j=>
       have g:DGet H4 q (.ref T) (some (.int (j:Int))):=by
        have:=DGet.t e4 eT
        rw [due m,ef] at this
        exact this
       rw [Fs (b:=(m,j)) rm no (by rw [ef,ew,ec];rfl)] at k
       refine⟨_,g,(show 2<=sizeLine by decide),fun T2 hT2=>k _ _ ((S12.trans S4).trans (Same.upd hT2)) ?_⟩
       unfold Sy
       exact au9 hT2
   ·rintro σ H2 ⟨⟨v5,v6,rfl⟩,S2,no⟩
    rw [Bc] at no
    have e:(aw (Af sw).length).findSome? (fun i=>if (c.testBit i&&w.testBit i)=true then ((aw (Af sw).length).find? fun j=>w.testBit j && !c.testBit j&&Cg sw ps i j).map fun j=>(i,j) else none)=none:=by
     rw [g6]
     intro y hy
     obtain⟨j,hj⟩:=List.mem_iff_getElem?.mp hy
     exact no j y (by have:=An hj;rwa [bh] at this) hj
    rw [e] at k
    refine .inl (k H2 .non (S1.trans S2) ?_)
    unfold Sy At
    exact⟨rfl,rfl⟩
end
end K15
set_option maxHeartbeats 400000
namespace K15
open PySem L2 Pn
noncomputable abbrev Gs:=List (List Str×List Sw)
theorem Kf:∀ {gs:Gs} {i:Nat} {g:List Str×List Sw} {z:Str} {bs:List Sw},gs[i]? = some g->g.2=bs->(∀ (j:Nat) h,j<i->gs[j]? = some h->h.2≠bs)->Et gs z bs=gs.set i (g.1++[z],g.2)
 | [],_,_,_,_,h,_,_=>by simp at h
 | a::gs,0,g,z,bs,h,e,_=>by
  have:a=g:=by simpa using h
  subst this
  unfold Et
  rw [if_pos e]
  rfl
 | a::gs,i+1,g,z,bs,h,e,no=>by
  unfold Et
  rw [if_neg (no 0 a (by omega) rfl),Kf (by simpa using h) e fun j b hj hb=>no (j+1) b (by omega) (by simpa using hb)]
  rfl
theorem Ia:∀ {gs:Gs} {z:Str} {bs:List Sw},(∀ g∈gs,g.2≠bs)->Et gs z bs=gs++[([z],bs)]
 | [],_,_,_=>rfl
 | a::gs,z,bs,no=>by
  unfold Et
  rw [if_neg (no a az),Ia fun g h=>no g (ar _ h)]
  rfl
theorem Kg:∀ {gs:Gs} {z:Str} {bs:List Sw} {g:List Str×List Sw},g∈Et gs z bs->g∈gs\/g=([z],bs) \/ ∃ h∈gs,g=(h.1++[z],h.2)
 | [],z,bs,g,h=>.inr (.inl (by simpa [Et] using h))
 | a::gs,z,bs,g,h=>by
  unfold Et at h
  by_cases e:a.2=bs
  ·rw [if_pos e] at h
   rcases List.mem_cons.mp h with rfl|h
   ·exact .inr (.inr ⟨a,az,rfl⟩)
   ·exact .inl (ar _ h)
  ·rw [if_neg e] at h
   rcases List.mem_cons.mp h with rfl|h
   ·exact .inl az
   ·rcases Kg h with h|h|⟨b,hb,h⟩
    ·exact .inl (ar _ h)
    ·exact .inr (.inl h)
    ·exact .inr (.inr ⟨b,ar _ hb,h⟩)
theorem Kh:∀ {gs:Gs} {z:Str} {bs:List Sw},(Et gs z bs).map (·.2)=if bs∈gs.map (·.2) then gs.map (·.2) else gs.map (·.2)++[bs]
 | [],z,bs=>by rw [if_neg (by simp)];rfl
 | a::gs,z,bs=>by
  unfold Et
  by_cases e:a.2=bs
  ·rw [if_pos e,if_pos (by rw [aQ,e];exact az)]
   rfl
  ·rw [if_neg e,aQ,Kh]
   by_cases q:bs∈gs.map (·.2)
   ·rw [if_pos q,if_pos (by rw [aQ];exact ar _ q)]
    rfl
   ·rw [if_neg q,if_neg (by rw [aQ,aX];exact fun h=>h.elim (fun h=>e h.symm) q)]
    rfl
structure GI (f:Nat->List Sw) (zs:List Str) (gs:Gs):Prop where
 len:gs.length<=zs.length
 nd:(gs.map (·.2)).Nodup
 one:∀ g∈gs,g.1.length<=zs.length/\(∀ y∈g.1,y∈zs) /\ ∃ k,g.2=f k
theorem GI.step {rows:List (List Str)} {p m:Nat} {f:Nat->List Sw} {zs:List Str} {gs:Gs} (h:GI f zs gs) (z:Str):GI f (zs++[z]) (En rows p f m gs z):=by
 unfold En
 have l1:(zs++[z]).length=zs.length+1:=by rw [aJ];rfl
 by_cases e:m &&& Au rows p z=0
 ·rw [if_pos e]
  exact⟨by have:=h.len;omega,h.nd,fun g hg=>⟨by have:=(h.one g hg).1;omega,fun y hy=>c8 _ ((h.one g hg).2.1 y hy),(h.one g hg).2.2⟩⟩
 ·rw [if_neg e]
  refine⟨?_,?_,fun g hg=>?_⟩
  ·have:=congrArg bv (Kh (gs:=gs) (z:=z) (bs:=f (m &&& Au rows p z)))
   rw [ac] at this
   rw [this]
   have:=h.len
   split <;> simp <;> omega
  ·rw [Kh]
   by_cases q:f (m &&& Au rows p z)∈gs.map (·.2)
   ·rw [if_pos q];exact h.nd
   ·rw [if_neg q]
    refine List.nodup_append.mpr ⟨h.nd,by simp,fun a ha b hb=>?_⟩
    have:b=f (m &&& Au rows p z):=by simpa using hb
    subst this
    exact fun e=>q (e▸ha)
  ·rcases Kg hg with hg|rfl|⟨a,ha,rfl⟩
   ·exact⟨by have:=(h.one g hg).1;omega,fun y hy=>c8 _ ((h.one g hg).2.1 y hy),(h.one g hg).2.2⟩
   ·exact⟨by rw [l1];show 1<=_;omega,fun y hy=>ba _ hy,_,rfl⟩
   ·refine⟨?_,fun y hy=>?_,(h.one a ha).2.2⟩
    ·have:=(h.one a ha).1
     rw [aJ]
     show a.1.length+1<=_
     omega
    ·rcases List.mem_append.mp hy with hy|hy
     ·exact c8 _ ((h.one a ha).2.1 y hy)
     ·exact ba _ hy
theorem GI.fold {rows:List (List Str)} {p m:Nat} {f:Nat->List Sw}:∀ {zs pre:List Str} {gs:Gs},GI f pre gs->GI f (pre++zs) (zs.foldl (En rows p f m) gs)
 | [],pre,gs,h=>by rw [bQ];exact h
 | z::zs,pre,gs,h=>by
  have:=GI.fold (rows:=rows) (p:=p) (m:=m) (zs:=zs) (h.step (rows:=rows) (p:=p) (m:=m) z)
  rwa [ie] at this
theorem Xn (rows:List (List Str)) (p m:Nat) (f:Nat->List Sw) (zs:List Str):GI f zs (grF rows p f m zs):=by
 have:=GI.fold (rows:=rows) (p:=p) (m:=m) (zs:=zs) (pre:=[]) (f:=f) (gs:=[]) ⟨ak _,hX,fun g hg=>by cases hg⟩
 exact this
noncomputable def tal (h:List Sw->Nat) (z:Str) (gs:Gs):Nat:=(gs.map fun g=>if z∈g.1 then h g.2 else 0).sum
theorem Yg {h:List Sw->Nat} {z z':Str} {bs:List Sw}:∀ {gs:Gs},(∀ g∈gs,¬ z'∈g.1)->tal h z (Et gs z' bs)=tal h z gs+if z=z' then h bs else 0
 | [],_=>by
  show (if z∈[z'] then h bs else 0)+0=0+_
  by_cases e:z=z'
  ·subst e;rw [if_pos az,if_pos rfl,cB];rfl
  ·rw [if_neg (by simpa using e),if_neg e]
 | a::gs,no=>by
  unfold Et
  by_cases e:a.2=bs
  ·rw [if_pos e]
   show (if z∈a.1++[z'] then h a.2 else 0)+tal h z gs=(if z∈a.1 then h a.2 else 0)+tal h z gs+_
   by_cases q:z=z'
   ·subst q
    rw [if_pos (ba _ az),if_neg (no a az),if_pos rfl,e]
    omega
   ·rw [if_neg q]
    by_cases r:z∈a.1
    ·rw [if_pos r,if_pos (c8 _ r)];rfl
    ·rw [if_neg r,if_neg (by rw [aO];exact fun x=>x.elim r (by simpa using q))];rfl
  ·rw [if_neg e]
   show _+tal h z (Et gs z' bs)=_+tal h z gs+_
   rw [Yg fun g hg=>no g (ar _ hg),Nat.add_assoc]
theorem Tu {rows:List (List Str)} {p m:Nat} {f:Nat->List Sw} {h:List Sw->Nat} {z:Str}:∀ {zs:List Str} {gs:Gs},zs.Nodup->(∀ y∈zs,∀ g∈gs,¬ y∈g.1) ->
  tal h z (zs.foldl (En rows p f m) gs)=tal h z gs+if z∈zs/\m &&& Au rows p z≠0 then h (f (m &&& Au rows p z)) else 0
 | [],gs,_,_=>by rw [if_neg (by simp)];rfl
 | y::zs,gs,nd,no=>by
  have nd2:=List.nodup_cons.mp nd
  have st:tal h z (En rows p f m gs y)=tal h z gs+if z=y/\m &&& Au rows p z≠0 then h (f (m &&& Au rows p z)) else 0:=by
   unfold En
   by_cases e:m &&& Au rows p y=0
   ·rw [if_pos e,if_neg (fun q=>q.2 (by rw [q.1];exact e))];rfl
   ·rw [if_neg e,Yg fun g hg=>no y az g hg]
    by_cases q:z=y
    ·subst q;rw [if_pos rfl,if_pos ⟨rfl,e⟩]
    ·rw [if_neg q,if_neg fun r=>q r.1]
  have fr:∀ x∈zs,∀ g∈En rows p f m gs y,¬ x∈g.1:=fun x hx g hg=>by
   have ne:x≠y:=fun e=>nd2.1 (e▸hx)
   have old:=fun g hg=>no x (ar _ hx) g hg
   unfold En at hg
   by_cases e:m &&& Au rows p y=0
   ·rw [if_pos e] at hg;exact old g hg
   ·rw [if_neg e] at hg
    rcases Kg hg with hg|rfl|⟨a,ha,rfl⟩
    ·exact old g hg
    ·simpa using ne
    ·rw [aO]
     exact fun q=>q.elim (old a ha) (by simpa using ne)
  rw [bg,Tu nd2.2 fr,st]
  have n1:=nd2.1
  split <;> split <;> split <;> first|omega|(exfalso;rename_i a b c;clear st fr no;first|(obtain⟨rfl,a2⟩:=a;first|exact n1 b.1|exact c ⟨az,a2⟩)|exact c ⟨ar _ b.1,b.2⟩|exact (List.mem_cons.mp c.1).elim (fun q=>a ⟨q,c.2⟩) fun q=>b ⟨q,c.2⟩)
theorem aj3 {rows:List (List Str)} {p m:Nat} {f:Nat->List Sw} {h:List Sw->Nat} {z:Str} {zs:List Str} (nd:zs.Nodup) (hz:z∈zs) (hm:m &&& Au rows p z≠0):tal h z (grF rows p f m zs)=h (f (m &&& Au rows p z)):=by
 have:=Tu (rows:=rows) (p:=p) (m:=m) (f:=f) (h:=h) (z:=z) (gs:=[]) nd (fun _ _ g hg=>by cases hg)
 rw [if_pos ⟨hz,hm⟩] at this
 rw [show tal h z []=0 from rfl,cB] at this
 exact this
theorem Qd {sw:Sw} (hw:okSw sw) {i:Nat} {e:Str×List Str} (h:sw[i]? = some e):aq4 sw e.1=e.2:=by
 unfold aq4
 rw [C7 h hw.2.2.1,h]
 rfl
theorem Xw {b:Sw} {n:Nat} {p:Str×List Str->Prop} (hb:b∈([[]]:List Sw)):b.length<=n /\ ∀ e∈b,p e:=by
 rw [List.mem_singleton.mp hb]
 exact⟨bR _,fun e he=>by cases he⟩
theorem Xd {sw:Sw} (hw:okSw sw) {c:Nat}:∀ {ws:List Str} (m:Nat),(∀ x∈ws,x∈sw.map (·.1))->(bxF sw c ws m).length<=4 ^ ws.length /\ ∀ b∈bxF sw c ws m,b.length<=ws.length /\ ∀ e∈b,e.1∈sw.map (·.1)/\okE e
 | [],m,_=>by
  unfold bxF
  split
  ·exact⟨bR _,fun b hb=>by cases hb⟩
  ·exact⟨ak _,fun b hb=>Xw hb⟩
 | x::ws,m,hin=>by
  unfold bxF
  split
  ·exact⟨bR _,fun b hb=>by cases hb⟩
  split
  ·exact⟨Nat.one_le_pow _ _ (by decide),fun b hb=>Xw hb⟩
  have hx:=hin x az
  obtain⟨i,e,hi,ex⟩:=Hm hx
  subst ex
  rw [Qd hw hi,C7 hi hw.2.2.1]
  have he:=hw.2.2.2.1 e (af hi)
  have ih:=fun m=>Xd hw (c:=c) (ws:=ws) m fun y hy=>hin y (ar _ hy)
  have G:=Xn (Af sw) i m (bxF sw c ws) e.2
  generalize grF (Af sw) i (bxF sw c ws) m e.2=gs at G
  have l4:gs.length<=4:=ax G.len he.2.2.2
  have g4:∀ g∈gs,g.2.length<=4 ^ ws.length:=fun g hg=>by obtain⟨k,ek⟩:=(G.one g hg).2.2;rw [ek];exact (ih k).1
  have sm:∀ f:List Str×List Sw->List Sw,(∀ g∈gs,(f g).length=g.2.length)->(gs.flatMap f).length<=4 ^ (e.1::ws).length:=fun f hf=>by
   rw [jW,aI,Nat.pow_succ,Nat.mul_comm]
   exact ax (Ww fun g hg=>by rw [hf g hg];exact g4 g hg) (gx _ l4)
  have old:∀ g∈gs,∀ b∈g.2,b.length<=ws.length /\ ∀ e∈b,e.1∈sw.map (·.1)/\okE e:=fun g hg b hb=>by obtain⟨k,ek⟩:=(G.one g hg).2.2;rw [ek] at hb;exact (ih k).2 b hb
  unfold Fu
  split
  ·refine⟨sm _ fun _ _=>rfl,fun b hb=>?_⟩
   obtain⟨g,hg,hb⟩:=List.mem_flatMap.mp hb
   exact⟨ii (old g hg b hb).1,(old g hg b hb).2⟩
  ·refine⟨sm _ fun _ _=>ac _,fun b hb=>?_⟩
   obtain⟨g,hg,hb⟩:=List.mem_flatMap.mp hb
   obtain⟨b',hb',rfl⟩:=List.mem_map.mp hb
   refine⟨eV (old g hg b' hb').1,fun u hu=>?_⟩
   rcases List.mem_cons.mp hu with rfl|hu
   ·exact⟨hx,he.1.2.1,ax (G.one g hg).1 he.2.2.2,fun z hz=>(he.2.1.1 z ((G.one g hg).2.1 z hz)).2.1⟩
   ·exact (old g hg b' hb').2 u hu
theorem az1 (m c k:Nat):Cz m c &&& k=Cz (m &&& k) c:=by
 refine gw fun i=>?_
 rw [bo,Ef,Ef,bo]
 cases m.testBit i <;> cases k.testBit i <;> cases c.testBit i <;> rfl
theorem Mo {sw:Sw} (hw:okSw sw) {p:Nat} {x:Str×List Str} (hp:sw[p]? = some x) {c m:Nat} {ws:List Str} (h:Cw (Af sw).length (c &&& m) (Cz m c) (Ca sw (x.1::ws))=false) {z:Str} (hz:z∈x.2) :
  Cw (Af sw).length (c &&& (m &&& Au (Af sw) p z)) (Cz (m &&& Au (Af sw) p z) c) (Ca sw ws)=false:=by
 rw [Mm hw hp,cn] at h
 have:=h z hz
 rw [az1,Nat.and_assoc] at this
 exact Bool.eq_false_iff.mpr this
theorem Mn {sw:Sw} {n c m:Nat} (hm:m<2 ^ n) (h:Cw n (c &&& m) (Cz m c) (Ca sw [])=false) (h0:m &&& c≠0):Cz m c=0:=by
 refine cN fun e=>?_
 rw [Yi (au7 hm) (Py hm) (by rw [Nat.and_comm];exact h0) e] at h
 cases h
theorem Yv {sw:Sw} {i p:Nat} {x z:Str} (hp:Cn sw x=p) (hc:Cd sw i p=some z) (gs:Gs):(gs.flatMap fun g=>g.2.map ((x,g.1) :: ·)).countP (Cq sw i)=tal (fun bs=>bs.countP (Cq sw i)) z gs:=by
 rw [List.countP_flatMap]
 unfold tal
 refine congrArg List.sum (b_ fun g _=>?_)
 show (g.2.map ((x,g.1) :: ·)).countP (Cq sw i)=_
 rw [List.countP_map]
 have e:(Cq sw i∘((x,g.1) :: ·))=fun b=>decide (z∈g.1)&&Cq sw i b:=by
  funext b
  show (decide _&&_)=_
  rw [hp,hc]
  rfl
 rw [e]
 by_cases q:z∈g.1
 ·rw [if_pos q,decide_eq_true q];rfl
 ·rw [if_neg q,decide_eq_false q];exact List.countP_eq_zero.mpr fun _ _=>am
theorem Rp {sw:Sw} (hw:okSw sw) {c i:Nat}:∀ {ws:List Str} {m:Nat},(∀ x∈ws,x∈sw.map (·.1))->m<2 ^ (Af sw).length->Cw (Af sw).length (c &&& m) (Cz m c) (Ca sw ws)=false->m.testBit i=true->(bxF sw c ws m).countP (Cq sw i)=if c.testBit i=true then 1 else 0
 | ws,m,hin,hm,hu,hi=>by
  have no:m &&& c=0->(if c.testBit i=true then 1 else 0)=0:=fun e=>by
   have:=congrArg (fun n=>n.testBit i) e
   rw [bo,hi,cC,b5] at this
   rw [this];rfl
  have yes:Cz m c=0->(if c.testBit i=true then 1 else 0)=1:=fun e=>by
   have:=congrArg (fun n=>n.testBit i) e
   rw [Ef,hi,cC,b5,Bool.not_eq_false'] at this
   rw [this];rfl
  cases ws with
  | nil=>
   unfold bxF
   split
   ·rename_i e;rw [no e];rfl
   ·rename_i e;rw [yes (Mn hm hu e)];rfl
  | cons x ws=>
   unfold bxF
   split
   ·rename_i e;rw [no e];rfl
   split
   ·rename_i e;rw [yes e];rfl
   obtain⟨p,e,hp,ex⟩:=Hm (hin x az)
   subst ex
   have pl:=C7 hp hw.2.2.1
   rw [Qd hw hp,pl]
   have hiN:=ag3 hm hi
   obtain⟨l1,c1⟩:=Fm hiN hp
   have hz:e.2.getD (Cj sw i p) a_∈e.2:=by
    rw [au,ah l1]
    exact cf l1
   generalize e.2.getD (Cj sw i p) a_=z at hz c1
   have hb:(m &&& Au (Af sw) p z).testBit i=true:=by
    rw [bo,hi,Df,show Ju (Af sw) p z i=true from decide_eq_true c1];rfl
   have hne:m &&& Au (Af sw) p z≠0:=fun q=>by rw [q,b5] at hb;cases hb
   have nd:=(hw.sets e (af hp)).1.2.1
   have ih:=Rp hw (c:=c) (i:=i) (ws:=ws) (m:=m &&& Au (Af sw) p z) (fun y hy=>hin y (ar _ hy)) (Eo hm) (Mo hw hp hu hz) hb
   have t1:=aj3 (rows:=Af sw) (p:=p) (f:=bxF sw c ws) (h:=fun bs=>bs.countP (Cq sw i)) nd hz hne
   have t2:=aj3 (rows:=Af sw) (p:=p) (f:=bxF sw c ws) (h:=fun _=>1) nd hz hne
   rw [ih] at t1
   generalize grF (Af sw) p (bxF sw c ws) m e.2=gs at t1 t2
   unfold Fu
   split
   ·rename_i l
    obtain⟨g,rfl⟩:=List.length_eq_one_iff.mp l
    have t1:(if z∈g.1 then g.2.countP (Cq sw i) else 0)+0=_:=t1
    have t2:(if z∈g.1 then 1 else 0)+0=1:=t2
    by_cases q:z∈g.1
    ·rw [if_pos q] at t1
     rw [dm,gn,bQ]
     exact t1
    ·rw [if_neg q] at t2;cases t2
   ·rw [Yv pl c1]
    exact t1
theorem Pa {sw:Sw} (hw:okSw sw) (c w:Nat):Cw (Af sw).length (c &&& w) (Cz w c) (Ca sw (Gm sw c w))=false/\(Gm sw c w).length<=sw.length /\ ∀ x∈Gm sw c w,x∈sw.map (·.1):=by
 obtain⟨d1,d2⟩:=Us hw c w
 have sub:=Im (hW d2)
 have:=List.find?_some d2
 rw [Gy] at this
 rw [d1,Ml fun i j hi hj=>Xu hw sub.2 hi hj]
 refine⟨by simpa using this,by rw [ac];exact sub.1,fun x hx=>?_⟩
 obtain⟨p,hp,rfl⟩:=List.mem_map.mp hx
 rw [K3]
 exact List.mem_map.mpr ⟨p,List.mem_range.mpr (sub.2 p hp),rfl⟩
theorem am3 (n m c:Nat):(Cm n m).filter (fun i=>c.testBit i)=Cm n (m &&& c):=by
 unfold Cm
 rw [kj]
 exact ig fun i _=>by rw [bo,Bool.and_comm]
theorem Ho {n m:Nat} (hm:m<2 ^ n):Cm n m=[] ↔ m=0:=by
 refine⟨fun h=>cN fun e=>?_,fun e=>?_⟩
 ·obtain⟨i,hi,hb⟩:=Os hm e
  have:i∈Cm n m:=List.mem_filter.mpr ⟨List.mem_range.mpr hi,hb⟩
  rw [h] at this
  cases this
 ·subst e
  exact List.filter_eq_nil_iff.mpr fun i _=>by rw [b5];exact am
theorem N8 {n m c:Nat} (hm:m<2 ^ n):Cm n (m &&& c)=Cm n m ↔ Cz m c=0:=by
 refine⟨fun h=>cN fun e=>?_,fun e=>?_⟩
 ·obtain⟨i,hi,hb⟩:=Os (Py hm) e
  rw [Ef,aA] at hb
  have:i∈Cm n m:=List.mem_filter.mpr ⟨List.mem_range.mpr hi,hb.1⟩
  rw [<- h] at this
  have:=(List.mem_filter.mp this).2
  rw [bo,aA] at this
  rw [this.2] at hb
  exact absurd hb.2 (by decide)
 ·refine ig fun i _=>?_
  have:=congrArg (fun n=>n.testBit i) e
  rw [Ef,b5] at this
  rw [bo]
  cases h1:m.testBit i <;> cases h2:c.testBit i <;> rw [h1,h2] at this <;> first|rfl|cases this
theorem Zt {sw:Sw} (hw:okSw sw) {p j:Nat} {x:Str×List Str} (hp:sw[p]? = some x) (hj:j<x.2.length) (m:Nat):(Cm (Af sw).length m).filter (fun i=>decide (Cj sw i p=j))=Cm (Af sw).length (m &&& Au (Af sw) p (x.2.getD j a_)):=by
 unfold Cm
 rw [kj]
 refine ig fun i hi=>?_
 obtain⟨l1,c1⟩:=Fm (List.mem_range.mp hi) hp
 rw [bo,Df,Bool.and_comm]
 congr 1
 unfold Ju
 rw [bH,decide_eq_true_iff,decide_eq_true_iff]
 show _ ↔ Cd sw i p=_
 rw [c1]
 refine⟨fun e=>by rw [e],fun e=>?_⟩
 have e:=aE e
 rw [au,au,ah l1,ah hj] at e
 exact (cK (hw.sets x (af hp)).1.2.1).mp e
theorem aj2 (sw:Sw) (p m:Nat) (f:Nat->List Sw) (zs:List Str):grF (Af sw) p f m zs=(C6 sw p zs m).foldl (fun gs j=>Et gs (zs.getD j a_) (f (m &&& Au (Af sw) p (zs.getD j a_)))) []:=by
 unfold grF C6
 rw [List.foldl_filter]
 conv=>lhs;rw [Ld zs]
 rw [jN]
 congr 1
 funext gs j
 unfold En
 by_cases e:m &&& Au (Af sw) p (zs.getD j a_)=0
 ·rw [if_pos e,if_neg (by simpa using e)]
 ·rw [if_neg e,if_pos (by simpa using e)]
section
variable {P:aW} {w:bE} {K:ae} {mg:Str->Option Value} {base:Heap} {t:Adr}
structure KpB (ok:Addr->Prop) (H:Hp) (ok':Addr->Prop) (H':Hp):Prop where
 l:∀ a xs,ok a->H a=some (.lst xs)->ok' a/\H' a=some (.lst xs)
 t:∀ a xs,H a=some (.tup xs)->H' a=some (.tup xs)
variable {ok ok':Addr->Prop} {H H' H1:Hp}
theorem Ba {H:Hp} {a b:Addr} {o:HO} {u:Option HO} (h:H b=u) (n:b≠a):upd H a o b=u:=by rw [Ak n];exact h
theorem KpB.same (S:Same H H'):KpB ok H ok H':=⟨fun _ _ o e=>⟨o,S _ _ e⟩,fun _ _ e=>S _ _ e⟩
theorem KpB.weak (h:∀ a o,ok a->H a=some o->ok' a):KpB ok H ok' H:=⟨fun a _ o e=>⟨h a _ o e,e⟩,fun _ _ e=>e⟩
theorem KpB.set {s:Addr} {ys zs:List V} (e:H s=some (.lst ys)) (n:¬ ok s):KpB ok H ok (upd H s (.lst zs)):=
 ⟨fun a xs o q=>⟨o,Ba q (fun z=>n (z▸o))⟩,fun a xs q=>Ba q (fun z=>by rw [z,e] at q;cases q)⟩
theorem TermAt.keep {v:V} {e:Str×List Str} (h:TermAt H v e) (k:∀ a xs,H a=some (.tup xs)->H' a=some (.tup xs)):TermAt H' v e:=by
 obtain⟨T,u,rfl,h1,h2⟩:=h
 exact⟨T,u,rfl,k _ _ h1,k _ _ h2⟩
theorem BoxAt.keep {a:Addr} {b:Sw} (h:BoxAt H a b) (l:∀ xs,H a=some (.lst xs)->H' a=some (.lst xs)) (k:∀ a xs,H a=some (.tup xs)->H' a=some (.tup xs)):BoxAt H' a b:=by
 obtain⟨es,e1,e2,e3⟩:=h
 exact⟨es,e1,l _ e2,fun e he=>(e3 e he).keep k⟩
theorem BxAt.keep {l:Addr} {bs:List Sw} (h:BxAt ok H l bs) (k:KpB ok H ok' H'):BxAt ok' H' l bs:=by
 obtain⟨es,e1,o,e2,e3⟩:=h
 refine⟨es,e1,(k.l _ _ o e2).1,(k.l _ _ o e2).2,fun e he=>?_⟩
 obtain⟨o1,n,b⟩:=e3 e he
 obtain⟨fs,f1,f2,f3⟩:=id b
 exact⟨(k.l _ _ o1 f2).1,n,b.keep (fun xs q=>(k.l _ _ o1 q).2) k.t⟩
theorem BxAt.up {l:Addr} {bs:List Sw} (h:BxAt ok H l bs) (S:Same H H'):BxAt ok H' l bs:=h.keep (KpB.same S)
theorem BxAt.any {l:Addr} {bs:List Sw} (h:BxAt ok H l bs):BxAt Pn.any H l bs:=h.keep (KpB.weak fun _ _ _ _=>trivial)
theorem BxAt.fr {l:Addr} {bs:List Sw} (S:Same H H1) (h:BxAt (fresh H1) H' l bs):BxAt (fresh H) H' l bs:=h.keep (KpB.weak fun _ _ o _=>S.free o)
theorem Ug {p:Addr} (h:H p=none):BxAt (fresh H) (upd H p (.lst [])) p []:=⟨[],rfl,h,Ad,fun e he=>by cases he⟩
theorem Uh {p q:Addr} (h:H p=none) (h2:upd H p (.lst []) q=none):BxAt (fresh H) (upd (upd H p (.lst [])) q (.lst [.ref p])) q [[]]:=by
 have n:p≠q:=Aj (Ad (H:=H) (a:=p) (o:=.lst [])) h2
 refine⟨[([],p)],rfl,(Same.upd h).free h2,Ad,fun e he=>?_⟩
 have:e=([],p):=by simpa using he
 subst this
 exact⟨h,n,[],rfl,(Ak n).trans (Ad),fun e he=>by cases he⟩
noncomputable def Tv (e:Str×List Str):Dt:=.tup [Jb e.1,.tup (e.2.map Jb)]
noncomputable def Rk (b:Sw):Dt:=.lst (b.map Tv)
noncomputable def bxD (bs:List Sw):Dt:=.lst (bs.map Rk)
theorem Yy (a b:Str×List Str):deq (Tv a) (Tv b)=decide (a=b):=by
 unfold Tv deq Dn
 rw [Ru]
 unfold Dn deq
 rw [Fq Ru]
 unfold Dn
 rw [gA,bH,aA,decide_eq_true_iff,decide_eq_true_iff,decide_eq_true_iff]
 exact⟨fun h=>Prod.ext h.1 h.2,fun h=>by rw [h];exact⟨rfl,rfl⟩⟩
theorem ah7 (a b:Sw):deq (Rk a) (Rk b)=decide (a=b):=by unfold Rk deq;exact Fq Yy a b
theorem aw0 (a b:List Sw):deq (bxD a) (bxD b)=decide (a=b):=by unfold bxD deq;exact Fq ah7 a b
theorem av9 (bs:List Sw):dep (bxD bs)<=40:=by
 have h1:∀ e,dep (Tv e)<=2:=fun e=>by
  have h1:=Rt e.1
  have h2:=Fo Rt e.2
  show lE (dep (Jb e.1)) (lE (E4 (e.2.map Jb)+1) 0)+1<=2
  exact eV (Nat.max_le.mpr ⟨by omega,Nat.max_le.mpr ⟨by omega,by omega⟩⟩)
 have h2:∀ b,dep (Rk b)<=3:=fun b=>by unfold Rk dep;exact eV (Fo h1 b)
 unfold bxD dep
 exact ax (eV (Fo h2 bs)) (by decide)
theorem Jz {α:Type} {f:α->Dt} {g:α->V}:∀ {es:List α},(∀ e∈es,At K H (f e) (g e))->AtL K H (es.map f) (es.map g)
 | [],_=>Oq
 | e::es,h=>G8 (h e az) (Jz fun x hx=>h x (ar _ hx))
theorem BoxAt.at_ {a:Addr} {b:Sw} (h:BoxAt H a b):At K H (Rk b) (.ref a):=by
 obtain⟨es,rfl,e2,e3⟩:=h
 unfold Rk
 rw [bd]
 refine Ue (SqL.of e2) (Jz fun e he=>?_)
 obtain⟨T,u,ev,h1,h2⟩:=e3 e he
 rw [ev]
 exact be1 (SqT.of h1) (G8 W8 (G8 (av0 (SqT.of h2)) Oq))
theorem BxAt.at_ {l:Addr} {bs:List Sw} (h:BxAt ok H l bs):At K H (bxD bs) (.ref l):=by
 obtain⟨es,rfl,_,e2,e3⟩:=h
 unfold bxD
 rw [bd]
 exact Ue (SqL.of e2) (Jz fun e he=>(e3 e he).2.2.at_)
theorem M7 {neg:Bool} {a b:Addr} {as bs:List Sw} {Q:VK} (ha:BxAt ok H a as) (hb:BxAt ok' H b bs) (q:Q (.bl (if neg then !decide (as=bs) else decide (as=bs))) H):Ax K neg (.ref a) (.ref b) H Q:=
 .inr (.inl ⟨bxD as,bxD bs,ha.at_,hb.at_,av9 as,by rw [aw0];exact q⟩)
theorem Hv {α β:Type} {f:α->β} {es:List α} {i:Nat} {e e':α} (h:es[i]? = some e) (q:f e'=f e):(es.set i e').map f=es.map f:=by
 obtain⟨hi,rfl⟩:=List.getElem?_eq_some_iff.mp h
 rw [kO,q]
 refine List.ext_getElem? fun j=>?_
 rw [List.getElem?_set]
 split
 ·rename_i e;subst e
  rw [if_pos (by rw [ac];exact hi),ai,h];rfl
 ·rfl
variable {mk:List V->HO} {g:Addr} {es:List GE}
theorem GrE.has (h:GrE mk ok H g es) {a:Addr} (ha:a∈gSs g es):∃ xs,H a=some (.lst xs):=by
 rcases List.mem_cons.mp ha with rfl|ha
 ·exact⟨_,h.at_⟩
 ·obtain⟨e,he,rfl⟩:=List.mem_map.mp ha
  exact⟨_,(h.one e he).2.1⟩
theorem GrE.up (h:GrE mk ok H g es) (S:Same H H'):GrE mk ok H' g es:=
 ⟨h.o,S _ _ h.at_,h.nd,fun e he=>let ⟨a,b,c,d,f⟩:=h.one e he;⟨S _ _ a,S _ _ b,c,d,f.up S⟩⟩
theorem GrE.weak (h:GrE mk ok H g es) (k:∀ a o,ok a->H a=some o->ok' a):GrE mk ok' H g es:=
 ⟨k _ _ h.o h.at_,h.at_,h.nd,fun e he=>let ⟨a,b,c,d,f⟩:=h.one e he;⟨a,b,k _ _ c b,d,f.keep (KpB.weak fun x o q r=>⟨k x o q.1 r,q.2⟩)⟩⟩
theorem GrE.grow (h:GrE mk ok H g es) {i:Nat} {e:GE} (hi:es[i]? = some e) (z:Str):GrE mk ok (upd H e.2.2.1 (Bi (e.1.1++[z]))) g (es.set i ((e.1.1++[z],e.1.2),e.2)):=by
 have he:=af hi
 have eS:gSs g (es.set i ((e.1.1++[z],e.1.2),e.2))=gSs g es:=congrArg (g :: ·) (Hv hi rfl)
 have hs:e.2.2.1∈gSs g es:=ar _ (List.mem_map.mpr ⟨e,he,rfl⟩)
 have nd:=List.nodup_cons.mp h.nd
 have gs:g≠e.2.2.1:=fun q=>nd.1 (q▸List.mem_map.mpr ⟨e,he,rfl⟩)
 have o:=h.one e he
 have kb:KpB (gOk ok g es) H (gOk ok g es) (upd H e.2.2.1 (Bi (e.1.1++[z]))):=KpB.set o.2.1 fun q=>q.2 hs
 refine⟨h.o,?_,by rw [eS];exact h.nd,fun x hx=>?_⟩
 ·rw [Ak gs,Hv (f:=fun e:GE=>V.ref e.2.1) (e':=((e.1.1++[z],e.1.2),e.2)) hi rfl];exact h.at_
 ·unfold gOk
  rw [eS]
  show _/\_/\_/\_/\BxAt (gOk ok g es) _ _ _
  obtain⟨j,hj⟩:=List.mem_iff_getElem?.mp hx
  rw [List.getElem?_set] at hj
  by_cases q:i=j
  ·rw [if_pos q] at hj
   split at hj
   ·have:x=((e.1.1++[z],e.1.2),e.2):=(aE hj).symm
    subst this
    exact⟨Ba (o.1) (fun q=>o.2.2.2.1 (q▸hs)),Ad,o.2.2.1,o.2.2.2.1,o.2.2.2.2.keep kb⟩
   ·cases hj
  ·rw [if_neg q] at hj
   have ox:=h.one x (af hj)
   have ne:x.2.2.1≠e.2.2.1:=fun r=>q ((List.getElem?_inj (l:=es.map (·.2.2.1)) (by rw [ac];exact An hi) nd.2).mp (by rw [ai,ai,hi,hj];exact congrArg aR r.symm))
   exact⟨Ba (ox.1) (fun q=>ox.2.2.2.1 (q▸hs)),(Ak ne).trans (ox.2.1),ox.2.2.1,ox.2.2.2.1,ox.2.2.2.2.keep kb⟩
theorem GrE.snoc (h:GrE mk ok H g es) {s T b:Addr} {ss:List Str} {bs:List Sw} (fs:H s=none) (os:ok s) (hb:BxAt (gOk ok g es) H b bs) (S:Same H H1) (h1:H1 s=some (Bi ss)) (hT:H1 T=some (mk [.ref s,.ref b])) (fT:H T=none) (Ts:T≠s) :
  GrE mk ok (upd H1 g (.lst (es.map (fun e=>.ref e.2.1)++[.ref T]))) g (es++[((ss,bs),T,s,b)]):=by
 have eS:gSs g (es++[((ss,bs),T,s,b)])=gSs g es++[s]:=by unfold gSs;rw [aq];rfl
 have out:∀ {a o},H a=some o -> ¬ a∈gSs g es -> ¬ a∈gSs g es++[s]:=fun e n q=>(List.mem_append.mp q).elim n fun q=>Aj e fs (by simpa using q)
 have ns:¬ s∈gSs g es:=fun q=>by obtain⟨xs,e⟩:=h.has q;rw [fs] at e;cases e
 have nT:¬ T∈gSs g es:=fun q=>by obtain⟨xs,e⟩:=h.has q;rw [fT] at e;cases e
 have gm:g∈gSs g es:=az
 have sg:s≠g:=fun q=>ns (q▸gm)
 have kb:KpB (gOk ok g es) H (gOk ok g (es++[((ss,bs),T,s,b)])) (upd H1 g (.lst (es.map (fun e=>.ref e.2.1)++[.ref T]))):=by
  refine⟨fun a xs o e=>⟨⟨o.1,by rw [eS];exact out e o.2⟩,Ba (S _ _ e) (fun q=>o.2 (q▸gm))⟩,fun a xs e=>?_⟩
  exact Ba (S _ _ e) (fun q=>by rw [q,h.at_] at e;cases e)
 refine⟨h.o,by rw [Ad,aq];rfl,?_,fun x hx=>?_⟩
 ·rw [eS]
  exact List.nodup_append.mpr ⟨h.nd,by simp,fun a ha c hc e=>ns ((show c=s from List.mem_singleton.mp hc)▸e▸ha)⟩
 ·rw [eS]
  rcases List.mem_append.mp hx with hx|hx
  ·obtain⟨a,c,d,e,f⟩:=h.one x hx
   have m1:x.2.2.1≠g:=fun q=>(List.nodup_cons.mp h.nd).1 (q▸List.mem_map.mpr ⟨x,hx,rfl⟩)
   exact⟨Ba (S _ _ a) (fun q=>e (q▸gm)),(Ak m1).trans (S _ _ c),d,out a e,f.keep kb⟩
  ·have:x=((ss,bs),T,s,b):=by simpa using hx
   subst this
   exact⟨Ba hT (fun q=>nT (q▸gm)),(Ak sg).trans (h1),os,fun q=>(List.mem_append.mp q).elim nT fun q=>Ts (by simpa using q),hb.keep kb⟩
theorem aj1 {D:Addr} (hD:ok D) (e:H D=some (.lst [])):GrE mk ok H D []:=⟨hD,e,List.nodup_cons.mpr ⟨(fun h=>by cases h),hX⟩,fun e he=>by cases he⟩
theorem Tb {E:EK} {r:Addr} {te:DE} {rest:St} {pre:Sw} {es:List (Sw×Addr)} {R:Hp->Addr->Prop} (hr:H r=some (.lst (es.map fun e=>.ref e.2))) (he:∀ e∈es,BoxAt H e.2 e.1) (few:es.length<=1024) (fl:∀ e∈es,e.1.length<=5)
  (ht:∀ (H1:Hp) (a:Addr) (xs:List V) (Q1:VK),Same H H1->H1 a=some (.lst xs)->xs.length<=5->(∀ H2 q (ys:List ((Str×List Str)×V)),Same H1 H2->H1 q=none->ys.map (·.1)=pre->H2 q=some (.lst (ys.map (·.2)++xs))->(∀ y∈ys,TermAt H2 y.2 y.1)->Q1 (.ref q) H2)->te (some (.ref a)::rest) H1 Q1 E)
  (k:∀ D H',Same H H'->H D=none -> ∀ fs:List (Sw×Addr),fs.map (·.1)=(es.map (·.1)).map (pre ++ ·)->H' D=some (.lst (fs.map fun y=>.ref y.2))->(∀ y∈fs,y.2≠D/\H y.2=none/\BoxAt H' y.2 y.1)->R H' D) :
  ∀ D,H D=none->E3 (Itl K r) (gdN 0) Bw te D (fun H'=>R H' D) (none::rest) (upd H D (.lst [])) E:=by
 intro D hD
 refine Cs (As (es.map fun e=>V.ref e.2)) (fun m σ H'=>(∃ v,σ=v::rest)/\Same H H' /\ ∃ fs:List (Sw×Addr),fs.map (·.1)=((es.take m).map (·.1)).map (pre ++ ·)/\H' D=some (.lst (fs.map fun y=>.ref y.2)) /\ ∀ y∈fs,y.2≠D/\H y.2=none/\BoxAt H' y.2 y.1)
  ⟨⟨_,rfl⟩,Same.upd hD,[],rfl,Ad,fun x hx=>by cases hx⟩ (fun m σ H' _ q=>q.2.1.seqL (SqL.of hr)) ?_ ?_
 ·rintro m y σ H1 hy ⟨⟨v,rfl⟩,S1,fs,ef,eD,hf⟩
  obtain⟨⟨e,ea⟩,hm,rfl⟩:=Ao hy
  obtain⟨us,u1,u2,u3⟩:=he _ (af hm)
  have le:e.length<=5:=fl _ (af hm)
  have lm:=An hm
  refine ht H1 ea _ _ S1 (S1 _ _ u2) (by rw [ac];have:=congrArg bv u1;rw [ac] at this;rw [this];exact le) fun H2 q ys S2 hq ey eq hy=>?_
  have S12:=S1.trans S2
  have nq:q≠D:=(Aj eD hq).symm
  have eD2:=S2 _ _ eD
  have kt:∀ a xs,H2 a=some (.tup xs)->upd H2 D (.lst ((fs.map fun y=>V.ref y.2)++[.ref q])) a=some (.tup xs):=fun a xs e=>Ba e (fun z=>by rw [z,eD2] at e;cases e)
  refine⟨_,eD2,?_,⟨_,rfl⟩,S12.set hD,fs++[(pre++e,q)],?_,?_,fun y hy=>?_⟩
  ·rw [ac]
   have:=congrArg bv ef
   rw [ac,ac,ac,aF] at this
   exact aD (show fs.length<=1024 by omega) (by decide)
  ·rw [aq,ef,Bh hm,aq];rfl
  ·rw [Ad,aq];rfl
  ·rcases List.mem_append.mp hy with hy|hy
   ·obtain⟨a1,a2,a3⟩:=hf y hy
    exact⟨a1,a2,(a3.keep (fun xs e=>S2 _ _ e) (fun a xs e=>S2 _ _ e)).keep (fun xs e=>(Ak a1).trans (e)) kt⟩
   ·have:y=(pre++e,q):=by simpa using hy
    subst this
    refine⟨nq,S1.free hq,ys++us,by rw [aq,ey,u1],by rw [Ak nq,aq];exact eq,fun x hx=>?_⟩
    rcases List.mem_append.mp hx with hx|hx
    ·exact (‹∀ y∈ys,TermAt H2 y.2 y.1› x hx).keep kt
    ·exact (u3 x hx).keep fun a xs e=>kt a xs (S12 _ _ e)
 ·rintro σ H1 ⟨_,S1,fs,ef,eD,hf⟩
  rw [ac,aL] at ef
  exact k D H1 S1 hD fs ef eD hf
theorem ag7 {H0 H3 H4:Hp} {B D:Addr} {fs gs:List (Sw×Addr)} (S3:Same H0 H3) (hB:H0 B=none) (e3:H3 B=some (.lst (fs.map fun y=>.ref y.2))) (hf:∀ y∈fs,y.2≠B/\H0 y.2=none/\BoxAt H3 y.2 y.1) (S4:Same H3 H4) (hg:∀ y∈gs,y.2≠D/\H3 y.2=none/\BoxAt H4 y.2 y.1) :
  Same H0 (upd H4 B (.lst ((fs.map fun y=>.ref y.2)++gs.map fun y=>.ref y.2)))/\upd H4 B (.lst ((fs.map fun y=>.ref y.2)++gs.map fun y=>.ref y.2)) B=some (.lst ((fs++gs).map fun y=>.ref y.2)) /\ ∀ y∈fs++gs,y.2≠B/\H0 y.2=none/\BoxAt (upd H4 B (.lst ((fs.map fun y=>.ref y.2)++gs.map fun y=>.ref y.2))) y.2 y.1:=by
 have e4:=S4 _ _ e3
 refine⟨(S3.trans S4).set hB,by rw [Ad,aq],fun y hy=>?_⟩
 have kt:∀ a xs,H4 a=some (.tup xs)->upd H4 B (.lst ((fs.map fun y=>V.ref y.2)++gs.map fun y=>V.ref y.2)) a=some (.tup xs):=fun a xs e=>Ba e (fun z=>by rw [z,e4] at e;cases e)
 rcases List.mem_append.mp hy with hy|hy
 ·obtain⟨a1,a2,a3⟩:=hf y hy
  exact⟨a1,a2,(a3.keep (fun xs e=>S4 _ _ e) fun a xs e=>S4 _ _ e).keep (fun xs e=>Ba e a1) kt⟩
 ·obtain⟨a1,a2,a3⟩:=hg y hy
  have nB:y.2≠B:=(Aj e3 a2).symm
  exact⟨nB,S3.free a2,a3.keep (fun xs e=>Ba e nB) kt⟩
end
section
variable {P:aW} {w:bE} {K:ae} {mg:Str->Option Value} {base:Heap} {t:Adr}
theorem Io (l:List Str) (z:Str):Bi (l++[z])=.lst (l.map V.str++[.str z]):=by unfold Bi;rw [aq];rfl
theorem b16 {f:Addr} {fd:aB} (Z:A0 K t) (F:FunD K "add_to_groups" "add_to_groups" V0 f fd .none) (T:Tab P w K mg base 0 (Bk K t) bl):FnOk P w K mg base CX0 1 f fd ae4 (ar2 K t):=by
 refine F.okW0 b92 cf4 T (b66 K t) (fun vs H Q E h=>?_) (fun vs H Q E h=>?_)
 ·obtain⟨g,b,z,ok,es,bs,rfl,_⟩:=h;rfl
 ·obtain⟨g,b,z,ok,es,bs,rfl,G,B,fr,l4,s4,k⟩:=h
  refine .inl ⟨⟨_,SqL.of G.at_⟩,?_⟩
  refine A5 (As (es.map fun e=>V.ref e.2.1)) (fun i σ H'=>(∃ v3 v4,σ=[some (.ref g),some (.str z),some (.ref b),v3,v4])/\H'=H /\ ∀ (j:Nat) e,j<i->es[j]? = some e->e.1.2≠bs)
   ⟨⟨_,_,rfl⟩,rfl,fun j e hj=>absurd hj (cy _)⟩ (fun i σ H' _ q=>by rw [q.2.1];exact SqL.of G.at_) ?_ ?_
  ·rintro i x σ H1 hx ⟨⟨v3,v4,rfl⟩,rfl,no⟩
   obtain⟨e,hi,rfl⟩:=Ao hx
   obtain⟨o1,o2,o3,o4,o5⟩:=G.one e (af hi)
   refine⟨_,.inl (SqT.of o1),rfl,M7 o5 B ?_⟩
   by_cases q:e.1.2=bs
   ·refine R0 (decide_eq_true q) ⟨.inl ⟨rfl,_,SqL.of o2⟩,_,_,_,rfl,rfl,o2,?_,?_⟩
    ·rw [ac];exact aD (s4 e (af hi)) (by decide)
    have:=G.grow hi z
    rw [Io] at this
    refine k _ _ ?_ this fun a o n ea=>?_
    ·rw [Kf (i:=i) (g:=e.1) (by rw [ai,hi];rfl) q fun j h hj hh=>?_,kO]
     obtain⟨e2,h2,rfl⟩:=Ao hh
     exact no j e2 hj h2
    ·exact Ba ea (fun q=>n (q▸o3))
   ·refine Ew (decide_eq_false q) ⟨⟨_,_,rfl⟩,rfl,fun j e2 hj h2=>?_⟩
    rcases dy j i with r|r
    ·exact no j e2 r h2
    ·have:j=i:=by omega
     subst this
     rw [hi] at h2
     cases h2
     exact q
  ·rintro σ H1 ⟨⟨v3,v4,rfl⟩,rfl,no⟩
   rw [ac] at no
   refine .inl ⟨.inl ⟨rfl,_,SqL.of G.at_⟩,(show 1<=sizeLine by decide),fun s hs=>⟨(show 2<=sizeLine by decide),fun T hT=>⟨g,_,_,rfl,rfl,((Same.upd hs).trans (Same.upd hT)) _ _ G.at_,?_,?_⟩⟩⟩
   ·rw [ac];exact aD l4 (by decide)
   have Ts:T≠s:=fun q=>by rw [q,Ad] at hT;cases hT
   have S:=(Same.upd hs).trans (Same.upd (o:=.tup [.ref s,.ref b]) hT)
   refine k _ _ ?_ (G.snoc (ss:=[z]) hs (fr s hs) B S ((Same.upd hT) _ _ Ad) Ad ((Same.upd hs).free hT) Ts) fun a o n ea=>?_
   ·rw [aq,Ia fun h hh=>?_]
    ·rfl
    ·obtain⟨e,he,rfl⟩:=List.mem_map.mp hh
     obtain⟨j,hj⟩:=List.mem_iff_getElem?.mp he
     exact no j e (An hj) hj
   ·exact Ba (S _ _ ea) (fun q=>n (q▸G.o))
theorem Ro {sw:Sw} {c m:Nat} (h:m &&& c=0):∀ ws,bxF sw c ws m=[]
 | []=>by unfold bxF;rw [if_pos h]
 | _::_=>by unfold bxF;rw [if_pos h]
theorem Xc {sw:Sw} {c m:Nat} (h0:¬ m &&& c=0) (h:Cz m c=0):∀ ws,bxF sw c ws m=[[]]
 | []=>by unfold bxF;rw [if_neg h0]
 | _::_=>by unfold bxF;rw [if_neg h0,if_pos h]
theorem Rn {sw:Sw} (hw:okSw sw) {c m i:Nat} {x:Str×List Str} {ws:List Str} (hi:sw[i]? = some x) (h0:¬ m &&& c=0) (h:¬ Cz m c=0):bxF sw c (x.1::ws) m=Fu x.1 (grF (Af sw) i (bxF sw c ws) m x.2):=by
 conv=>lhs;unfold bxF
 rw [if_neg h0,if_neg h,Qd hw hi,C7 hi hw.2.2.1]
theorem be8 {n m:Nat} (h:m<=4 ^ n) (hn:n<=5):m<=1024:=ax h (cv (j:=5) (by decide) hn)
theorem R1 {f:List Str×List Sw->List Sw} {gs:Gs} (l4:gs.length<=4) (h:∀ g∈gs,(f g).length<=1024) (k:Nat):((gs.take k).flatMap f).length<=4096:=by
 rw [jW]
 refine ax (Ww fun g hg=>h g (dF hg)) (gx 1024 (ax ?_ l4))
 rw [aF]
 omega
theorem Ii {α β:Type} {l:List α} {i:Nat} {x:α} (h:l[i]? = some x) (f:α->List β):(l.take (i+1)).flatMap f=(l.take i).flatMap f++f x:=by
 rw [bG,h,bW,dq,dm,gn,bQ]
theorem b17 (Z:A0 K t) (g:DOk K mg "boxes_of_part" V1 t.f_zk t.d_zk Ub) (g2:DOk K mg "groups_of_part" Vz t.f_zi t.d_zi Ym) (T:Tab P w K mg base 1 (D9 K t) bl):∀ n,FnOk P w K mg base CX0 (1+2 * n+1) t.f_zi t.d_zi Ym (Qg K t n)/\FnOk P w K mg base CX0 (1+2 * n+2) t.f_zk t.d_zk Ub (Md K t n):=by
 refine br0 (Md K t) (Qg K t) (cd9 K t) (cd8 K t) g g2 b93 cf5 b91 cf3 T 40 (b67 K t) (b65 K t) (fun n vs H Q E h=>?_) (fun n vs H Q E h=>?_) (fun vs H Q E h=>?_) (fun n vs H Q E h=>?_) (fun n vs H Q E h=>?_)
 ·obtain⟨p,l,c,m,ws,sw,rules,rfl,_⟩:=h;rfl
 ·obtain⟨p,l,c,m,i,x,ws,sw,rules,rfl,_⟩:=h;rfl
 ·obtain⟨p,l,c,m,i,x,ws,sw,rules,_,_,_,_,_,h,_⟩:=h;exact absurd h (cy _)
 ·obtain⟨p,l,c,m,ws,sw,rules,rfl,hP,hw,hm,hl,ln,l5,hin,hu,k⟩:=h
  have e1:aS (m:Int) (c:Int)=((m &&& c:Nat):Int):=B3 m c
  have e2:aS (m:Int) (be (c:Int))=(Cz m c:Nat):=Ss m c
  refine Er (fun e=>?_) (fun e=>?_)
  ·have e:aS (m:Int) (c:Int)=0:=by simpa using e
   rw [e1] at e
   refine⟨(show 0<=sizeLine by decide),fun q hq=>k _ q (Same.upd hq) ?_⟩
   rw [Ro (by omega)]
   exact Ug hq
  have n1:¬ aS (m:Int) (c:Int)=0:=by simpa using e
  rw [e1] at n1
  have n1:¬ m &&& c=0:=by omega
  refine Er (fun e=>?_) (fun e=>?_)
  ·have e:aS (m:Int) (be (c:Int))=0:=by simpa using e
   rw [e2] at e
   refine⟨(show 0<=sizeLine by decide),fun q hq=>⟨(show 1<=sizeLine by decide),fun r hr=>k _ r ((Same.upd hq).trans (Same.upd hr)) ?_⟩⟩
   rw [Xc n1 (by omega)]
   exact Uh hq hr
  have n2:¬ aS (m:Int) (be (c:Int))=0:=by simpa using e
  rw [e2] at n2
  have n2:¬ Cz m c=0:=by omega
  cases ws with
  | nil=>exact absurd (Mn hm hu n1) n2
  | cons y ws=>
   obtain⟨i,x,hi,ex⟩:=Hm (hin y az)
   subst ex
   have ln:ws.length+1<=n:=ln
   have l5:ws.length+1<=5:=l5
   have hin':∀ y∈ws,y∈sw.map (·.1):=fun y hy=>hin y (ar _ hy)
   refine⟨p,l,c,m,i,x,ws,sw,rules,rfl,hP,hw,hm,hl,by omega,by omega,hi,hin',hu,fun H1 g es S1 G eg=>?_⟩
   have GI:=Xn (Af sw) i m (bxF sw c ws) x.2
   rw [Rn hw hi n1 n2] at k
   rw [<- eg] at k GI
   have x4:=(hw.sets x (af hi)).2.2
   have el:es.length<=4:=by have:=GI.len;rw [ac] at this;omega
   have bx:∀ e∈es,e.1.2.length<=1024 /\ ∀ b∈e.1.2,b.length<=5:=fun e he=>by
    obtain⟨q,eq⟩:=(GI.one e.1 (List.mem_map.mpr ⟨e,he,rfl⟩)).2.2
    rw [eq]
    have:=Xd hw (c:=c) q hin'
    exact⟨be8 this.1 (by omega),fun b hb=>ax (this.2 b hb).1 (by omega)⟩
   refine .inl ⟨_,.inl (SqL.of G.at_),?_⟩
   refine Er (fun e=>?_) (fun e=>?_)
   ·have e:((es.map fun e=>V.ref e.2.1).length:Int)=1:=by simpa using e
    have e:es.length=1:=by rw [ac] at e;omega
    obtain⟨e0,rfl⟩:=List.length_eq_one_iff.mp e
    obtain⟨o1,o2,o3,o4,o5⟩:=G.one e0 az
    refine⟨_,.ref e0.2.1,.inl (SqL.of G.at_),Ar (j:=0) rfl,_,.ref e0.2.2.2,.inr (SqT.of o1),Ar (j:=1) rfl,k H1 _ S1 ?_⟩
    have:Fu x.1 ([e0].map (·.1))=e0.1.2:=by unfold Fu;rw [if_pos (show ([e0].map (·.1)).length=1 from rfl)];exact bQ _
    rw [this]
    exact o5.keep (KpB.weak fun a o q _=>q.1)
   ·have e:¬ ((es.map fun e=>V.ref e.2.1).length:Int)=1:=by simpa using e
    have ne1:¬ (es.map (·.1)).length=1:=by rw [ac] at e ⊢;omega
    have ej:Fu x.1 (es.map (·.1))=(es.map (·.1)).flatMap fun g=>g.2.map ((x.1,g.1) :: ·):=by unfold Fu;rw [if_neg ne1]
    rw [ej] at k
    refine⟨(show 0<=sizeLine by decide),fun B hB=>?_⟩
    have SB:=Same.upd (o:=.lst []) hB
    have eB:upd H1 B (.lst []) B=some (.lst []):=Ad
    show Ah _ _ _ [some (.ref p),some (.int (c:Int)),some (.int (m:Int)),some (.ref l),some (.ref g),some (.ref B),none,none] _
    generalize upd H1 B (.lst [])=H2 at SB eB ⊢
    refine .inl ⟨⟨_,SqL.of (SB _ _ G.at_)⟩,?_⟩
    refine A5 (As (es.map fun e=>V.ref e.2.1)) (fun j σ H'=>(∃ v6 v7,σ=[some (.ref p),some (.int (c:Int)),some (.int (m:Int)),some (.ref l),some (.ref g),some (.ref B),v6,v7])/\Same H1 H' /\ ∃ fs:List (Sw×Addr),fs.map (·.1)=((es.map (·.1)).take j).flatMap (fun g=>g.2.map ((x.1,g.1) :: ·))/\H' B=some (.lst (fs.map fun y=>.ref y.2)) /\ ∀ y∈fs,y.2≠B/\H1 y.2=none/\BoxAt H' y.2 y.1)
     ⟨⟨_,_,rfl⟩,SB,[],rfl,eB,fun y hy=>by cases hy⟩ (fun j σ H' _ q=>q.2.1.seqL (SqL.of G.at_)) ?_ ?_
    ·rintro j v σ H3 hv ⟨⟨v6,v7,rfl⟩,S3,fs,ef,e3,hf⟩
     obtain⟨e,hj,rfl⟩:=Ao hv
     have hj2:(es.map (·.1))[j]? = some e.1:=by rw [ai,hj];rfl
     obtain⟨o1,o2,o3,o4,us,u1,u2,u3,u4⟩:=G.one e (af hj)
     have bxe:=bx e (af hj)
     refine⟨_,.inl (SqT.of (S3 _ _ o1)),rfl,.inl ⟨rfl,_,SqL.of e3⟩,.inl ⟨⟨_,SqL.of (S3 _ _ u3)⟩,?_⟩⟩
     refine Tb (pre:=[(x.1,e.1.1)]) (S3 _ _ u3) (fun y hy=>(u4 y hy).2.2.keep (fun xs q=>S3 _ _ q) fun a xs q=>S3 _ _ q) ?_ (fun y hy=>bxe.2 _ (by rw [<- u1];exact List.mem_map.mpr ⟨y,hy,rfl⟩)) ?_ ?_
     ·have:=congrArg bv u1
      rw [ac] at this
      rw [this];exact bxe.1
     ·intro H4 a xs Q1 S4 ea la kk
      have S34:=S3.trans S4
      refine⟨_,.str x.1,.inl (SqL.of ((S1.trans S34) _ _ hl)),Ar (j:=0) rfl,_,.inl ⟨SqL.of (S34 _ _ o2),fun u hu=>⟨(show 2<=sizeLine by decide),fun T hT=>⟨(show 1<=sizeLine by decide),fun q1 hq1=>.inl ⟨q1,a,_,_,rfl,rfl,Ad,(((Same.upd hu).trans (Same.upd hT)).trans (Same.upd hq1)) _ _ ea,?_,fun q hq=>?_⟩⟩⟩⟩⟩
      ·exact ax (show 1+xs.length<=6 by omega) (by decide)
      have Su:=Same.upd (o:=C1 e.1.1) hu
      have ST:=Same.upd (o:=.tup [.str x.1,.ref u]) hT
      have S1':=Same.upd (o:=.lst [.ref T]) hq1
      have Sq:=Same.upd (o:=.lst ([.ref T]++xs)) hq
      refine kk _ q [((x.1,e.1.1),.ref T)] (((Su.trans ST).trans S1').trans Sq) (((Su.trans ST).trans S1').free hq) rfl Ad fun y hy=>?_
      have:y=((x.1,e.1.1),.ref T):=by simpa using hy
      subst this
      exact⟨T,u,rfl,(S1'.trans Sq) _ _ Ad,((ST.trans S1').trans Sq) _ _ Ad⟩
     ·intro D H4 S4 fD gs eg4 eD hg
      have e4:=S4 _ _ e3
      obtain⟨x1,x2,x3⟩:=ag7 S3 hB e3 hf S4 hg
      refine⟨B,D,_,_,rfl,rfl,e4,eD,?_,⟨_,_,rfl⟩,x1,fs++gs,?_,x2,x3⟩
      ·have h1:=congrArg bv ef
       have h2:=congrArg bv eg4
       have h3:=R1 (f:=fun g=>g.2.map ((x.1,g.1) :: ·)) (gs:=es.map (·.1)) (by rw [ac];exact el) (fun g hg=>by obtain⟨e',he',rfl⟩:=List.mem_map.mp hg;rw [ac];exact (bx e' he').1) j
       rw [ac] at h1
       rw [ac,ac,u1] at h2
       rw [ac,ac]
       have:=bxe.1
       exact ax (show fs.length+gs.length<=5120 by omega) (by decide)
      ·rw [aq,ef,eg4,Ii hj2,u1];rfl
    ·rintro σ H3 ⟨⟨v6,v7,rfl⟩,S3,fs,ef,e3,hf⟩
     rw [ac,dO (by rw [ac];exact ak _)] at ef
     exact .inl (k H3 B (S1.trans S3) ⟨fs,ef,S1.free hB,e3,fun y hy=>⟨S1.free (hf y hy).2.1,(hf y hy).1,(hf y hy).2.2⟩⟩)
 ·obtain⟨p,l,c,m,i,x,ws,sw,rules,rfl,hP,hw,hm,hl,ln,l5,hi,hin,hu,k⟩:=h
  refine⟨(show 0<=sizeLine by decide),fun D hD=>?_⟩
  have SD:=Same.upd (o:=.lst []) hD
  have eD:upd H D (.lst []) D=some (.lst []):=Ad
  show Ah _ _ _ [some (.ref p),some (.int (c:Int)),some (.int (m:Int)),some (.ref l),some (.ref D),none,none,none] _
  generalize upd H D (.lst [])=H1 at SD eD ⊢
  obtain⟨dx,d,la,nn,s,kx,bb,h⟩:=id hP
  refine⟨p,dx,_,⟨t.c_zbg,ax7 K t⟩,rfl,.head _,SD _ _ h.ins.2,rfl,⟨aC rfl,aC rfl⟩,_,_,.inl (SqL.of (SD _ _ hl)),Ar (j:=0) rfl,p,i,x,sw,rules,rfl,hP.mono (Kp.same SD),hw,hi,fun H2 r S2 ⟨Ts,er,et,tw⟩=>?_⟩
  rw [ac] at et
  have x4:=(hw.sets x (af hi)).2.2
  have eD2:=S2 _ _ eD
  have S02:=SD.trans S2
  have nr:r≠D:=fun q=>by rw [q,eD2] at er;have:=aE er;injection this with this;have:=congrArg bv this;rw [ac,et] at this;have:=(hw.sets x (af hi)).2.1;simp at *;omega
  refine .inl ⟨⟨_,SqL.of er⟩,?_⟩
  refine A5 (As (Ts.map V.ref)) (fun j σ H'=>(∃ v5 v6 v7,σ=[some (.ref p),some (.int (c:Int)),some (.int (m:Int)),some (.ref l),some (.ref D),v5,v6,v7])/\(∀ a o,¬ (H2 a=none\/a=D)->H2 a=some o->H' a=some o) /\ ∃ es,GrE .tup (fun a=>H2 a=none\/a=D) H' D es/\es.map (·.1)=grF (Af sw) i (bxF sw c ws) m (x.2.take j))
   ⟨⟨_,_,_,rfl⟩,fun a o _ e=>e,[],aj1 (.inr rfl) eD2,rfl⟩ (fun j σ H' _ q=>SqL.of (q.2.1 r _ (fun z=>z.elim (fun z=>by rw [er] at z;cases z) nr) er)) ?_ ?_
  ·rintro j v σ H3 hv ⟨⟨v5,v6,v7,rfl⟩,F3,es,G,eg⟩
   obtain⟨T,hT,rfl⟩:=Ao hv
   have hz:x.2[j]? = some (x.2[j]'(by rw [<- et];exact An hT)):=ah _
   generalize x.2[j]'(by rw [<- et];exact An hT)=z at hz
   have tT:=tw j (.str z) (.int (Cl (Af sw) i z)) T (by rw [ai,hz];rfl) hT
   have up:∀ {a o},H a=some o->H3 a=some o:=fun {a o} e=>F3 a o (fun q=>q.elim (fun q=>by rw [S02 _ _ e] at q;cases q) fun q=>Aj e hD q) (S02 _ _ e)
   have tT3:=F3 T _ (fun q=>q.elim (fun q=>by rw [tT] at q;cases q) fun q=>by rw [q,eD2] at tT;cases tT) tT
   have st:grF (Af sw) i (bxF sw c ws) m (x.2.take (j+1))=En (Af sw) i (bxF sw c ws) m (grF (Af sw) i (bxF sw c ws) m (x.2.take j)) z:=Ck hz _ _
   have ek:aS (m:Int) (Cl (Af sw) i z)=((m &&& Au (Af sw) i z:Nat):Int):=by rw [Ip,B3]
   refine⟨_,.inl (SqT.of tT3),rfl,Er (fun e=>?_) (fun e=>?_)⟩
   ·have e:¬ aS (m:Int) (Cl (Af sw) i z)=0:=by simpa using e
    rw [ek] at e
    have ne:¬ m &&& Au (Af sw) i z=0:=by omega
    refine .inl ⟨_,SqL.of (up hl),fun L hL=>?_⟩
    have SL:=Same.upd (o:=.lst (Ds ((x.1::ws).map V.str) (some 1) none)) hL
    have eL:upd H3 L (.lst (Ds ((x.1::ws).map V.str) (some 1) none)) L=some (Bi ws):=by
     rw [Ad,show (1:Int)=((1:Nat):Int) from rfl,Eu];rfl
    generalize upd H3 L (.lst (Ds ((x.1::ws).map V.str) (some 1) none))=H4 at SL eL ⊢
    refine⟨p,L,c,m &&& Au (Af sw) i z,ws,sw,rules,?_,hP.mono (fun a o q=>⟨trivial,SL _ _ (up q.2)⟩),hw,Eo hm,eL,by omega,by omega,hin,Mo hw hi hu (af hz),fun H5 b S5 B5=>?_⟩
    ·show [V.ref p,.int (c:Int),.int (aS (m:Int) (Cl (Af sw) i z)),.ref L]=_
     rw [ek]
    have G5:=(G.up SL).up S5
    have fr:∀ a,H3 a=none->(H2 a=none\/a=D):=fun a e=>cN fun q=>by
     cases h2:H2 a with
     | none=>exact q (.inl h2)
     | some o=>rw [F3 a o q h2] at e;cases e
    have GI:=Xn (Af sw) i m (bxF sw c ws) (x.2.take j)
    rw [<- eg] at GI
    have lt:(x.2.take j).length<=4:=by rw [aF];omega
    refine⟨D,b,z,_,es,_,rfl,G5,B5.keep (KpB.weak fun a o q _=>⟨fr a (SL.free q),fun q2=>?_⟩),fun a e=>fr a ((SL.trans S5).free e),?_,fun e he=>?_,fun H6 es' eg' G6 F6=>?_⟩
    ·obtain⟨xs,hx⟩:=(G.up SL).has q2
     rw [show H4 a=none from q] at hx
     cases hx
    ·have:=GI.len;rw [ac] at this;omega
    ·exact ax (GI.one e.1 (List.mem_map.mpr ⟨e,he,rfl⟩)).1 lt
    refine⟨⟨_,_,_,rfl⟩,fun a o n e=>F6 a o n ((SL.trans S5) _ _ (F3 a o n e)),es',G6,?_⟩
    rw [eg',st,eg]
    unfold En
    rw [if_neg ne]
   ·have e:aS (m:Int) (Cl (Af sw) i z)=0:=by simpa using e
    rw [ek] at e
    refine⟨⟨_,_,_,rfl⟩,F3,es,G,?_⟩
    rw [st,eg]
    unfold En
    rw [if_pos (by omega)]
  ·rintro σ H3 ⟨⟨v5,v6,v7,rfl⟩,F3,es,G,eg⟩
   rw [ac,et,aL] at eg
   refine .inl (k H3 D es (fun a o e=>F3 a o (fun q=>q.elim (fun q=>by rw [S02 _ _ e] at q;cases q) fun q=>Aj e hD q) (S02 _ _ e)) (G.weak fun a o q _=>?_) eg)
   exact q.elim (fun q=>S02.free q) fun q=>q▸hD
theorem bh4 {f:Addr} {fd:aB} (Z:A0 K t) (F:FunD K "boxes_of" "boxes_of" Lq f fd .none) (T:Tab P w K mg base 15 (Xl K t) bl):FnOk P w K mg base CX0 16 f fd Qy (Me K t):=by
 refine F.okW0 bs1 bv2 T (bp6 K t) (fun vs H Q E h=>?_) (fun vs H Q E h=>?_)
 ·obtain⟨p,c,w,sw,rules,rfl,_⟩:=h;rfl
 ·obtain⟨p,c,w,sw,rules,rfl,hP,hw,hc,hww,k⟩:=h
  obtain⟨u1,u2,u3⟩:=Pa hw c w
  have l5:=hw.2.1
  exact⟨p,c,w,sw,rules,rfl,hP,hw,hc,hww,fun H1 l S1 fl el=>⟨p,l,c,w,_,sw,rules,rfl,hP.mono (Kp.same S1),hw,hww,el,by omega,by omega,u3,u1,fun H2 r S2 B2=>k H2 r (S1.trans S2) (B2.fr S1)⟩⟩
theorem Pm {ps:List Str} {z:Str} {n m:Nat} (h:∀ p∈ps,p.length<=n) (hz:z.length=1) (hm:ps.length<=m):(gF z ps).length<=m * n+m/\(ps.map (·.length)).sum+ps.length * z.length<=m * n+m:=by
 have h1:=Ww (f:=fun p:Str=>p.length) h
 have h2:ps.length * n<=m * n:=gx _ hm
 have e:(ps.map (·.length)).sum+ps.length * z.length<=m * n+m:=by rw [hz,Nat.mul_one];omega
 refine⟨ax ?_ e,e⟩
 show (Builtin.Str.glued z ps).length<=_
 rw [jz]
 exact StrLaws.join_length_le z ps
theorem c1:(("," : Str)).length=1:=by decide +kernel
theorem c2:(("=" : Str)).length=1:=by decide +kernel
theorem c3:(("&" : Str)).length=1:=by decide +kernel
theorem c4:(("|" : Str)).length=1:=by decide +kernel
theorem Mi {e:Str×List Str} (h:okE e):(gF "," e.2).length<=36/\(E2 e).length<=45/\(e.2.map (·.length)).sum+e.2.length * (("," : Str)).length<=16777216:=by
 have:=Pm (ps:=e.2) (z := ",") (n:=8) (m:=4) h.2.2 c1 h.2.1
 refine⟨this.1,?_,ax this.2 (by decide)⟩
 unfold E2
 rw [Dx,Dx,c2]
 have:=h.1
 omega
theorem Ot {b:Sw} (h:Sv b):(Ib b).length<=230/\((b.map E2).map (·.length)).sum+(b.map E2).length * (("&" : Str)).length<=16777216:=by
 have:=Pm (ps:=b.map E2) (z := "&") (n:=45) (m:=5) (fun p hp=>by obtain⟨e,he,rfl⟩:=List.mem_map.mp hp;exact (Mi (h.2 e he)).2.1) c3 (by rw [ac];exact h.1)
 exact⟨this.1,ax this.2 (by decide)⟩
theorem Rr {bs:List Sw} (l:bs.length<=1024) (h:∀ b∈bs,Sv b):((bs.map Ib).map (·.length)).sum+(bs.map Ib).length * (("|" : Str)).length<=16777216:=
 ax (Pm (ps:=bs.map Ib) (z := "|") (n:=230) (m:=1024) (fun p hp=>by obtain⟨e,he,rfl⟩:=List.mem_map.mp hp;exact (Ot (h e he)).1) c4 (by rw [ac];exact l)).2 (by decide)
theorem bh3 {f:Addr} {fd:aB} (Z:A0 K t) (F:FunD K "tell_term" "tell_term" Lp f fd .none) (T:Tab P w K mg base 0 (Bk K t) bl):FnOk P w K mg base CX0 1 f fd Qx (Wq K t):=by
 refine F.okW0 bs0 bv1 T (bp5 K t) (fun vs H Q E h=>?_) (fun vs H Q E h=>?_)
 ·obtain⟨u,e,rfl,_⟩:=h;rfl
 ·obtain⟨u,e,rfl,hu,ho,k⟩:=h
  obtain⟨l1,l2,l3⟩:=Mi ho
  have l0:=ho.1
  have big:(100:Nat)<=sizeLine:=by decide
  refine⟨rfl,_,u,e.2,rfl,rfl,.inr (SqT.of hu),l3,?_⟩
  refine⟨by omega,?_,?_,by omega,?_,?_,?_⟩
  ·rw [eX];omega
  ·rw [eX,Dx,c2];omega
  ·rw [eX,Dx,Dx,c2];omega
  ·rw [eX,Dx,Dx,c2];omega
  ·show Q (.str (((a_++e.1) ++ "=")++gF "," e.2)) H
   rw [eX]
   exact k
theorem Gj {E:EK} {H:Hp} {r:Addr} {g:DG} {te:DE} {σ0:St} {α:Type} {es:List α} {v:α->V} {f:α->Str} {I:St->Prop} {R:Hp->Addr->Prop} (hr:H r=some (.lst (es.map v))) (few:es.length<=5000) (h0:I σ0)
  (ht:∀ e∈es,∀ (H1:Hp) (σ:St) (Q:St->VK),Same H H1->I σ->(∀ σ2 H2,Same H1 H2->I σ2->Q σ2 (.str (f e)) H2)->g (v e) σ H1 fun σ3 H3=>te σ3 H3 (Q σ3) E)
  (k:∀ D H',Same H H'->H D=none->H' D=some (Bi (es.map f))->R H' D) :
  ∀ D,H D=none->E3 (Itl K r) g Bw te D (fun H'=>R H' D) σ0 (upd H D (.lst [])) E:=by
 intro D hD
 refine Cs (As (es.map v)) (fun m σ H'=>I σ/\Same H H'/\H' D=some (Bi ((es.take m).map f))) ⟨h0,Same.upd hD,Ad⟩ (fun m σ H' _ q=>q.2.1.seqL (SqL.of hr)) ?_ ?_
 ·rintro m x σ H1 hx ⟨i1,S1,eD⟩
  obtain⟨e,hm,rfl⟩:=Ao hx
  refine ht e (af hm) H1 σ _ S1 i1 fun σ2 H2 S2 i2=>⟨_,S2 _ _ eD,?_,i2,(S1.trans S2).set hD,?_⟩
  ·rw [ac,ac,aF]
   exact aD (show _<=5000 by omega) (by decide)
  ·rw [Ad,Bh hm,Io]
 ·rintro σ H1 ⟨_,S1,eD⟩
  rw [ac,aL] at eD
  exact k D H1 S1 hD eD
theorem bh9 {f:Addr} {fd:aB} (Z:A0 K t) (F:FunD K "tell_box" "tell_box" Lw f fd .none) (T:Tab P w K mg base 1 (D9 K t) bl):FnOk P w K mg base CX0 2 f fd Q5 (Wt K t):=by
 refine F.okW0 bs6 bv7 T (bq1 K t) (fun vs H Q E h=>?_) (fun vs H Q E h=>?_)
 ·obtain⟨a,b,rfl,_⟩:=h;rfl
 ·obtain⟨a,b,rfl,⟨es,e1,e2,e3⟩,ho,k⟩:=h
  have ln:es.length=b.length:=by rw [<- e1,ac]
  refine⟨rfl,.inl ⟨⟨_,SqL.of e2⟩,?_⟩⟩
  refine Gj (f:=fun e=>E2 e.1) (I:=fun σ=>∃ a b,σ=[a,b]) e2 (by have:=ho.1;omega) ⟨_,_,rfl⟩ (fun e he H1 σ Q1 S1 i1 kk=>?_) fun D H1 S1 fD eD=>?_
  ·obtain⟨a,b,rfl⟩:=i1
   obtain⟨T,u,ev,h1,h2⟩:=e3 e he
   rw [ev]
   exact⟨_,.inl (SqT.of (S1 _ _ h1)),rfl,u,e.1,rfl,S1 _ _ h2,ho.2 _ (by rw [<- e1];exact List.mem_map.mpr ⟨e,he,rfl⟩),kk _ _ (Same.refl _) ⟨_,_,rfl⟩⟩
  ·have em:es.map (fun e=>E2 e.1)=b.map E2:=by rw [<- e1,bd];rfl
   rw [em] at eD
   exact⟨_,D,_,rfl,rfl,.inl (SqL.of eD),(Ot ho).2,k _ S1⟩
theorem ai4 {H:Hp} {ok:Addr->Prop} {l:Addr} {bs:List Sw} {Q:VK} (hb:BxAt ok H l bs) (k:∀ H',Same H H'->Q (.bl (decide (bs=[]))) H'):∀ p,H p=none->Ax K false (.ref l) (.ref p) (upd H p (.lst [])) Q:=
 fun p hp=>M7 (hb.up (Same.upd hp)) (Ug hp) (k _ (Same.upd hp))
theorem ai5 {H:Hp} {ok:Addr->Prop} {l:Addr} {bs:List Sw} {Q:VK} (hb:BxAt ok H l bs) (k:∀ H',Same H H'->Q (.bl (decide (bs=[[]]))) H'):∀ p,H p=none->1<=sizeLine /\ ∀ q,upd H p (.lst []) q=none->Ax K false (.ref l) (.ref q) (upd (upd H p (.lst [])) q (.lst [.ref p])) Q:=
 fun p hp=>⟨by decide,fun q hq=>M7 (hb.up ((Same.upd hp).trans (Same.upd hq))) (Uh hp hq) (k _ ((Same.upd hp).trans (Same.upd hq)))⟩
theorem Nf {bs:List Sw} (h1:¬ bs=[]) (h2:¬ bs=[[]]):Xg bs=gF "|" (bs.map Ib):=by unfold Xg;rw [if_neg h1,if_neg h2]
theorem ag8 {sw:Sw} (hw:okSw sw) (c w:Nat):(bxF sw c (Gm sw c w) w).length<=1024 /\ ∀ b∈bxF sw c (Gm sw c w) w,Sv b /\ ∀ e∈b,e.1∈sw.map (·.1):=by
 obtain⟨_,u2,u3⟩:=Pa hw c w
 have:=Xd hw (c:=c) w u3
 have l5:=hw.2.1
 exact⟨be8 this.1 (by omega),fun b hb=>⟨⟨ax (this.2 b hb).1 (by omega),fun e he=>((this.2 b hb).2 e he).2⟩,fun e he=>((this.2 b hb).2 e he).1⟩⟩
theorem bh2 {f:Addr} {fd:aB} (Z:A0 K t) (F:FunD K "tell_cond" "tell_cond" Lo f fd .none) (T:Tab P w K mg base 16 (Xm K t) bl):FnOk P w K mg base CX0 17 f fd Qw (Wp K t):=by
 refine F.okW0 br9 bv0 T (bp4 K t) (fun vs H Q E h=>?_) (fun vs H Q E h=>?_)
 ·obtain⟨p,c,w,sw,rules,rfl,_⟩:=h;rfl
 ·obtain⟨p,c,w,sw,rules,rfl,hP,hw,hc,hww,k⟩:=h
  obtain⟨b1,b2⟩:=ag8 hw c w
  refine⟨p,c,w,sw,rules,rfl,hP,hw,hc,hww,fun H1 l S1 B1=>?_⟩
  generalize bxF sw c (Gm sw c w) w=bs at k b1 b2 B1
  refine⟨(show 0<=sizeLine by decide),ai4 B1 fun H2 S2=>Er (fun e=>?_) (fun e=>?_)⟩
  ·have e:bs=[]:=by simpa using e
   subst e
   exact k H2 (S1.trans S2)
  have n1:¬ bs=[]:=by simpa using e
  refine⟨(show 0<=sizeLine by decide),ai5 (B1.up S2) fun H3 S3=>Er (fun e=>?_) (fun e=>?_)⟩
  ·have e:bs=[[]]:=by simpa using e
   subst e
   exact k H3 ((S1.trans S2).trans S3)
  have n2:¬ bs=[[]]:=by simpa using e
  rw [Nf n1 n2] at k
  obtain⟨es,e1,_,e2,e3⟩:=B1.up (S2.trans S3)
  have ln:es.length=bs.length:=by rw [<- e1,ac]
  refine⟨rfl,.inl ⟨⟨_,SqL.of e2⟩,?_⟩⟩
  refine Gj (f:=fun e=>Ib e.1) (I:=fun σ=>∃ a,σ=[a]) e2 (by omega) ⟨_,rfl⟩ (fun e he H4 σ Q1 S4 i4 kk=>?_) fun D H4 S4 fD eD=>?_
  ·obtain⟨a,rfl⟩:=i4
   exact⟨e.2,e.1,rfl,(e3 e he).2.2.keep (fun xs q=>S4 _ _ q) (fun a xs q=>S4 _ _ q),(b2 _ (by rw [<- e1];exact List.mem_map.mpr ⟨e,he,rfl⟩)).1,fun H5 S5=>kk _ _ S5 ⟨_,rfl⟩⟩
  ·have em:es.map (fun e=>Ib e.1)=bs.map Ib:=by rw [<- e1,bd];rfl
   rw [em] at eD
   exact⟨_,D,_,rfl,rfl,.inl (SqL.of eD),Rr b1 fun b hb=>(b2 b hb).1,k _ (((S1.trans S2).trans S3).trans S4)⟩
theorem bh0 {f:Addr} {fd:aB} (Z:A0 K t) (F:FunD K "_law_shown" "_law_shown" Lm f fd .none) (T:Tab P w K mg base 0 (Bk K t) bl):FnOk P w K mg base CX0 1 f fd Qu (Wn K t):=by
 refine F.okW0 br7 bu8 T (bp2 K t) (fun vs H Q E h=>?_) (fun vs H Q E h=>?_)
 ·obtain⟨l,bs,rfl,_⟩:=h;rfl
 ·obtain⟨l,bs,rfl,B,b1,b2,k⟩:=h
  refine⟨(show 0<=sizeLine by decide),ai4 B fun H2 S2=>Er (fun e=>?_) (fun e=>?_)⟩
  ·have e:bs=[]:=by simpa using e
   subst e
   exact k H2 S2
  have n1:¬ bs=[]:=by simpa using e
  refine⟨(show 0<=sizeLine by decide),ai5 (B.up S2) fun H3 S3=>Er (fun e=>?_) (fun e=>?_)⟩
  ·have e:bs=[[]]:=by simpa using e
   subst e
   exact k H3 (S2.trans S3)
  have n2:¬ bs=[[]]:=by simpa using e
  rw [Nf n1 n2] at k
  obtain⟨es,e1,_,e2,e3⟩:=B.up (S2.trans S3)
  have ln:es.length=bs.length:=by rw [<- e1,ac]
  refine⟨rfl,.inl ⟨⟨_,SqL.of e2⟩,?_⟩⟩
  refine Gj (f:=fun e=>Ib e.1) (I:=fun σ=>∃ a,σ=[a]) e2 (by omega) ⟨_,rfl⟩ (fun e he H4 σ Q1 S4 i4 kk=>?_) fun D H4 S4 fD eD=>?_
  ·obtain⟨a,rfl⟩:=i4
   have ho:=b2 e.1 (by rw [<- e1];exact List.mem_map.mpr ⟨e,he,rfl⟩)
   obtain⟨us,u1,u2,u3⟩:=(e3 e he).2.2.keep (fun xs q=>S4 _ _ q) (fun a xs q=>S4 _ _ q)
   have lu:us.length=e.1.length:=by rw [<- u1,ac]
   refine⟨rfl,.inl ⟨⟨_,SqL.of u2⟩,?_⟩⟩
   refine Gj (f:=fun e=>E2 e.1) (I:=fun σ=>∃ a b,σ=[a,b]) u2 (by have:=ho.1;omega) ⟨_,_,rfl⟩ (fun y hy H5 σ Q2 S5 i5 kk2=>?_) fun D H5 S5 fD eD=>?_
   ·obtain⟨a,b,rfl⟩:=i5
    obtain⟨T,u,ev,h1,h2⟩:=u3 y hy
    have hy:=ho.2 y.1 (by rw [<- u1];exact List.mem_map.mpr ⟨y,hy,rfl⟩)
    obtain⟨l1,l2,l3⟩:=Mi hy
    have l0:=hy.1
    have big:(100:Nat)<=sizeLine:=by decide
    rw [ev]
    refine⟨_,.inl (SqT.of (S5 _ _ h1)),rfl,?_,rfl,_,u,y.1.2,rfl,rfl,.inr (SqT.of (S5 _ _ h2)),l3,?_,kk2 _ _ (Same.refl _) ⟨_,_,rfl⟩⟩
    ·rw [c2];omega
    ·rw [Dx,c2];omega
   ·have em:us.map (fun e=>E2 e.1)=e.1.map E2:=by rw [<- u1,bd];rfl
    rw [em] at eD
    exact⟨_,D,_,rfl,rfl,.inl (SqL.of eD),(Ot ho).2,kk _ _ S5 ⟨_,rfl⟩⟩
  ·have em:es.map (fun e=>Ib e.1)=bs.map Ib:=by rw [<- e1,bd];rfl
   rw [em] at eD
   exact⟨_,D,_,rfl,rfl,.inl (SqL.of eD),Rr b1 b2,k _ ((S2.trans S3).trans S4)⟩
theorem b28 {f:Addr} {fd:aB} (Z:A0 K t) (F:FunD K "_law_formed" "_law_formed" Wb f fd .none) (T:Tab P w K mg base 0 (Bk K t) bl):FnOk P w K mg base CX0 1 f fd af5 (as0 K t):=by
 refine F.okW0 ca4 cg6 T (b78 K t) (fun vs H Q E h=>?_) (fun vs H Q E h=>?_)
 ·obtain⟨l,bs,rfl,_⟩:=h;rfl
 ·obtain⟨l,bs,rfl,⟨es,e1,_,e2,e3⟩,k⟩:=h
  refine⟨_,true,.sqL rfl (SqL.of e2) rfl,rfl,.inl ⟨⟨_,SqL.of e2⟩,?_⟩⟩
  refine A5 (As (es.map fun e=>V.ref e.2)) (fun i σ H'=>(∃ v1 v2,σ=[some (.ref l),v1,v2])/\H'=H) ⟨⟨_,_,rfl⟩,rfl⟩ (fun i σ H' _ q=>by rw [q.2];exact SqL.of e2) ?_ ?_
  ·rintro i x σ H1 hx ⟨⟨v1,v2,rfl⟩,rfl⟩
   obtain⟨e,hi,rfl⟩:=Ao hx
   obtain⟨us,u1,u2,u3⟩:=(e3 e (af hi)).2.2
   refine⟨_,true,.sqL rfl (SqL.of u2) rfl,rfl,.inl ⟨⟨_,SqL.of u2⟩,?_⟩⟩
   refine A5 (As (us.map (·.2))) (fun i σ H'=>(∃ v2,σ=[some (.ref l),some (.ref e.2),v2])/\H'=H1) ⟨⟨_,rfl⟩,rfl⟩ (fun i σ H' _ q=>by rw [q.2];exact SqL.of u2) ?_ ?_
   ·rintro j y σ H2 hy ⟨⟨v2,rfl⟩,rfl⟩
    obtain⟨y,hj,rfl⟩:=Ao hy
    obtain⟨T,u,ev,h1,h2⟩:=u3 y (af hj)
    rw [ev]
    refine⟨_,true,.sqT rfl (SqT.of h1) rfl,rfl,.inl ⟨_,.inr (SqT.of h1),_,_,.inr (SqT.of h1),rfl,rfl,_,_,.inr (SqT.of h1),rfl,_,true,.sqT rfl (SqT.of h2) rfl,rfl,⟨_,rfl⟩,rfl⟩⟩
   ·rintro σ H2 ⟨⟨v2,rfl⟩,rfl⟩
    exact .inl ⟨⟨_,_,rfl⟩,rfl⟩
  ·rintro σ H1 ⟨⟨v1,v2,rfl⟩,rfl⟩
   exact .inl k
theorem inS {z:Str} {zs:List Str}:inV (.str z) (zs.map V.str)=decide (z∈zs):=by
 induction zs with
 | nil=>rfl
 | cons y zs ih=>
  show ((y==z)||inV (.str z) (zs.map V.str))=_
  rw [ih]
  by_cases e:y=z
  ·subst e;simp
  ·have e2:¬ z=y:=fun c=>e c.symm
   simp [e,e2]
theorem Si {sw:Sw} (hw:okSw sw) {p:Nat} {x:Str×List Str} (hp:sw[p]? = some x) {y:Str} (ey:y=x.1):p<((sw.map (·.1)).map V.str).length/\eqV (((sw.map (·.1)).map V.str).getD p .non) (.str y)=true /\ ∀ m,m<p->eqV (((sw.map (·.1)).map V.str).getD m .non) (.str y)=false:=by
 subst ey
 have lp:=An hp
 refine⟨by rw [ac,ac];exact lp,?_,fun m hm=>?_⟩
 ·rw [au,ai,ai,hp]
  exact beq_self_eq_true x.1
 ·have hm2:sw[m]? = some (sw[m]'(by omega)):=ah _
  rw [au,ai,ai,hm2]
  refine beq_eq_false_iff_ne.mpr fun e=>?_
  have:=bg4 hw.2.2.1 (show m<sw.length by omega) lp (by rw [N0 hm2,N0 hp];exact e)
  omega
theorem bh1 {f:Addr} {fd:aB} (Z:A0 K t) (F:FunD K "_law_times" "_law_times" Ln f fd .none) (T:Tab P w K mg base 0 (Bk K t) bl):FnOk P w K mg base CX0 1 f fd Qv (Wo K t):=by
 refine F.okW0 br8 bu9 T (bp3 K t) (fun vs H Q E h=>?_) (fun vs H Q E h=>?_)
 ·obtain⟨s,r,l,i,d,bs,sw,rfl,_⟩:=h;rfl
 ·obtain⟨s,r,l,i,d,bs,sw,rfl,⟨ds,ed,⟨_,ol⟩,hd⟩,hw,hdi,hr,⟨es,e1,_,e2,e3⟩,hin,k⟩:=h
  refine .inl ⟨⟨_,SqL.of ol⟩,?_⟩
  refine Tq hw ed ol (fun x hx=>(hd x hx).1.2) fun D H2 S2 fD eD=>?_
  have hi:i<(Af sw).length:=by rw [Eh,ac];exact An hdi
  refine .inl ⟨⟨_,SqL.of (S2 _ _ e2)⟩,?_⟩
  refine A5 (As (es.map fun e=>V.ref e.2)) (fun j σ H'=>(∃ v3 v4 v7 v8 v9,σ=[some (.ref s),some (.ref r),some (.ref l),v3,v4,some (.ref D),some (.int (((bs.take j).countP (Cq sw i):Nat):Int)),v7,v8,v9])/\H'=H2) ⟨⟨_,_,_,_,_,rfl⟩,rfl⟩ (fun j σ H' _ q=>by rw [q.2];exact SqL.of (S2 _ _ e2)) ?_ ?_
  ·rintro j x σ H1 hx ⟨⟨v3,v4,v7,v8,v9,rfl⟩,rfl⟩
   obtain⟨e,hj,rfl⟩:=Ao hx
   have hj2:bs[j]? = some e.1:=by rw [<- e1,ai,hj];rfl
   obtain⟨us,u1,u2,u3⟩:=(e3 e (af hj)).2.2
   refine .inl ⟨⟨_,SqL.of (S2 _ _ u2)⟩,?_⟩
   refine A5 (As (us.map (·.2))) (fun m σ H'=>(∃ v3 v4 v9,σ=[some (.ref s),some (.ref r),some (.ref l),v3,v4,some (.ref D),some (.int (((bs.take j).countP (Cq sw i):Nat):Int)),some (.ref e.2),some (.bl (Cq sw i (e.1.take m))),v9])/\H'=H1) ⟨⟨_,_,_,rfl⟩,rfl⟩ (fun m σ H' _ q=>by rw [q.2];exact SqL.of (S2 _ _ u2)) ?_ ?_
   ·rintro m y σ H3 hy ⟨⟨v3,v4,v9,rfl⟩,rfl⟩
    obtain⟨y,hm,rfl⟩:=Ao hy
    have hm2:e.1[m]? = some y.1:=by rw [<- u1,ai,hm];rfl
    obtain⟨T,u,ev,h1,h2⟩:=u3 y (af hm)
    obtain⟨p,x,hp,ex⟩:=Hm (hin e.1 (af hj2) y.1 (af hm2))
    have st:Cq sw i (e.1.take (m+1))=(Cq sw i (e.1.take m)&&decide ((Cd sw i p).getD a_∈y.1.2)):=by
     unfold Cq
     rw [bG,hm2,bW,fm,bt,List.all_nil,gA,ex,C7 hp hw.2.2.1]
    rw [ev]
    refine⟨_,.inl (SqT.of (S2 _ _ h1)),rfl,.inl ⟨rfl,_,SqL.of eD⟩,?_⟩
    obtain⟨n1,n2,n3⟩:=Si hw hp ex
    refine⟨D,_,_,rfl,rfl,eD,rfl,Gu _,p,n1,n2,n3,?_⟩
    show if Cq sw i (e.1.take m)=true then _ else _
    cases eb:Cq sw i (e.1.take m) with
    | false=>
     rw [eb,hV] at st
     exact Dv ⟨⟨_,_,_,by rw [st];rfl⟩,rfl⟩
    | true=>
     rw [eb,cC] at st
     obtain⟨dd,hdd,ex2⟩:∃ dd,ds[p]? = some dd/\dd.1.1=x:=by
      rw [<- ed,ai] at hp
      cases q:ds[p]? with
      | none=>rw [q] at hp;cases hp
      | some dd=>rw [q] at hp;exact⟨dd,rfl,aE hp⟩
     obtain⟨⟨_,t1⟩,_,t2⟩:=hd dd (af hdd)
     rw [ex2] at t1 t2
     obtain⟨jj,hjj,lj⟩:=Ko (af hdi) hp
     have c1:Cd sw i p=some (x.2.getD jj a_):=ap9 hdi hp hjj
     have hz:x.2[jj]? = some (x.2.getD jj a_):=by rw [au,ah lj];rfl
     rw [c1,Option.getD_some] at st
     refine Eb ⟨_,.ref dd.2,.inl (SqL.of (S2 _ _ ol)),Ar (j:=p) (by rw [ai,hdd];rfl),_,.ref dd.1.2,.inr (SqT.of (S2 _ _ t1)),Ar (j:=1) rfl,_,.int (jj:Int),.inl (SqL.of (S2 _ _ hr)),Ar (j:=p) (by rw [ai,hjj];rfl),_,.str (x.2.getD jj a_),.inl (SqL.of (S2 _ _ t2)),Ar (j:=jj) (by rw [ai,hz];rfl),.inl ⟨u,_,rfl,.inr (SqT.of (S2 _ _ h2)),rfl,Gu _,?_⟩⟩
     rw [inS]
     exact⟨⟨_,_,_,by rw [st];rfl⟩,rfl⟩
   ·rintro σ H3 ⟨⟨v3,v4,v9,rfl⟩,rfl⟩
    have lu:us.length=e.1.length:=by rw [<- u1,ac]
    rw [ac,lu,aL]
    have:(((bs.take (j+1)).countP (Cq sw i):Nat):Int)=(((bs.take j).countP (Cq sw i):Nat):Int)+(if Cq sw i e.1=true then 1 else 0):=by
     rw [bG,hj2,bW,List.countP_append,List.countP_cons,List.countP_nil]
     split <;> omega
    exact .inl ⟨⟨v3,v4,some (.ref e.2),some (.bl (Cq sw i e.1)),v9,by rw [this];rfl⟩,rfl⟩
  ·rintro σ H1 ⟨⟨v3,v4,v7,v8,v9,rfl⟩,rfl⟩
   have le:es.length=bs.length:=by rw [<- e1,ac]
   rw [ac,le,aL]
   exact .inl (k _ S2)
noncomputable def ay9 (n:Nat):Dt:=.at_ (.int (n:Int))
theorem ah8 (a b:Nat):deq (ay9 a) (ay9 b)=decide (a=b):=by
 unfold ay9 deq
 show ((a:Int)==(b:Int))=_
 rw [cQ]
 exact decide_eq_decide.mpr (by omega)
theorem a50 {H:Hp} {a:Addr} {as:List Nat} (h:H a=some (nO as)):At K H (.lst (as.map ay9)) (.ref a):=Ue (SqL.of h) (Jz fun n _=>au8 rfl)
theorem al9 {H:Hp} {neg:Bool} {a b:Addr} {as bs:List Nat} {Q:VK} (ha:H a=some (nO as)) (hb:H b=some (nO bs)) (q:Q (.bl (if neg then !decide (as=bs) else decide (as=bs))) H):Ax K neg (.ref a) (.ref b) H Q:=
 .inr (.inl ⟨_,_,a50 ha,a50 hb,ax (eV (Fo (n:=0) (fun _=>ak _) _)) (by decide),by unfold deq;rw [Fq ah8];exact q⟩)
theorem Ih {E:EK} {H:Hp} {J:It} {its:List V} {okk:Hp->Prop} {ns:List Nat} {tc:DT} {rest:St} {p:Nat->Bool} {R:Hp->Addr->Prop} (Y:D5 J its okk) (hi:∀ (i:Nat) x,its[i]? = some x -> ∃ n,ns[i]? = some n/\x=.int (n:Int)) (ln:its.length=ns.length) (hok:∀ H1,Same H H1->okk H1) (few:ns.length<=256)
  (ht:∀ n∈ns,∀ (H1:Hp) (Q1:Bool->Hp->Prop),Same H H1->Q1 (p n) H1->tc (some (.int (n:Int))::rest) H1 Q1 E) (k:∀ D H',Same H H'->H D=none->H' D=some (nO (ns.filter p))->R H' D) :
  ∀ D,H D=none->E3 J (gdN 0) tc (Aa 0) D (fun H'=>R H' D) (none::rest) (upd H D (.lst [])) E:=by
 intro D hD
 refine Cs Y (fun i σ H'=>(∃ v,σ=v::rest)/\Same H H'/\H' D=some (nO ((ns.take i).filter p))) ⟨⟨_,rfl⟩,Same.upd hD,Ad⟩ (fun i σ H' _ q=>hok _ q.2.1) ?_ ?_
 ·rintro i x σ H1 hx ⟨⟨v,rfl⟩,S1,eD⟩
  obtain⟨n,hn,rfl⟩:=hi i x hx
  have st:(ns.take (i+1)).filter p=(ns.take i).filter p++(if p n=true then [n] else []):=by rw [bG,hn,bW,fv,iM,List.filter_nil]
  refine ht n (af hn) H1 _ S1 ?_
  cases e:p n with
  | true=>
   refine Eb ⟨_,eD,?_,⟨_,rfl⟩,S1.set hD,?_⟩
   ·rw [ac]
    have:=cR p (ns.take i)
    rw [aF] at this
    exact aD (show _<=256 by omega) (by decide)
   ·rw [Ad,st,if_pos e]
    unfold nO
    rw [aq]
    rfl
  | false=>exact Dv ⟨⟨_,rfl⟩,S1,by rw [st,if_neg (by rw [e];exact am),bQ];exact eD⟩
 ·rintro σ H1 ⟨_,S1,eD⟩
  rw [ln,aL] at eD
  exact k D H1 S1 hD eD
theorem So (n m:Nat):(Cm n m).length<=n:=by
 have:=cR (fun i=>m.testBit i) (aw n)
 rwa [bh] at this
theorem Xv {n m i:Nat} (h:i∈Cm n m):i<n:=List.mem_range.mp (List.mem_filter.mp h).1
theorem bg9 {f:Addr} {fd:aB} (Z:A0 K t) (F:FunD K "_law_parts" "_law_parts" Ll f fd .none) (T:Tab P w K mg base 0 (Bk K t) bl):FnOk P w K mg base CX0 1 f fd Qt (Wm K t):=by
 refine F.okW0 br6 bu7 T (bp1 K t) (fun vs H Q E h=>?_) (fun vs H Q E h=>?_)
 ·obtain⟨r,l,m,p,x,sw,rfl,_⟩:=h;rfl
 ·obtain⟨r,l,m,p,x,sw,rfl,⟨ds,ed,er,hd⟩,hw,hm,hl,hp,k⟩:=h
  have n256:=hw.len
  have x4:=(hw.sets x (af hp)).2.2
  refine⟨(show 0<=sizeLine by decide),fun D hD=>?_⟩
  have SD:=Same.upd (o:=.lst []) hD
  have eD0:upd H D (.lst []) D=some (.lst []):=Ad
  show Ah _ _ _ [some (.ref r),some (.ref l),some (.int (p:Int)),some (.int (x.2.length:Int)),some (.ref D),none,none] _
  generalize upd H D (.lst [])=H0 at SD eD0 ⊢
  refine⟨⟨by omega,by omega⟩,?_⟩
  rw [aG]
  refine A5 (Bq 0 x.2.length) (fun j σ H'=>(∃ v5 v6,σ=[some (.ref r),some (.ref l),some (.int (p:Int)),some (.int (x.2.length:Int)),some (.ref D),v5,v6])/\Same H H' /\ ∃ es:List (Nat×Addr×Addr),es.map (·.1)=(aw j).filter (fun j=>decide (m &&& Au (Af sw) p (x.2.getD j a_)≠0))/\H' D=some (.lst (es.map fun e=>.ref e.2.1)) /\
    ∀ e∈es,e.2.1≠D/\e.2.2≠D/\H e.2.2=none/\H' e.2.1=some (.tup [.int (e.1:Int),.ref e.2.2])/\H' e.2.2=some (nO (Cm (Af sw).length (m &&& Au (Af sw) p (x.2.getD e.1 a_)))))
   ⟨⟨_,_,rfl⟩,SD,[],rfl,eD0,fun e he=>by cases he⟩ (fun _ _ _ _ _=>bn) ?_ ?_
  ·rintro j v σ H1 hv ⟨⟨v5,v6,rfl⟩,S1,es,ee,eD,he⟩
   obtain⟨hj,rfl⟩:=Dh hv
   refine .inl ⟨⟨_,SqL.of (S1 _ _ hl)⟩,?_⟩
   refine Ih (p:=fun i=>decide (Cj sw i p=j)) (As _) (fun i x hx=>Ao hx) (ac _) (fun H2 S2=>(S1.trans S2).seqL (SqL.of hl)) (ax (So _ _) n256) (fun n hn H2 Q1 S2 q=>?_) fun L H2 S2 fL eL=>?_
   ·have S:=S1.trans S2
    obtain⟨d,hdn,hdm⟩:=Kq (Xv hn)
    obtain⟨e,he,rfl⟩:∃ e,ds[n]? = some e/\e.1=d:=by
     rw [<- ed,ai] at hdn
     cases q:ds[n]? with
     | none=>rw [q] at hdn;cases hdn
     | some e=>rw [q] at hdn;exact⟨e,rfl,aE hdn⟩
    obtain⟨jj,hjj,_⟩:=Ko hdm hp
    have ej:Cj sw n p=jj:=by unfold Cj;rw [hdn];show (e.1[p]?).getD 0=jj;rw [hjj];rfl
    refine⟨_,.ref e.2,.inl (SqL.of (S _ _ er)),Ar (j:=n) (by rw [ai,he];rfl),_,.int (jj:Int),.inl (SqL.of (S _ _ (hd e (af he)))),Ar (j:=p) (by rw [ai,hjj];rfl),?_⟩
    show Q1 (decide ((jj:Int)=(j:Int))) H2
    rw [ej,show decide (jj=j)=decide ((jj:Int)=(j:Int)) from decide_eq_decide.mpr (by omega)] at q
    exact q
   rw [Zt hw hp hj] at eL
   have eD2:=S2 _ _ eD
   have st:(aw (j+1)).filter (fun j=>decide (m &&& Au (Af sw) p (x.2.getD j a_)≠0))=(aw j).filter (fun j=>decide (m &&& Au (Af sw) p (x.2.getD j a_)≠0))++(if decide (m &&& Au (Af sw) p (x.2.getD j a_)≠0)=true then [j] else []):=by rw [cG,fv,iM,List.filter_nil]
   refine⟨(show 0<=sizeLine by decide),fun q hq=>al9 (bs:=[]) ((Same.upd hq) _ _ eL) Ad ?_⟩
   have Sq:=Same.upd (o:=.lst []) hq
   have S3:=S2.trans Sq
   have nL:L≠D:=(Aj eD fL).symm
   show if (!decide (Cm _ _=[]))=true then _ else _
   generalize upd H2 q (.lst [])=H3 at Sq S3 ⊢
   by_cases q0:m &&& Au (Af sw) p (x.2.getD j a_)=0
   ·rw [decide_eq_true ((Ho (Eo hm)).mpr q0)]
    refine Dv ⟨⟨_,_,rfl⟩,S1.trans S3,es,?_,S3 _ _ eD,fun e h=>?_⟩
    ·rw [st,ee,if_neg (by simpa using q0),bQ]
    ·obtain⟨a1,a2,a0,a3,a4⟩:=he e h
     exact⟨a1,a2,a0,S3 _ _ a3,S3 _ _ a4⟩
   ·rw [decide_eq_false (fun z=>q0 ((Ho (Eo hm)).mp z))]
    refine Eb ⟨.inl ⟨rfl,_,SqL.of (S3 _ _ eD)⟩,(show 2<=sizeLine by decide),fun T hT=>?_⟩
    have ST:=Same.upd (o:=.tup [.int (j:Int),.ref L]) hT
    have S4:=S3.trans ST
    refine⟨D,_,_,rfl,rfl,S4 _ _ eD,?_,⟨_,_,rfl⟩,(S1.trans S4).set hD,es++[(j,T,L)],?_,?_,fun e h=>?_⟩
    ·rw [ac]
     have h1:=congrArg bv ee
     have h2:=cR (fun j=>decide (m &&& Au (Af sw) p (x.2.getD j a_)≠0)) (aw j)
     rw [ac] at h1
     rw [bh] at h2
     exact aD (show es.length<=4 by omega) (by decide)
    ·rw [st,aq,ee,if_pos (by simpa using q0)];rfl
    ·rw [Ad,aq];rfl
    ·rcases List.mem_append.mp h with h|h
     ·obtain⟨a1,a2,a0,a3,a4⟩:=he e h
      exact⟨a1,a2,a0,Ba (S4 _ _ a3) a1,Ba (S4 _ _ a4) a2⟩
     ·have:e=(j,T,L):=by simpa using h
      subst this
      have nT:T≠D:=(Aj (S3 _ _ eD) hT).symm
      exact⟨nT,nL,S1.free fL,Ba Ad nT,Ba ((Sq.trans ST) _ _ eL) nL⟩
  ·rintro σ H1 ⟨⟨v5,v6,rfl⟩,S1,es,ee,eD,he⟩
   rw [Bc] at ee
   exact .inl (k H1 D es S1 hD ee eD fun e h=>(he e h).2.2)
noncomputable def Tp (sw:Sw) (c p m:Nat) (ws zs:List Str) (gs:Gs) (j:Nat):Gs:=Et gs (zs.getD j a_) (bxF sw c ws (m &&& Au (Af sw) p (zs.getD j a_)))
theorem giJ {sw:Sw} {c p m:Nat} {ws zs:List Str} {js:List Nat} (hz:js.length<=4) (nz:∀ j∈js,m &&& Au (Af sw) p (zs.getD j a_)≠0):GI (bxF sw c ws) (js.map fun j=>zs.getD j a_) (js.foldl (Tp sw c p m ws zs) []):=by
 have:=Xn (Af sw) p m (bxF sw c ws) (js.map fun j=>zs.getD j a_)
 have e:grF (Af sw) p (bxF sw c ws) m (js.map fun j=>zs.getD j a_)=js.foldl (Tp sw c p m ws zs) []:=by
  unfold grF
  rw [jN]
  clear hz this
  generalize ([]:Gs)=g0
  induction js generalizing g0 with
  | nil=>rfl
  | cons j js ih=>
   rw [bg,bg,ih fun i hi=>nz i (ar _ hi)]
   congr 1
   unfold En
   rw [if_neg (nz j az)]
   rfl
 rwa [e] at this
theorem a45 {gs:Gs} (nd:(gs.map (·.2)).Nodup) {i j:Nat} {g h:List Str×List Sw} (hi:gs[i]? = some g) (hj:gs[j]? = some h) (ne:j≠i):h.2≠g.2:=fun e=>
 ne ((List.getElem?_inj (l:=gs.map (·.2)) (by rw [ac];exact An hj) nd).mp (by rw [ai,ai,hi,hj];exact congrArg some e))
noncomputable def FrG (G:Addr) (H4 H':Hp):Prop:=∀ a o,¬ (H4 a=none\/a=G)->H4 a=some o->H' a=some o
theorem FrG.at_ {G:Addr} {H4 H':Hp} (F:FrG G H4 H') {a:Addr} {o:HO} (e:H4 a=some o) (n:a≠G):H' a=some o:=F a o (fun q=>q.elim (fun q=>by rw [e] at q;cases q) n) e
theorem FrG.fr {G:Addr} {H4 H':Hp} (F:FrG G H4 H') {a:Addr} (e:H' a=none):H4 a=none\/a=G:=cN fun q=>by
 cases h2:H4 a with
 | none=>exact q (.inl h2)
 | some o=>rw [F a o q h2] at e;cases e
theorem Zf (x:Str) (gs:Gs):Fu x gs=gs.flatMap fun g=>g.2.map ((if gs.length=1 then [] else [(x,g.1)]) ++ ·):=by
 unfold Fu
 split
 ·refine congrArg ji (b_ fun g _=>?_)
  exact (List.map_id' g.2).symm
 ·rfl
theorem ai6 {H0 H3:Hp} {E:EK} {Q:VK} {a0 a1 a2 a3 a4 a5 a6 a7 a8 a9 a10 a12 a13 a15:Option V} {b B A:Addr} {fs us:List (Sw×Addr)} {ys:List ((Str×List Str)×V)} (S3:Same H0 H3) (hB:H0 B=none) (e3:H3 B=some (.lst (fs.map fun y=>.ref y.2))) (hf:∀ y∈fs,y.2≠B/\H0 y.2=none/\BoxAt H3 y.2 y.1)
  (hb:H3 b=some (.lst (us.map fun y=>.ref y.2))) (hu:∀ e∈us,BoxAt H3 e.2 e.1) (few:us.length<=1024) (fl:∀ e∈us,e.1.length<=5) (hA:H3 A=some (.lst (ys.map (·.2)))) (hy:∀ y∈ys,TermAt H3 y.2 y.1) (y1:ys.length<=1) (f4:fs.length<=4096)
  (k:∀ H5 (gs:List (Sw×Addr)),Same H0 H5->gs.map (·.1)=fs.map (·.1)++(us.map (·.1)).map (ys.map (·.1) ++ ·)->H5 B=some (.lst (gs.map fun y=>.ref y.2))->(∀ y∈gs,y.2≠B/\H0 y.2=none/\BoxAt H5 y.2 y.1)->Q .non H5) :
  dMt (rMt K [⟨"list", "list.extend", D4⟩]) (Aa 14) (Ac (Bf [none,some 16] (Bd K (Aa 11)) (gdN 0) Bw (Ae (Bb K) (Aa 1) (Aa 0))) Ai) [a0,a1,a2,a3,a4,a5,a6,a7,a8,a9,a10,some (.ref b),a12,a13,some (.ref B),a15,some (.ref A)] H3 Q E:=by
 refine⟨.inl ⟨rfl,_,SqL.of e3⟩,.inl ⟨⟨_,SqL.of hb⟩,?_⟩⟩
 refine Tb (pre:=ys.map (·.1)) hb hu few fl (fun H4 a xs Q1 S4 ea la kk=>?_) fun D H4 S4 fD gs eg eD hg=>?_
 ·exact .inl ⟨A,a,_,_,rfl,rfl,S4 _ _ hA,ea,ax (show (ys.map (·.2)).length+xs.length<=6 by rw [ac];omega) (by decide),fun q hq=>kk _ q ys (Same.upd hq) hq rfl Ad fun y h=>(hy y h).keep fun a xs e=>(S4.trans (Same.upd hq)) _ _ e⟩
 ·obtain⟨x1,x2,x3⟩:=ag7 S3 hB e3 hf S4 hg
  have h2:=congrArg bv eg
  rw [ac,ac,ac] at h2
  exact⟨B,D,_,_,rfl,rfl,S4 _ _ e3,eD,ax (show (fs.map fun y=>V.ref y.2).length+(gs.map fun y=>V.ref y.2).length<=5120 by rw [ac,ac];omega) (by decide),k _ (fs++gs) x1 (by rw [aq,eg]) x2 x3⟩
theorem bg6 (Z:A0 K t) (g:DOk K mg "_law_boxes" Li t.f_zab t.d_zab Kc) (T:Tab P w K mg base 1 (D9 K t) bl):∀ n,FnOk P w K mg base CX0 (1+n+1) t.f_zab t.d_zab Kc (Hw K t n):=by
 refine X8 (Hw K t) (ba2 K t) g br3 bu4 T 40 (bo8 K t) (fun n vs H Q E h=>?_) (fun vs H Q E h=>?_) (fun n vs H Q E h=>?_)
 ·obtain⟨s,r,l,q,c,m,ps,sw,rfl,_⟩:=h;rfl
 ·obtain⟨s,r,l,q,c,m,ps,sw,_,_,_,_,_,_,_,h,_⟩:=h;exact absurd h (cy _)
 ·obtain⟨s,r,l,q,c,m,ps,sw,rfl,hS,hr,hw,hm,hl,hq,ln,l5,hp,hu,kk⟩:=h
  have n256:=hw.len
  refine .inl ⟨⟨_,SqL.of hl⟩,?_⟩
  refine Ih (p:=fun i=>c.testBit i) (As _) (fun i x hx=>Ao hx) (ac _) (fun H2 S2=>S2.seqL (SqL.of hl)) (ax (So _ _) n256) (fun n hn H2 Q1 S2 q=>?_) fun I H1 S1 fI eI=>?_
  ·refine⟨by omega,?_⟩
   show Q1 (decide (aS ((c:Int) / 2 ^ ((n:Int)).toNat) 1=1)) H2
   rw [Fl]
   exact q
  rw [am3] at eI
  refine⟨(show 0<=sizeLine by decide),fun n0 hn0=>al9 (bs:=[]) ((Same.upd hn0) _ _ eI) Ad ?_⟩
  have S2:=S1.trans (Same.upd (o:=.lst []) hn0)
  have eI2:=(Same.upd (o:=.lst []) hn0) _ _ eI
  show if decide (Cm _ _=[])=true then _ else _
  generalize upd H1 n0 (.lst [])=H2 at S2 eI2 ⊢
  refine Er (fun e=>?_) (fun e=>?_)
  ·have e:=(Ho (Eo hm)).mp (of_decide_eq_true e)
   refine⟨(show 0<=sizeLine by decide),fun q hq=>kk _ q (S2.trans (Same.upd hq)) ?_⟩
   rw [Ro e]
   exact (Ug hq).fr S2
  have n1:¬ m &&& c=0:=fun z=>e (decide_eq_true ((Ho (Eo hm)).mpr z))
  refine al9 eI2 (S2 _ _ hl) ?_
  show if decide (Cm _ _=Cm _ _)=true then _ else _
  refine Er (fun e=>?_) (fun e=>?_)
  ·have e:=(N8 hm).mp (of_decide_eq_true e)
   refine⟨(show 0<=sizeLine by decide),fun q hq=>⟨(show 1<=sizeLine by decide),fun q2 hq2=>kk _ q2 (S2.trans ((Same.upd hq).trans (Same.upd hq2))) ?_⟩⟩
   rw [Xc n1 e]
   exact (Uh hq hq2).fr S2
  have n2:¬ Cz m c=0:=fun z=>e (decide_eq_true ((N8 hm).mpr z))
  cases ps with
  | nil=>exact absurd (Mn hm hu n1) n2
  | cons p ps=>
   have lp:=hp p az
   have hx:sw[p]? = some (sw[p]'lp):=ah _
   generalize sw[p]'lp=x at hx
   have hu:Cw (Af sw).length (c &&& m) (Cz m c) (Ca sw (x.1::ps.map (nmS sw)))=false:=by rw [<- N0 hx];exact hu
   have eb:bxF sw c ((p::ps).map (nmS sw)) m=Fu x.1 (grF (Af sw) p (bxF sw c (ps.map (nmS sw))) m x.2):=by rw [aQ,N0 hx];exact Rn hw hx n1 n2
   rw [eb,aj2] at kk
   have hp':∀ p∈ps,p<sw.length:=fun p h=>hp p (ar _ h)
   have ln:ps.length+1<n+1:=ln
   have l5:ps.length+1<=5:=l5
   have x4:=(hw.sets x (af hx)).2.2
   obtain⟨ds,ed,⟨_,ol⟩,hd⟩:=id hS
   obtain⟨dd,hdd,ex⟩:∃ dd,ds[p]? = some dd/\dd.1.1=x:=by
    rw [<- ed,ai] at hx
    cases q:ds[p]? with
    | none=>rw [q] at hx;cases hx
    | some dd=>rw [q] at hx;exact⟨dd,rfl,aE hx⟩
   obtain⟨⟨_,t1⟩,_,t2⟩:=hd dd (af hdd)
   rw [ex] at t1 t2
   refine⟨_,.int (p:Int),.inl (SqL.of (S2 _ _ hq)),Ar (j:=0) rfl,_,.ref dd.2,.inl (SqL.of (S2 _ _ ol)),Ar (j:=p) (by rw [ai,hdd];rfl),_,.inl (SqT.of (S2 _ _ t1)),rfl,(show 0<=sizeLine by decide),fun G hG=>?_⟩
   have SG:=S2.trans (Same.upd (o:=.lst []) hG)
   have eG0:upd H2 G (.lst []) G=some (.lst []):=Ad
   show Ah _ _ _ [some (.ref s),some (.ref r),some (.int (c:Int)),some (.ref l),some (.ref q),some (.ref I),some (.str x.1),some (.ref dd.1.2),some (.ref G),none,none,none,none,none,none,none,none] _
   have fG:=S2.free hG
   generalize upd H2 G (.lst [])=H3 at SG eG0 ⊢
   refine⟨_,.int (p:Int),.inl (SqL.of (SG _ _ hq)),Ar (j:=0) rfl,.inl ⟨_,.inl (SqL.of (SG _ _ t2)),r,l,m,p,x,sw,?_,hr.up SG,hw,hm,SG _ _ hl,hx,fun H4 pl es S4 fpl ee ep he=>?_⟩⟩
   ·show [V.ref r,.ref l,.int (p:Int),.int ((x.2.map V.str).length:Int)]=_
    rw [ac]
   have S04:=SG.trans S4
   have eG4:=S4 _ _ eG0
   have js4:(C6 sw p x.2 m).length<=4:=by
    have:=cR (fun j=>decide (m &&& Au (Af sw) p (x.2.getD j a_)≠0)) (aw x.2.length)
    rw [bh] at this
    exact ax this x4
   have jn:∀ j∈C6 sw p x.2 m,j<x.2.length/\m &&& Au (Af sw) p (x.2.getD j a_)≠0:=fun j hj=>⟨List.mem_range.mp (List.mem_filter.mp hj).1,of_decide_eq_true (List.mem_filter.mp hj).2⟩
   have le:es.length=(C6 sw p x.2 m).length:=by rw [<- ee,ac]
   have gi:∀ j,GI (bxF sw c (ps.map (nmS sw))) (((C6 sw p x.2 m).take j).map fun j=>x.2.getD j a_) (((C6 sw p x.2 m).take j).foldl (Tp sw c p m (ps.map (nmS sw)) x.2) []):=fun j=>giJ (by rw [aF];omega) fun i hi=>(jn i (dF hi)).2
   have jl:∀ j,(((C6 sw p x.2 m).take j).map fun j=>x.2.getD j a_).length<=4:=fun j=>by rw [ac,aF];omega
   have npl:pl≠G:=(Aj eG0 fpl).symm
   refine .inl ⟨⟨_,SqL.of ep⟩,?_⟩
   refine A5 (As (es.map fun e=>V.ref e.2.1)) (fun j σ H'=>(∃ v9 v10 v11 v12 v13,σ=[some (.ref s),some (.ref r),some (.int (c:Int)),some (.ref l),some (.ref q),some (.ref I),some (.str x.1),some (.ref dd.1.2),some (.ref G),v9,v10,v11,v12,v13,none,none,none])/\FrG G H4 H' /\ ∃ gs:List GE,GrE .lst (fun a=>H4 a=none\/a=G) H' G gs/\gs.map (·.1)=((C6 sw p x.2 m).take j).foldl (Tp sw c p m (ps.map (nmS sw)) x.2) [])
    ⟨⟨_,_,_,_,_,rfl⟩,fun _ _ _ e=>e,[],aj1 (.inr rfl) eG4,rfl⟩ (fun j σ H' _ q=>SqL.of (q.2.1.at_ ep npl)) ?_ ?_
   ·rintro j v σ H5 hv ⟨⟨v9,v10,v11,v12,v13,rfl⟩,F5,gs,G5,eg⟩
    obtain⟨e,hj,rfl⟩:=Ao hv
    have hj2:(C6 sw p x.2 m)[j]? = some e.1:=by rw [<- ee,ai,hj];rfl
    obtain⟨jl1,jn1⟩:=jn e.1 (af hj2)
    obtain⟨fu,a3,a4⟩:=he e (af hj)
    have nT:e.2.1≠G:=fun z=>by rw [z,eG4] at a3;cases a3
    have nu:e.2.2≠G:=(Aj eG0 fu).symm
    have up:∀ {a o},H a=some o->H5 a=some o:=fun e=>F5.at_ (S04 _ _ e) (Aj e fG)
    have hz:x.2[e.1]? = some (x.2.getD e.1 a_):=by rw [au,ah jl1];rfl
    have fo:=Ck hj2 (Tp sw c p m (ps.map (nmS sw)) x.2) []
    have GI:=gi j
    have l4:=jl j
    rw [<- eg] at GI fo
    have fo:_=Et (gs.map (·.1)) (x.2.getD e.1 a_) (bxF sw c (ps.map (nmS sw)) (m &&& Au (Af sw) p (x.2.getD e.1 a_))):=fo
    generalize x.2.getD e.1 a_=z at hz jn1 a4 fo
    have gl:gs.length<=4:=by have:=GI.len;rw [ac] at this;omega
    have g4:∀ g∈gs,g.1.1.length<=4:=fun g hg=>ax (GI.one g.1 (List.mem_map.mpr ⟨g,hg,rfl⟩)).1 l4
    refine⟨_,.inl (SqT.of (F5.at_ a3 nT)),rfl,.inl ⟨_,SqL.of (up hq),fun L hL=>?_⟩⟩
    have SL:=Same.upd (o:=.lst (Ds ((p::ps).map fun n:Nat=>V.int (n:Int)) (some 1) none)) hL
    have eL:upd H5 L (.lst (Ds ((p::ps).map fun n:Nat=>V.int (n:Int)) (some 1) none)) L=some (nO ps):=by
     rw [Ad,show (1:Int)=((1:Nat):Int) from rfl,Eu];rfl
    generalize upd H5 L (.lst (Ds ((p::ps).map fun n:Nat=>V.int (n:Int)) (some 1) none))=H6 at SL eL ⊢
    have S6:Same H H6:=fun a o e=>SL _ _ (up e)
    refine⟨s,r,e.2.2,L,c,m &&& Au (Af sw) p z,ps,sw,rfl,hS.mono (Kp.same S6),hr.up S6,hw,Eo hm,SL _ _ (F5.at_ a4 nu),eL,by omega,by omega,hp',Mo hw hx hu (af hz),fun H7 b S7 B7=>?_⟩
    generalize bxF sw c (ps.map (nmS sw)) (m &&& Au (Af sw) p z)=bs at B7 fo
    have SL7:=SL.trans S7
    have G7:=G5.up SL7
    have F7:FrG G H4 H7:=fun a o n e=>SL7 _ _ (F5 a o n e)
    have h7:H7 dd.1.2=some (Bi x.2):=SL7 _ _ (up t2)
    have nst:dd.1.2≠G:=Aj t2 fG
    have hB:BxAt (gOk (fun a=>H4 a=none\/a=G) G gs) H7 b bs:=B7.keep (KpB.weak fun a o q _=>⟨F5.fr (SL.free q),fun q2=>by
     obtain⟨xs,hx⟩:=(G5.up SL).has q2
     rw [show H6 a=none from q] at hx
     cases hx⟩)
    refine .inl ⟨_,.inl (SqL.of G7.at_),.inl ⟨_,.inl (SqL.of G7.at_),?_⟩⟩
    rw [ac]
    refine⟨⟨by omega,by omega⟩,?_⟩
    rw [aG]
    refine A5 (Bq 0 gs.length) (fun k σ H'=>(∃ (a:Nat) (v13:Option V),σ=[some (.ref s),some (.ref r),some (.int (c:Int)),some (.ref l),some (.ref q),some (.ref I),some (.str x.1),some (.ref dd.1.2),some (.ref G),some (.int (e.1:Int)),some (.ref e.2.2),some (.ref b),some (.int (a:Int)),v13,none,none,none]/\((a<k /\ ∃ g,gs[a]? = some g/\g.1.2=bs)\/(a=gs.length /\ ∀ (i:Nat) g,i<k->gs[i]? = some g->g.1.2≠bs)))/\H'=H7)
     ⟨⟨gs.length,_,rfl,.inr ⟨rfl,fun i g hi=>absurd hi (cy _)⟩⟩,rfl⟩ (fun _ _ _ _ _=>bn) ?_ ?_
    ·rintro k v σ H8 hv ⟨⟨a,v13,rfl,hA⟩,rfl⟩
     obtain⟨hk,rfl⟩:=Dh hv
     obtain⟨g,hg⟩:∃ g,gs[k]? = some g:=⟨_,ah hk⟩
     obtain⟨o1,o2,o3,o4,o5⟩:=G7.one g (af hg)
     refine⟨_,.ref g.2.1,.inl (SqL.of G7.at_),Ar (j:=k) (by rw [ai,hg];rfl),_,.ref g.2.2.2,.inl (SqL.of o1),Ar (j:=1) rfl,M7 o5 B7 ?_⟩
     by_cases qe:g.1.2=bs
     ·exact R0 (decide_eq_true qe) ⟨⟨k,_,rfl,.inl ⟨cZ _,g,hg,qe⟩⟩,rfl⟩
     ·refine Ew (decide_eq_false qe) ⟨⟨a,_,rfl,hA.imp (fun h=>⟨cM h.1,h.2⟩) fun h=>⟨h.1,fun i g' hi hg'=>?_⟩⟩,rfl⟩
      rcases dy i k with r|r
      ·exact h.2 i g' r hg'
      ·have:i=k:=by omega
       subst this
       rw [hg] at hg'
       cases hg'
       exact qe
    ·rintro σ H8 ⟨⟨a,v13,rfl,hA⟩,rfl⟩
     rw [Bc] at hA
     refine .inl (.inl ⟨_,.inl (SqL.of G7.at_),?_⟩)
     rcases hA with ⟨ha,g,hg,qg⟩|⟨rfl,no⟩
     ·obtain⟨o1,o2,o3,o4,o5⟩:=G7.one g (af hg)
      refine Ew (decide_eq_false (by rw [ac];omega)) ⟨_,.ref g.2.1,.inl (SqL.of G7.at_),Ar (j:=a) (by rw [ai,hg];rfl),_,.ref g.2.2.1,.inl (SqL.of o1),Ar (j:=0) rfl,.inl ⟨rfl,_,SqL.of o2⟩,_,.str z,.inl (SqL.of h7),Ar (j:=e.1) (by rw [ai,hz];rfl),g.2.2.1,_,_,rfl,rfl,o2,?_,?_⟩
      ·rw [ac];exact aD (g4 g (af hg)) (by decide)
      have GG:=G7.grow hg z
      rw [Io] at GG
      refine⟨⟨_,_,_,_,_,rfl⟩,fun b o n e=>Ba (F7 b o n e) (fun q=>n (q▸o3)),_,GG,?_⟩
      rw [fo,Kf (i:=a) (g:=g.1) (by rw [ai,hg];rfl) qg fun i h hi hh=>?_,kO]
      rw [<- qg]
      exact a45 GI.nd (by rw [ai,hg];rfl) hh (by omega)
     ·refine R0 (decide_eq_true (by rw [ac])) ⟨.inl ⟨rfl,_,SqL.of G7.at_⟩,(show 0<=sizeLine by decide),fun s' hs'=>⟨(show 2<=sizeLine by decide),fun T hT=>?_⟩⟩
      have Ts:T≠s':=fun q=>by rw [q,Ad] at hT;cases hT
      have S8:=(Same.upd hs').trans (Same.upd (o:=.lst [.ref s',.ref b]) hT)
      have GN:=G7.snoc (ss:=[]) hs' (F7.fr hs') hB S8 ((Same.upd hT) _ _ Ad) Ad ((Same.upd hs').free hT) Ts
      refine⟨G,_,_,rfl,rfl,S8 _ _ G7.at_,by rw [ac];exact aD gl (by decide),?_⟩
      have FN:FrG G H4 (upd (upd (upd H8 s' (.lst [])) T (.lst [.ref s',.ref b])) G (.lst (gs.map (fun e=>V.ref e.2.1)++[.ref T]))):=fun b o n e=>Ba (S8 _ _ (F7 b o n e)) (fun q=>n (.inr q))
      have hN:upd (upd (upd H8 s' (.lst [])) T (.lst [.ref s',.ref b])) G (.lst (gs.map (fun e=>V.ref e.2.1)++[.ref T])) dd.1.2=some (Bi x.2):=Ba (S8 _ _ h7) nst
      have GN:GrE .lst (fun a=>H4 a=none\/a=G) (upd (upd (upd H8 s' (.lst [])) T (.lst [.ref s',.ref b])) G (.lst (gs.map (fun e=>V.ref e.2.1)++[.ref T]))) G (gs++[(([],bs),T,s',b)]):=GN
      generalize upd (upd (upd H8 s' (.lst [])) T (.lst [.ref s',.ref b])) G (.lst (gs.map (fun e=>V.ref e.2.1)++[.ref T]))=HN at GN FN hN ⊢
      have hg:(gs++[(([],bs),T,s',b)])[gs.length]? = some (([],bs),T,s',b):=by rw [bB (ak _),eo];rfl
      obtain⟨o1,o2,o3,o4,o5⟩:=GN.one _ (af hg)
      refine⟨_,.ref T,.inl (SqL.of GN.at_),Ar (j:=gs.length) (by rw [ai,hg];rfl),_,.ref s',.inl (SqL.of o1),Ar (j:=0) rfl,.inl ⟨rfl,_,SqL.of o2⟩,_,.str z,.inl (SqL.of hN),Ar (j:=e.1) (by rw [ai,hz];rfl),s',_,_,rfl,rfl,o2,(show 0<sizeLine by decide),?_⟩
      refine⟨⟨_,_,_,_,_,rfl⟩,fun b o n e=>Ba (FN b o n e) (fun q=>n (q▸o3)),_,GN.grow hg z,?_⟩
      rw [fo,Ia fun h hh=>?_,List.set_append_right _ _ (ak _),eo,aq]
      ·rfl
      ·obtain⟨g,hgm,rfl⟩:=List.mem_map.mp hh
       obtain⟨i,hi⟩:=List.mem_iff_getElem?.mp hgm
       exact no i g (An hi) hi
   ·rintro σ H5 ⟨⟨v9,v10,v11,v12,v13,rfl⟩,F5,gs,G5,eg⟩
    rw [ac,le,aL] at eg
    have GI:=gi (C6 sw p x.2 m).length
    have l4:=jl (C6 sw p x.2 m).length
    rw [aL] at GI l4
    rw [<- eg] at GI
    rw [<- show gs.map (·.1)=(C6 sw p x.2 m).foldl (fun gs j=>Et gs (x.2.getD j a_) (bxF sw c (ps.map (nmS sw)) (m &&& Au (Af sw) p (x.2.getD j a_)))) [] from eg,Zf] at kk
    have S05:Same H H5:=fun a o e=>F5.at_ (S04 _ _ e) (Aj e fG)
    have gl:gs.length<=4:=by have:=GI.len;rw [ac] at this;omega
    have bx:∀ e∈gs,e.1.2.length<=1024 /\ ∀ b∈e.1.2,b.length<=5:=fun e he=>by
     obtain⟨q,eq⟩:=(GI.one e.1 (List.mem_map.mpr ⟨e,he,rfl⟩)).2.2
     rw [eq]
     have:=Xd hw (c:=c) (ws:=ps.map (nmS sw)) q fun y hy=>by
      obtain⟨i,hi,rfl⟩:=List.mem_map.mp hy
      rw [K3]
      exact List.mem_map.mpr ⟨i,List.mem_range.mpr (hp' i hi),rfl⟩
     rw [ac] at this
     exact⟨be8 this.1 (by omega),fun b hb=>ax (this.2 b hb).1 (by omega)⟩
    refine .inl ⟨(show 0<=sizeLine by decide),fun B hB=>?_⟩
    have SB:=Same.upd (o:=.lst []) hB
    have eB:upd H5 B (.lst []) B=some (.lst []):=Ad
    show Ah _ _ _ [some (.ref s),some (.ref r),some (.int (c:Int)),some (.ref l),some (.ref q),some (.ref I),some (.str x.1),some (.ref dd.1.2),some (.ref G),v9,v10,v11,v12,v13,some (.ref B),none,none] _
    generalize upd H5 B (.lst [])=H6 at SB eB ⊢
    refine .inl ⟨⟨_,SqL.of (SB _ _ G5.at_)⟩,?_⟩
    refine A5 (As (gs.map fun e=>V.ref e.2.1)) (fun j σ H'=>(∃ v11 v15 v16,σ=[some (.ref s),some (.ref r),some (.int (c:Int)),some (.ref l),some (.ref q),some (.ref I),some (.str x.1),some (.ref dd.1.2),some (.ref G),v9,v10,v11,v12,v13,some (.ref B),v15,v16])/\Same H5 H' /\ ∃ fs:List (Sw×Addr),fs.map (·.1)=((gs.map (·.1)).take j).flatMap (fun g=>g.2.map ((if (gs.map (·.1)).length=1 then [] else [(x.1,g.1)]) ++ ·))/\H' B=some (.lst (fs.map fun y=>.ref y.2)) /\ ∀ y∈fs,y.2≠B/\H5 y.2=none/\BoxAt H' y.2 y.1)
     ⟨⟨_,_,_,rfl⟩,SB,[],rfl,eB,fun y hy=>by cases hy⟩ (fun j σ H' _ q=>q.2.1.seqL (SqL.of G5.at_)) ?_ ?_
    ·rintro j v σ H7 hv ⟨⟨v11,v15,v16,rfl⟩,S7,fs,ef,e7,hf⟩
     obtain⟨e,hj,rfl⟩:=Ao hv
     have hj2:(gs.map (·.1))[j]? = some e.1:=by rw [ai,hj];rfl
     obtain⟨o1,o2,o3,o4,us,u1,u2,u3,u4⟩:=G5.one e (af hj)
     have bxe:=bx e (af hj)
     have ul:us.length=e.1.2.length:=by rw [<- u1,ac]
     have f4:fs.length<=4096:=by
      have h1:=congrArg bv ef
      have h3:=R1 (f:=fun g=>g.2.map ((if (gs.map (·.1)).length=1 then [] else [(x.1,g.1)]) ++ ·)) (gs:=gs.map (·.1)) (by rw [ac];exact gl) (fun g hg=>by obtain⟨e',he',rfl⟩:=List.mem_map.mp hg;rw [ac];exact (bx e' he').1) j
      rw [ac] at h1
      exact ax (jr h1) h3
     have ub:∀ {H8},Same H7 H8 -> ∀ y∈us,BoxAt H8 y.2 y.1:=fun S8 y hy=>(u4 y hy).2.2.keep (fun xs q=>S8 _ _ (S7 _ _ q)) fun a xs q=>S8 _ _ (S7 _ _ q)
     have uf:∀ y∈us,y.1.length<=5:=fun y hy=>bxe.2 _ (by rw [<- u1];exact List.mem_map.mpr ⟨y,hy,rfl⟩)
     have fk:∀ {H8},Same H7 H8 -> ∀ y∈fs,y.2≠B/\H5 y.2=none/\BoxAt H8 y.2 y.1:=fun S8 y hy=>⟨(hf y hy).1,(hf y hy).2.1,(hf y hy).2.2.keep (fun xs q=>S8 _ _ q) fun a xs q=>S8 _ _ q⟩
     refine⟨_,.inr (SqL.of (S7 _ _ o1)),rfl,_,.inl ⟨SqL.of (S7 _ _ o2),fun u hu=>⟨(show 2<=sizeLine by decide),fun T hT=>⟨(show 1<=sizeLine by decide),fun A hA=>?_⟩⟩⟩⟩
     have Su:=Same.upd (o:=C1 e.1.1) hu
     have ST:=Same.upd (o:=.tup [.str x.1,.ref u]) hT
     have SA:=Same.upd (o:=.lst [.ref T]) hA
     have S8:=(Su.trans ST).trans SA
     have tA:TermAt (upd (upd (upd H7 u (C1 e.1.1)) T (.tup [.str x.1,.ref u])) A (.lst [.ref T])) (.ref T) (x.1,e.1.1):=⟨T,u,rfl,SA _ _ Ad,(ST.trans SA) _ _ Ad⟩
     have eA:upd (upd (upd H7 u (C1 e.1.1)) T (.tup [.str x.1,.ref u])) A (.lst [.ref T]) A=some (.lst [.ref T]):=Ad
     refine .inl ⟨_,.inl (SqL.of ((S7.trans S8) _ _ G5.at_)),?_⟩
     refine Er (fun ec=>?_) (fun ec=>?_)
     ·have ec:((gs.map fun e=>V.ref e.2.1).length:Int)=1:=by simpa using ec
      have e1:(gs.map (·.1)).length=1:=by rw [ac] at ec ⊢;omega
      refine⟨(show 0<=sizeLine by decide),fun A2 hA2=>?_⟩
      have S9:=S8.trans (Same.upd (o:=.lst []) hA2)
      refine ai6 (ys:=[]) (S7.trans S9) hB (S9 _ _ e7) (fk S9) ((S7.trans S9) _ _ u3) (ub S9) (by rw [ul];exact bxe.1) uf Ad (fun y hy=>by cases hy) (bR _) f4 fun H10 hs S10 eh eB hh=>⟨⟨_,_,_,rfl⟩,S10,hs,?_,eB,hh⟩
      rw [eh,ef,Ii hj2,u1,if_pos e1]
      rfl
     ·have ec:¬ ((gs.map fun e=>V.ref e.2.1).length:Int)=1:=by simpa using ec
      have e1:¬ (gs.map (·.1)).length=1:=by rw [ac] at ec ⊢;omega
      refine ai6 (ys:=[((x.1,e.1.1),.ref T)]) (S7.trans S8) hB (S8 _ _ e7) (fk S8) ((S7.trans S8) _ _ u3) (ub S8) (by rw [ul];exact bxe.1) uf eA (fun y hy=>?_) (ak _) f4 fun H10 hs S10 eh eB hh=>⟨⟨_,_,_,rfl⟩,S10,hs,?_,eB,hh⟩
      ·have:y=((x.1,e.1.1),.ref T):=by simpa using hy
       subst this
       exact tA
      ·rw [eh,ef,Ii hj2,u1,if_neg e1]
       rfl
    ·rintro σ H7 ⟨⟨v11,v15,v16,rfl⟩,S7,fs,ef,e7,hf⟩
     rw [dO (by rw [ac,ac];exact ak _)] at ef
     exact .inl (kk H7 B (S05.trans S7) ⟨fs,ef,S05.free hB,e7,fun y hy=>⟨S05.free (hf y hy).2.1,(hf y hy).1,(hf y hy).2.2⟩⟩)
theorem av2 (m n:Nat):aS ((m:Int) / 2 ^ ((n:Int)).toNat) 1=((if m.testBit n=true then 1 else 0:Nat):Int):=by
 have h1:=Fl m n
 have h0:=W9 m n
 cases e:m.testBit n with
 | true=>rw [e] at h1;exact of_decide_eq_true h1
 | false=>rw [e] at h0;exact of_decide_eq_true h0
theorem bi7 {f:Addr} {fd:aB} (Z:A0 K t) (F:FunD K "law" "law" E1 f fd .none) (T:Tab P w K mg base 17 (ai8 K t) bl):FnOk P w K mg base CX0 18 f fd Rb (Qk K t):=by
 refine F.okW0 bt4 bw5 T (bq9 K t) (fun vs H Q E h=>?_) (fun vs H Q E h=>?_)
 ·obtain⟨a,ns,rfl,_⟩:=h;rfl
 ·obtain⟨a,ns,rfl,hS,hn,k⟩:=h
  refine⟨a,ns,rfl,hS,fun H1 l sw S1 W1 hw=>?_⟩
  have l5:=hw.2.1
  have n256:=hw.len
  refine⟨l,sw,rfl,W1,hw,fun H3 r S3 D3=>?_⟩
  have S03:=S1.trans S3
  refine⟨a,l,ns,sw,rfl,S03.seqL hS,W1.mono (Kp.same S3),hw,fun H4 p rules S4 P4=>?_⟩
  have S04:=S03.trans S4
  refine⟨a,ns,3,rfl,S04.seqL hS,r,_,sw,rfl,D3.up S4,hw,fun H5 c S5 hc=>?_⟩
  have S05:=S04.trans S5
  refine⟨a,ns,4,rfl,S05.seqL hS,r,_,sw,rfl,D3.up (S4.trans S5),hw,fun H6 w S6 hww=>?_⟩
  have S46:=S5.trans S6
  have S36:=S4.trans S46
  obtain⟨ds,ed,er,hd⟩:=D3.up S36
  have lnV:(ds.map fun x=>V.ref x.2).length=(Af sw).length:=by rw [ac,Eh,ac,<- ed,ac]
  refine .inl ⟨_,.inl (SqL.of er),?_⟩
  rw [lnV]
  refine⟨⟨by omega,by omega⟩,?_⟩
  rw [aG]
  refine Ih (ns:=aw (Af sw).length) (p:=fun i=>w.testBit i) (Bq 0 (Af sw).length) (fun i x hx=>?_) (by rw [Bc,bh]) (fun _ _=>bn) (by rw [bh];exact n256) (fun n hn H2 Q1 S2 q=>?_) fun L H7 S7 fL eL=>?_
  ·obtain⟨hi,rfl⟩:=Dh hx
   exact⟨i,dt hi,rfl⟩
  ·refine⟨by omega,?_⟩
   show Q1 (decide (aS ((w:Int) / 2 ^ ((n:Int)).toNat) 1=1)) H2
   rw [Fl]
   exact q
  have eL:H7 L=some (nO (Cm (Af sw).length w)):=eL
  have S17:=(S3.trans S36).trans S7
  obtain⟨es1,ed1,⟨_,ol⟩,_⟩:=id W1
  have ln:(es1.map fun x=>V.ref x.2).length=sw.length:=by rw [ac,<- ed1,ac]
  obtain⟨d1,d2⟩:=Us hw c w
  obtain⟨u1,u2,u3⟩:=Pa hw c w
  obtain⟨b1,b2⟩:=ag8 hw c w
  have sub:=Im (hW d2)
  have D7:DigAt H7 r (Cf sw):=D3.up (S36.trans S7)
  refine .inl ⟨_,.inl (SqL.of (S17 _ _ ol)),r,c,w,sw,?_,D7,hw,hc,hww,fun H8 pl S8 epl=>?_⟩
  ·show [V.ref r,.int (c:Int),.int (w:Int),.int ((es1.map fun x=>V.ref x.2).length:Int)]=_
   rw [ln]
  have S18:=S17.trans S8
  refine⟨l,r,L,pl,c,w,Ur sw c w,sw,rfl,W1.mono (Kp.same S18),D7.up S8,hw,hww,S8 _ _ eL,epl,by omega,by omega,sub.2,by rw [<- d1];exact u1,fun H9 due S9 B9=>?_⟩
  rw [<- d1] at B9
  have P9:PanelAt t.c_zbg any H9 p sw rules:=P4.mono (Kp.same (((S46.trans S7).trans S8).trans S9))
  refine⟨p,c,w,sw,rules,rfl,P9,hw,hc,hww,fun H10 f S10 F10=>?_⟩
  have cnt:=fun n (h:w.testBit n=true)=>Rp hw (c:=c) (i:=n) u3 hww u1 h
  generalize eb:bxF sw c (Gm sw c w) w=bs at B9 F10 b1 b2 cnt
  refine⟨f,bs,rfl,F10.any,M7 F10 (B9.up S10) (Ew (by simp) ?_)⟩
  have S710:=(S8.trans S9).trans S10
  have W10:SwIn any H10 l sw:=W1.mono (Kp.same (S18.trans (S9.trans S10)))
  obtain⟨ds,ed,er,hd⟩:=D7.up S710
  refine .inl ⟨⟨_,SqL.of (S710 _ _ eL)⟩,?_⟩
  refine A5 (As ((Cm (Af sw).length w).map fun n:Nat=>V.int (n:Int))) (fun i σ H'=>(∃ v6,σ=[some (.ref a),some (.ref l),some (.ref r),some (.ref p),some (.int (c:Int)),some (.int (w:Int)),v6,some (.ref L),some (.ref pl),some (.ref due),some (.ref f),none])/\Same H10 H')
   ⟨⟨_,rfl⟩,Same.refl _⟩ (fun i σ H' _ q=>(S710.trans q.2).seqL (SqL.of eL)) ?_ ?_
  ·rintro i x σ H11 hx ⟨⟨v6,rfl⟩,S11⟩
   obtain⟨n,hi,rfl⟩:=Ao hx
   have hm:=af hi
   have hb:w.testBit n=true:=(List.mem_filter.mp hm).2
   obtain⟨d,hdn,_⟩:=Kq (Xv hm)
   obtain⟨e,he,rfl⟩:∃ e,ds[n]? = some e/\e.1=d:=by
    rw [<- ed,ai] at hdn
    cases q:ds[n]? with
    | none=>rw [q] at hdn;cases hdn
    | some e=>rw [q] at hdn;exact⟨e,rfl,aE hdn⟩
   refine⟨_,.ref e.2,.inl (SqL.of (S11 _ _ er)),Ar (j:=n) (by rw [ai,he];rfl),l,e.2,f,n,e.1,bs,sw,rfl,W10.mono (Kp.same S11),hw,hdn,S11 _ _ (hd e (af he)),(F10.up S11).any,fun b hb=>(b2 b hb).2,fun H12 S12=>⟨by omega,?_⟩⟩
   show if (!decide (((bs.countP (Cq sw n):Nat):Int)=aS ((c:Int) / 2 ^ ((n:Int)).toNat) 1))=true then _ else _
   rw [av2,cnt n hb]
   exact Ew (by simp) ⟨⟨_,rfl⟩,S11.trans S12⟩
  ·rintro σ H11 ⟨⟨v6,rfl⟩,S11⟩
   refine .inl ⟨p,c,w,sw,rules,rfl,P9.mono (Kp.same (S10.trans S11)),hw,hc,hww,fun H13 S13=>⟨due,bs,rfl,(B9.up ((S10.trans S11).trans S13)).any,b1,fun b hb=>(b2 b hb).1,fun H14 S14=>?_⟩⟩
   rw [eb]
   refine Ew (by simp) ?_
   have S1014:=(S11.trans S13).trans S14
   obtain⟨es,e1,fo,ef,he⟩:=F10
   have le:es.length=bs.length:=by rw [<- e1,ac]
   refine .inl ⟨⟨_,SqL.of (S1014 _ _ ef)⟩,?_⟩
   refine A5 (As (es.map fun e=>V.ref e.2)) (fun i σ H'=>(∃ v6 v11,σ=[some (.ref a),some (.ref l),some (.ref r),some (.ref p),some (.int (c:Int)),some (.int (w:Int)),v6,some (.ref L),some (.ref pl),some (.ref due),some (.ref f),v11])/\Same H9 H'/\H' f=some (.lst (es.map fun x=>.ref x.2)) /\ ∀ e∈es,∃ xs,H' e.2=some (.lst xs)/\xs.length<=5+i)
    ⟨⟨_,_,rfl⟩,S10.trans S1014,S1014 _ _ ef,fun e h=>?_⟩ (fun i σ H' _ q=>SqL.of q.2.2.1) ?_ ?_
   ·obtain⟨us,u1,u2,_⟩:=(he e h).2.2
    refine⟨_,S1014 _ _ u2,?_⟩
    have:=(b2 e.1 (by rw [<- e1];exact List.mem_map.mpr ⟨e,h,rfl⟩)).1.1
    rw [<- u1,ac] at this
    rw [ac]
    omega
   ·rintro i x σ H15 hx ⟨⟨v6,v11,rfl⟩,S15,ef15,hx15⟩
    obtain⟨e,hi,rfl⟩:=Ao hx
    have hm:=af hi
    obtain⟨xs,hxs,lx⟩:=hx15 e hm
    obtain⟨fe,ne,_⟩:=he e hm
    have li:=An hi
    refine⟨.inl ⟨rfl,_,SqL.of hxs⟩,(show 1<=sizeLine by decide),fun u hu=>⟨(show 2<=sizeLine by decide),fun T hT=>?_⟩⟩
    have S2:=(Same.upd (o:=.tup [.str "zz"]) hu).trans (Same.upd (o:=.tup [.str "zz", .ref u]) hT)
    refine⟨e.2,_,_,rfl,rfl,S2 _ _ hxs,aD (show xs.length<=1029 by omega) (by decide),⟨_,_,rfl⟩,(S15.trans S2).set fe,Ba (S2 _ _ ef15) (cA ne),fun e' h'=>?_⟩
    by_cases q:e'.2=e.2
    ·rw [q]
     exact⟨_,Ad,by rw [aJ];show xs.length+1<=_;omega⟩
    ·obtain⟨ys,hys,ly⟩:=hx15 e' h'
     exact⟨ys,Ba (S2 _ _ hys) q,by omega⟩
   ·rintro σ H15 ⟨⟨v6,v11,rfl⟩,S15,ef15,_⟩
    refine .inl (.inl ⟨.inl ⟨rfl,_,SqL.of ef15⟩,f,_,rfl,rfl,ef15,?_⟩)
    have S16:Same H9 (upd H15 f (.lst [])):=S15.set fo
    generalize upd H15 f (.lst [])=H16 at S16 ⊢
    refine⟨p,c,w,sw,rules,rfl,P9.mono (Kp.same S16),hw,hc,hww,fun H17 f2 S17 F17=>?_⟩
    rw [eb] at F17
    refine M7 F17 (B9.up (S16.trans S17)) ?_
    show Q (.bl (decide (bs=bs))) H17
    rw [decide_eq_true rfl]
    exact k H17
end
end K15
set_option maxHeartbeats 4000000
namespace K15
open PySem L2
structure a49 (K:ae) (mg:Str->Option Value) (t:Adr):Prop where
 g_zav:DOk K mg "picks" Ma t.f_zav t.d_zav Ke
 g_zm:MOk K "parted" "Panel.parted" V3 t.f_zm t.d_zm ae6
 g_zaq:DOk K mg "decides" Ly t.f_zaq t.d_zaq Kd
 g_zh:MOk K "switches" "Panel.switches" Vy t.f_zh t.d_zh ae3
 g_zak:DOk K mg "deciding" Lr t.f_zak t.d_zak Qz
 g_zj:DOk K mg "add_to_groups" V0 t.f_zj t.d_zj ae4
 g_zi:DOk K mg "groups_of_part" Vz t.f_zi t.d_zi Ym
 g_zk:DOk K mg "boxes_of_part" V1 t.f_zk t.d_zk Ub
 g_zaj:DOk K mg "boxes_of" Lq t.f_zaj t.d_zaj Qy
 g_zai:DOk K mg "tell_term" Lp t.f_zai t.d_zai Qx
 g_zao:DOk K mg "tell_box" Lw t.f_zao t.d_zao Q5
 g_zah:DOk K mg "tell_cond" Lo t.f_zah t.d_zah Qw
 g_zal:DOk K mg "_law_cell" Ls t.f_zal t.d_zal Q0
 g_zw:DOk K mg "_law_stream" Wc t.f_zw t.d_zw af6
 g_zan:DOk K mg "_law_word" Lv t.f_zan t.d_zan Q4
 g_zo:DOk K mg "_law_switches" V5 t.f_zo t.d_zo ae8
 g_zu:DOk K mg "_law_digits" Wa t.f_zu t.d_zu af4
 g_zap:DOk K mg "union_of" Lx t.f_zap t.d_zap Q6
 g_zr:MOk K "many" "Panel.many" V7 t.f_zr t.d_zr af1
 g_zc:MOk K "all_choices" "Panel.all_choices" Vt t.f_zc t.d_zc ad8
 g_zt:DOk K mg "has_length" V9 t.f_zt t.d_zt af3
 g_zz:DOk K mg "is_letter" Wf t.f_zz t.d_zz af9
 g_zar:DOk K mg "is_word" Lz t.f_zar t.d_zar Q7
 g_ze:DOk K mg "are_unlike_words" Vv t.f_ze t.d_ze ae0
 g_zs:MOk K "term" "Panel.term" V8 t.f_zs t.d_zs af2
 g_zy:MOk K "box" "Panel.box" We t.f_zy t.d_zy af8
 g_zp:DOk K mg "copied_rule" V6 t.f_zp t.d_zp ae9
 g_zg:MOk K "read_rule" "Panel.read_rule" Vx t.f_zg t.d_zg ae2
 g_zd:MOk K "read_rules" "Panel.read_rules" Vu t.f_zd t.d_zd ad9
 g_zaa:DOk K mg "is_switch" Lg t.f_zaa t.d_zaa Qq
 g_zl:DOk K mg "read_switches" V2 t.f_zl t.d_zl ae5
 g_zb:DOk K mg "settings_of_choices" Vs t.f_zb t.d_zb ad7
 g_za:DOk K mg "numbers_by_settings" Vr t.f_za t.d_za ad6
 g_zau:DOk K mg "set_of" L9 t.f_zau t.d_zau Ra
 g_zf:DOk K mg "sets_of_settings" Vw t.f_zf t.d_zf ae1
 F_zq:FunD K "__init__" "Panel.__init__" Iz t.f_zq t.d_zq t.dv_zq
 b_zq:∀ j,j<=1->Binds K t.d_zq af0 (t.du_zq.drop j)
 w_zq:Vals [.non] t.du_zq
 if_zq:dz K (.ref t.f_zq)=true
 g_zad:DOk K mg "_law_panel" Lk t.f_zad t.d_zad Qs
 g_zas:DOk K mg "_law_key" L6 t.f_zas t.d_zas Q8
 g_zat:DOk K mg "_law_set" L8 t.f_zat t.d_zat Q9
 g_zx:DOk K mg "_law_within" Wd t.f_zx t.d_zx af7
 g_zam:DOk K mg "_law_pair" Lu t.f_zam t.d_zam Q3
 g_zac:DOk K mg "_law_lists" Lj t.f_zac t.d_zac Qr
 g_zn:DOk K mg "_law_deciding" V4 t.f_zn t.d_zn ae7
 g_zae:DOk K mg "_law_parts" Ll t.f_zae t.d_zae Qt
 g_zab:DOk K mg "_law_boxes" Li t.f_zab t.d_zab Kc
 g_zv:DOk K mg "_law_formed" Wb t.f_zv t.d_zv af5
 g_zag:DOk K mg "_law_times" Ln t.f_zag t.d_zag Qv
 g_zaf:DOk K mg "_law_shown" Lm t.f_zaf t.d_zaf Qu
 F_zaw:FunD K "law" "law" E1 t.f_zaw t.d_zaw .none
 b_zaw:∀ j,j<=0->Binds K t.d_zaw Rb (([]:List Value).drop j)
 w_zaw:Vals [] ([]:List Value)
 m_zaw:mg "law" = some (.ref t.f_zaw)
 at_zbg:mg "Panel" = some (.ref t.c_zbg)
 kp_zbg:bu K (.ref t.c_zbg)=true
 mk_zbg:cI K t.c_zbg=true
 in_zbg:aP K (.ref t.c_zbg) "__init__" = some (some (.ref t.f_zq))
 cl_zbg:Cls K t.c_zbg
 mt_zc:G3 K t.c_zbg "all_choices" t.f_zc
 mt_zy:G3 K t.c_zbg "box" t.f_zy
 mt_zr:G3 K t.c_zbg "many" t.f_zr
 mt_zm:G3 K t.c_zbg "parted" t.f_zm
 mt_zg:G3 K t.c_zbg "read_rule" t.f_zg
 mt_zd:G3 K t.c_zbg "read_rules" t.f_zd
 mt_zh:G3 K t.c_zbg "switches" t.f_zh
 mt_zs:G3 K t.c_zbg "term" t.f_zs
 v_zbi:mg "ALL" = some t.u_zbi
 r_zbi:RelV (.str "*") t.u_zbi
 v_zbh:mg "NONE" = some t.u_zbh
 r_zbh:RelV (.str "-") t.u_zbh
 v_zaz:mg "MOST_SWITCHES" = some t.u_zaz
 r_zaz:RelV (.int 5) t.u_zaz
 v_zax:mg "LEAST_SETTINGS" = some t.u_zax
 r_zax:RelV (.int 2) t.u_zax
 v_zay:mg "MOST_SETTINGS" = some t.u_zay
 r_zay:RelV (.int 4) t.u_zay
 v_zba:mg "MOST_CHOICES" = some t.u_zba
 r_zba:RelV (.int 256) t.u_zba
 v_zbb:mg "MOST_RULES" = some t.u_zbb
 r_zbb:RelV (.int 8) t.u_zbb
 z:∀ x∈bl,mg x=none
 Z:A0 K t
theorem bg2 {P:aW} {w:bE} {K:ae} {mg:Str->Option Value} {base:Heap} {t:Adr} (A:a49 K mg t):FnOk P w K mg base CX0 18 t.f_zaw t.d_zaw Rb (Qk K t):=by
 have T0:Tab P w K mg base 0 (Bk K t) bl:=((((((((Tab.nil A.z).consV A.v_zbb A.r_zbb).consV A.v_zba A.r_zba).consV A.v_zay A.r_zay).consV A.v_zax A.r_zax).consV A.v_zaz A.r_zaz).consV A.v_zbh A.r_zbh).consV A.v_zbi A.r_zbi).consV (v:=.ref t.c_zbg) A.at_zbg rfl
 have T1:Tab P w K mg base 1 (D9 K t) bl:=(((((((((((((((((((((((T0.mono (show 0<=1 by decide)).con (a66 K t) A.g_zaf (bh0 (t:=t) A.Z A.g_zaf.F T0)).con (a67 K t) A.g_zag (bh1 (t:=t) A.Z A.g_zag.F T0)).con (bz5 K t) A.g_zv (b28 (t:=t) A.Z A.g_zv.F T0)).con (a65 K t) A.g_zae (bg9 (t:=t) A.Z A.g_zae.F T0)).con (a63 K t) A.g_zac (bg7 (t:=t) A.Z A.g_zac.F T0)).con (a73 K t) A.g_zam (bh7 (t:=t) A.Z A.g_zam.F T0)).con (a79 K t) A.g_zas (bi3 (t:=t) A.Z A.g_zas.F T0)).con (a81 K t) A.g_zau (bi5 (t:=t) A.Z A.g_zau.F T0)).con (by3 K t) A.g_za (b05 (t:=t) A.Z A.g_za.F T0)).con (by4 K t) A.g_zb (b06 (t:=t) A.Z A.g_zb.F T0)).con (bz2 K t) A.g_zp (b22 (t:=t) A.Z A.g_zp.F T0)).con (bz8 K t) A.g_zz (b32 (t:=t) A.Z A.g_zz.F T0)).con (bz3 K t) A.g_zt (b26 (t:=t) A.Z A.g_zt.F T0)).con (a76 K t) A.g_zap (bi0 (t:=t) A.Z A.g_zap.F T0)).con (bz4 K t) A.g_zu (b27 (t:=t) A.Z A.g_zu.F T0)).con (a74 K t) A.g_zan (bh8 (t:=t) A.Z A.g_zan.F T0)).con (bz6 K t) A.g_zw (b29 (t:=t) A.Z A.g_zw.F T0)).con (a72 K t) A.g_zal (bh6 (t:=t) A.Z A.g_zal.F T0)).con (a69 K t) A.g_zai (bh3 (t:=t) A.Z A.g_zai.F T0)).con (by7 K t) A.g_zj (b16 (t:=t) A.Z A.g_zj.F T0)).consM (m := "switches") (l:=Fx K t) (one ⟨A.cl_zbg,A.mt_zh,A.g_zh.fi (bf2 K t) (b15 (t:=t) A.Z A.g_zh.F T0)⟩)).consM (m := "parted") (l:=Gg K t) (one ⟨A.cl_zbg,A.mt_zm,A.g_zm.fi (ax7 K t) (b19 (t:=t) A.Z A.g_zm.F T0)⟩)).consM (m := "many") (l:=Ps K t) (one ⟨A.cl_zbg,A.mt_zr,A.g_zr.fi (bf3 K t) (b24 (t:=t) A.Z A.g_zr.F T0)⟩)
 have T2:Tab P w K mg base 2 (Y7 K t) bl:=(((((((T1.mono (show 1<=2 by decide)).con (bz0 K t) A.g_zn (b20 (t:=t) A.Z A.g_zn.F T1)).con (a80 K t) A.g_zat (bi4 (t:=t) A.Z A.g_zat.F T1)).con (by6 K t) A.g_zf (b11 (t:=t) A.Z A.g_zf.F T1)).con (a78 K t) A.g_zar (bi2 (t:=t) A.Z A.g_zar.F T1)).con (bz1 K t) A.g_zo (b21 (t:=t) A.Z A.g_zo.F T1)).con (a75 K t) A.g_zao (bh9 (t:=t) A.Z A.g_zao.F T1)).consM (m := "all_choices") (l:=C4 K t) (one ⟨A.cl_zbg,A.mt_zc,A.g_zc.fi (ax6 K t) (b07 (t:=t) A.Z A.g_zc.F T1)⟩)
 have T3:Tab P w K mg base 3 (Y8 K t) bl:=((T2.mono (show 2<=3 by decide)).con (bz7 K t) A.g_zx (b30 (t:=t) A.Z A.g_zx.F T2)).con (by5 K t) A.g_ze (b09 (t:=t) A.Z A.g_ze.F T2)
 have T4:Tab P w K mg base 4 (Y9 K t) bl:=((T3.mono (show 3<=4 by decide)).con (a61 K t) A.g_zaa (bg5 (t:=t) A.Z A.g_zaa.F T3)).consM (m := "term") (l:=Pt K t) (one ⟨A.cl_zbg,A.mt_zs,A.g_zs.fi (bf4 K t) (b25 (t:=t) A.Z A.g_zs.F T3)⟩)
 have T5:Tab P w K mg base 5 (ax1 K t) bl:=((T4.mono (show 4<=5 by decide)).con (by9 K t) A.g_zl (b18 (t:=t) A.Z A.g_zl.F T4)).consM (m := "box") (l:=Pr K t) (one ⟨A.cl_zbg,A.mt_zy,A.g_zy.fi (ax8 K t) (b31 (t:=t) A.Z A.g_zy.F T4)⟩)
 have T6:Tab P w K mg base 6 (ax2 K t) bl:=(T5.mono (show 5<=6 by decide)).consM (m := "read_rule") (l:=E8 K t) (one ⟨A.cl_zbg,A.mt_zg,A.g_zg.fi (bf1 K t) (b13 (t:=t) A.Z A.g_zg.F T5)⟩)
 have T7:Tab P w K mg base 7 (ax3 K t) bl:=((T6.mono (show 6<=7 by decide)).con (a82 K t) A.g_zav (bi6 (t:=t) A.Z A.g_zav T0 6)).consM (m := "read_rules") (l:=Es K t) (one ⟨A.cl_zbg,A.mt_zd,A.g_zd.fi (bf0 K t) (b08 (t:=t) A.Z A.g_zd.F T6)⟩)
 have T8:Tab P w K mg base 8 (ax4 K t) bl:=((T7.mono (show 7<=8 by decide)).con (a62 K t) A.g_zab (bg6 (t:=t) A.Z A.g_zab T1 6)).con (a77 K t) A.g_zaq (bi1 (t:=t) A.Z A.g_zaq T1 6)
 have T9:Tab P w K mg base 9 (ax5 K t) bl:=((T8.mono (show 8<=9 by decide)).consC (oi:=some (aj5 K t)) ⟨A.at_zbg,A.kp_zbg,A.mk_zbg,A.in_zbg,A.if_zq,⟨A.F_zq.kp,⟨CX0,fun X' _ _=>K8 X',b23 (t:=t) A.Z A.F_zq T7⟩,d9 8,A.b_zq,A.w_zq⟩,ak 9⟩).con (a71 K t) A.g_zak (bh5 (t:=t) A.Z A.g_zak.F T8)
 have T10:Tab P w K mg base 10 (a56 K t) bl:=(T9.mono (show 9<=10 by decide)).con (a64 K t) A.g_zad (bg8 (t:=t) A.Z A.g_zad.F T9)
 have T11:Tab P w K mg base 11 (a57 K t) bl:=T10.mono (show 10<=11 by decide)
 have T12:Tab P w K mg base 12 (a58 K t) bl:=T11.mono (show 11<=12 by decide)
 have T13:Tab P w K mg base 13 (a59 K t) bl:=T12.mono (show 12<=13 by decide)
 have T14:Tab P w K mg base 14 (a60 K t) bl:=T13.mono (show 13<=14 by decide)
 have T15:Tab P w K mg base 15 (Xl K t) bl:=(T14.mono (show 14<=15 by decide)).con (by8 K t) A.g_zk ((b17 (t:=t) A.Z A.g_zk A.g_zi T1 6).2)
 have T16:Tab P w K mg base 16 (Xm K t) bl:=(T15.mono (show 15<=16 by decide)).con (a70 K t) A.g_zaj (bh4 (t:=t) A.Z A.g_zaj.F T15)
 have T17:Tab P w K mg base 17 (ai8 K t) bl:=(T16.mono (show 16<=17 by decide)).con (a68 K t) A.g_zah (bh2 (t:=t) A.Z A.g_zah.F T16)
 exact bi7 (t:=t) A.Z A.F_zaw T17
@[elab_as_elim] theorem Ey {P:List Value->Prop} (h:∀ a,P [a]):∀ us:List Value,us.length=1->P us
 | [a],_=>h a
@[elab_as_elim] theorem Hk {P:List Value->Prop} (h:∀ a b,P [a,b]):∀ us:List Value,us.length=2->P us
 | [a,b],_=>h a b
@[elab_as_elim] theorem Pq {P:List Value->Prop} (h:∀ a b c,P [a,b,c]):∀ us:List Value,us.length=3->P us
 | [a,b,c],_=>h a b c
@[elab_as_elim] theorem Zj {P:List Value->Prop} (h:∀ a b c d,P [a,b,c,d]):∀ us:List Value,us.length=4->P us
 | [a,b,c,d],_=>h a b c d
@[elab_as_elim] theorem ci3 {P:List Value->Prop} (h:∀ a b c d e,P [a,b,c,d,e]):∀ us:List Value,us.length=5->P us
 | [a,b,c,d,e],_=>h a b c d e
theorem all_mk {l:jx} {w:bE} {K:ae} {h:Heap} {mg:Str->Option Value} {fa f_zav f_zm f_zaq f_zh f_zak f_zj f_zi f_zk f_zaj f_zai f_zao f_zah f_zal f_zw f_zan f_zo f_zu f_zap f_zr f_zc f_zt f_zz f_zar f_ze f_zs f_zy f_zp f_zg f_zd f_zaa f_zl f_zb f_za f_zau f_zf f_zq f_zad f_zas f_zat f_zx f_zam f_zac f_zn f_zae f_zab f_zv f_zag f_zaf f_zaw c_zbg Td_zq:Addr} (X:K.In h) (G:h.Ns bc mg) (hfa:mg "law" = some (.ref fa))
  {od_zq an_zq od_zaw an_zaw td_zq:Option Addr} {sl_zq sl_zaw ts_zq:Array (Option Value)}
  {oc_zq kV_zq dc_zq pm_zq cd_zq ct_zq oc_zaw kV_zaw dc_zaw pm_zaw cd_zaw ct_zaw tc_zq:Value}
  {tn_zq:Nat}
  {u_zbi u_zbh u_zaz u_zax u_zay u_zba u_zbb:Value}
  (a_zbg:bC K bc "Panel" = some (some (.ref c_zbg)))
  (in_zbg:aP K (.ref c_zbg) "__init__" = some (some (.ref f_zq)))
  (kp_zbg:bu K (.ref c_zbg)=true)
  (mk_zbg:cI K c_zbg=true)
  (pg_zbg:eW K c_zbg a_=true)
  (hd_zbg:fW K c_zbg=true)
  (po_zbg:iq K c_zbg=true)
  (sa_zbg:aP K (.ref c_zbg) "__setattr__" = some (some (.builtin "object.__setattr__")))
  (mt_zc:aP K (.ref c_zbg) "all_choices" = some (some (.ref f_zc)))
  (mt_zy:aP K (.ref c_zbg) "box" = some (some (.ref f_zy)))
  (mt_zr:aP K (.ref c_zbg) "many" = some (some (.ref f_zr)))
  (mt_zm:aP K (.ref c_zbg) "parted" = some (some (.ref f_zm)))
  (mt_zg:aP K (.ref c_zbg) "read_rule" = some (some (.ref f_zg)))
  (mt_zd:aP K (.ref c_zbg) "read_rules" = some (some (.ref f_zd)))
  (mt_zh:aP K (.ref c_zbg) "switches" = some (some (.ref f_zh)))
  (mt_zs:aP K (.ref c_zbg) "term" = some (some (.ref f_zs)))
  (q_zav:TopD K "picks" Ma f_zav)
  (q_zm:MetD K "parted" "Panel.parted" V3 f_zm)
  (q_zaq:TopD K "decides" Ly f_zaq)
  (q_zh:MetD K "switches" "Panel.switches" Vy f_zh)
  (q_zak:TopD K "deciding" Lr f_zak)
  (q_zj:TopD K "add_to_groups" V0 f_zj)
  (q_zi:TopD K "groups_of_part" Vz f_zi)
  (q_zk:TopD K "boxes_of_part" V1 f_zk)
  (q_zaj:TopD K "boxes_of" Lq f_zaj)
  (q_zai:TopD K "tell_term" Lp f_zai)
  (q_zao:TopD K "tell_box" Lw f_zao)
  (q_zah:TopD K "tell_cond" Lo f_zah)
  (q_zal:TopD K "_law_cell" Ls f_zal)
  (q_zw:TopD K "_law_stream" Wc f_zw)
  (q_zan:TopD K "_law_word" Lv f_zan)
  (q_zo:TopD K "_law_switches" V5 f_zo)
  (q_zu:TopD K "_law_digits" Wa f_zu)
  (q_zap:TopD K "union_of" Lx f_zap)
  (q_zr:MetD K "many" "Panel.many" V7 f_zr)
  (q_zc:MetD K "all_choices" "Panel.all_choices" Vt f_zc)
  (q_zt:TopD K "has_length" V9 f_zt)
  (q_zz:TopD K "is_letter" Wf f_zz)
  (q_zar:TopD K "is_word" Lz f_zar)
  (q_ze:TopD K "are_unlike_words" Vv f_ze)
  (q_zs:MetD K "term" "Panel.term" V8 f_zs)
  (q_zy:MetD K "box" "Panel.box" We f_zy)
  (q_zp:TopD K "copied_rule" V6 f_zp)
  (q_zg:MetD K "read_rule" "Panel.read_rule" Vx f_zg)
  (q_zd:MetD K "read_rules" "Panel.read_rules" Vu f_zd)
  (q_zaa:TopD K "is_switch" Lg f_zaa)
  (q_zl:TopD K "read_switches" V2 f_zl)
  (q_zb:TopD K "settings_of_choices" Vs f_zb)
  (q_za:TopD K "numbers_by_settings" Vr f_za)
  (q_zau:TopD K "set_of" L9 f_zau)
  (q_zf:TopD K "sets_of_settings" Vw f_zf)
  (l_zq:K.lookup f_zq=some ⟨oc_zq,od_zq,.func (b7 "__init__" "Panel.__init__" (B6 Iz) (Al Iz) (Ab Iz) (.ref Td_zq) kV_zq dc_zq pm_zq an_zq cd_zq ct_zq),sl_zq⟩)
  (c_zq:dg K cd_zq "Panel.__init__" = true)
  (k_zq:bu K (.ref f_zq)=true)
  (if_zq:dz K (.ref f_zq)=true)
  (ld_zq:K.lookup Td_zq=some ⟨tc_zq,td_zq,.seq #[.none] tn_zq,ts_zq⟩)
  (q_zad:TopD K "_law_panel" Lk f_zad)
  (q_zas:TopD K "_law_key" L6 f_zas)
  (q_zat:TopD K "_law_set" L8 f_zat)
  (q_zx:TopD K "_law_within" Wd f_zx)
  (q_zam:TopD K "_law_pair" Lu f_zam)
  (q_zac:TopD K "_law_lists" Lj f_zac)
  (q_zn:TopD K "_law_deciding" V4 f_zn)
  (q_zae:TopD K "_law_parts" Ll f_zae)
  (q_zab:TopD K "_law_boxes" Li f_zab)
  (q_zv:TopD K "_law_formed" Wb f_zv)
  (q_zag:TopD K "_law_times" Ln f_zag)
  (q_zaf:TopD K "_law_shown" Lm f_zaf)
  (a_zaw:bC K bc "law" = some (some (.ref f_zaw)))
  (l_zaw:K.lookup f_zaw=some ⟨oc_zaw,od_zaw,.func (b7 "law" "law" (B6 E1) (Al E1) (Ab E1) .none kV_zaw dc_zaw pm_zaw an_zaw cd_zaw ct_zaw),sl_zaw⟩)
  (c_zaw:dg K cd_zaw "law" = true)
  (k_zaw:bu K (.ref f_zaw)=true)
  (v_zbi:bC K bc "ALL" = some (some u_zbi))
  (r_zbi:RelV (.str "*") u_zbi)
  (v_zbh:bC K bc "NONE" = some (some u_zbh))
  (r_zbh:RelV (.str "-") u_zbh)
  (v_zaz:bC K bc "MOST_SWITCHES" = some (some u_zaz))
  (r_zaz:RelV (.int 5) u_zaz)
  (v_zax:bC K bc "LEAST_SETTINGS" = some (some u_zax))
  (r_zax:RelV (.int 2) u_zax)
  (v_zay:bC K bc "MOST_SETTINGS" = some (some u_zay))
  (r_zay:RelV (.int 4) u_zay)
  (v_zba:bC K bc "MOST_CHOICES" = some (some u_zba))
  (r_zba:RelV (.int 256) u_zba)
  (v_zbb:bC K bc "MOST_RULES" = some (some u_zbb))
  (r_zbb:RelV (.int 8) u_zbb)
  (z_all:bC K bc "all" = some none)
  (z_dict:bC K bc "dict" = some none)
  (z_enumerate:bC K bc "enumerate" = some none)
  (z_int:bC K bc "int" = some none)
  (z_isinstance:bC K bc "isinstance" = some none)
  (z_len:bC K bc "len" = some none)
  (z_list:bC K bc "list" = some none)
  (z_range:bC K bc "range" = some none)
  (z_set:bC K bc "set" = some none)
  (z_sorted:bC K bc "sorted" = some none)
  (z_str:bC K bc "str" = some none)
  (z_tuple:bC K bc "tuple" = some none)
  (na_settings:aP K (.ref c_zbg) "settings" = some none)
  (na_tuples:aP K (.ref c_zbg) "tuples" = some none)
  (na_numbers:aP K (.ref c_zbg) "numbers" = some none)
  (na_sets:aP K (.ref c_zbg) "sets" = some none)
  (na_kept_rules:aP K (.ref c_zbg) "kept_rules" = some none)
  (na_bars:aP K (.ref c_zbg) "bars" = some none)
  (na_free:aP K (.ref c_zbg) "free" = some none)
  : ∃ (t:Adr) (fd:aB),(∀ (s:al) (v:Value),kY s fd ⟨[v],[]⟩ [("_law_script", v)]) /\ ∀ base:Heap,K.In base->base.Ns bc mg->FnOk l.prog w K mg base CX0 18 fa fd ["_law_script"] (Qk K t):=by
 obtain⟨d_zav,g_zav⟩:=q_zav.ok X G (ps:=Ke) fun _ _ _ _ _ _ us hl=>Hk (fun _ _=>rfl) us hl
 obtain⟨d_zm,g_zm⟩:=q_zm.ok (ps:=ae6) fun _ _ _ _ _ _ us hl=>Hk (fun _ _=>rfl) us hl
 obtain⟨d_zaq,g_zaq⟩:=q_zaq.ok X G (ps:=Kd) fun _ _ _ _ _ _ us hl=>Zj (fun _ _ _ _=>rfl) us hl
 obtain⟨d_zh,g_zh⟩:=q_zh.ok (ps:=ae3) fun _ _ _ _ _ _ us hl=>Ey (fun _=>rfl) us hl
 obtain⟨d_zak,g_zak⟩:=q_zak.ok X G (ps:=Qz) fun _ _ _ _ _ _ us hl=>Pq (fun _ _ _=>rfl) us hl
 obtain⟨d_zj,g_zj⟩:=q_zj.ok X G (ps:=ae4) fun _ _ _ _ _ _ us hl=>Pq (fun _ _ _=>rfl) us hl
 obtain⟨d_zi,g_zi⟩:=q_zi.ok X G (ps:=Ym) fun _ _ _ _ _ _ us hl=>Zj (fun _ _ _ _=>rfl) us hl
 obtain⟨d_zk,g_zk⟩:=q_zk.ok X G (ps:=Ub) fun _ _ _ _ _ _ us hl=>Zj (fun _ _ _ _=>rfl) us hl
 obtain⟨d_zaj,g_zaj⟩:=q_zaj.ok X G (ps:=Qy) fun _ _ _ _ _ _ us hl=>Pq (fun _ _ _=>rfl) us hl
 obtain⟨d_zai,g_zai⟩:=q_zai.ok X G (ps:=Qx) fun _ _ _ _ _ _ us hl=>Hk (fun _ _=>rfl) us hl
 obtain⟨d_zao,g_zao⟩:=q_zao.ok X G (ps:=Q5) fun _ _ _ _ _ _ us hl=>Ey (fun _=>rfl) us hl
 obtain⟨d_zah,g_zah⟩:=q_zah.ok X G (ps:=Qw) fun _ _ _ _ _ _ us hl=>Pq (fun _ _ _=>rfl) us hl
 obtain⟨d_zal,g_zal⟩:=q_zal.ok X G (ps:=Q0) fun _ _ _ _ _ _ us hl=>Hk (fun _ _=>rfl) us hl
 obtain⟨d_zw,g_zw⟩:=q_zw.ok X G (ps:=af6) fun _ _ _ _ _ _ us hl=>Hk (fun _ _=>rfl) us hl
 obtain⟨d_zan,g_zan⟩:=q_zan.ok X G (ps:=Q4) fun _ _ _ _ _ _ us hl=>Hk (fun _ _=>rfl) us hl
 obtain⟨d_zo,g_zo⟩:=q_zo.ok X G (ps:=ae8) fun _ _ _ _ _ _ us hl=>Ey (fun _=>rfl) us hl
 obtain⟨d_zu,g_zu⟩:=q_zu.ok X G (ps:=af4) fun _ _ _ _ _ _ us hl=>Ey (fun _=>rfl) us hl
 obtain⟨d_zap,g_zap⟩:=q_zap.ok X G (ps:=Q6) fun _ _ _ _ _ _ us hl=>Ey (fun _=>rfl) us hl
 obtain⟨d_zr,g_zr⟩:=q_zr.ok (ps:=af1) fun _ _ _ _ _ _ us hl=>Ey (fun _=>rfl) us hl
 obtain⟨d_zc,g_zc⟩:=q_zc.ok (ps:=ad8) fun _ _ _ _ _ _ us hl=>Ey (fun _=>rfl) us hl
 obtain⟨d_zt,g_zt⟩:=q_zt.ok X G (ps:=af3) fun _ _ _ _ _ _ us hl=>Pq (fun _ _ _=>rfl) us hl
 obtain⟨d_zz,g_zz⟩:=q_zz.ok X G (ps:=af9) fun _ _ _ _ _ _ us hl=>Ey (fun _=>rfl) us hl
 obtain⟨d_zar,g_zar⟩:=q_zar.ok X G (ps:=Q7) fun _ _ _ _ _ _ us hl=>Ey (fun _=>rfl) us hl
 obtain⟨d_ze,g_ze⟩:=q_ze.ok X G (ps:=ae0) fun _ _ _ _ _ _ us hl=>Ey (fun _=>rfl) us hl
 obtain⟨d_zs,g_zs⟩:=q_zs.ok (ps:=af2) fun _ _ _ _ _ _ us hl=>Pq (fun _ _ _=>rfl) us hl
 obtain⟨d_zy,g_zy⟩:=q_zy.ok (ps:=af8) fun _ _ _ _ _ _ us hl=>Hk (fun _ _=>rfl) us hl
 obtain⟨d_zp,g_zp⟩:=q_zp.ok X G (ps:=ae9) fun _ _ _ _ _ _ us hl=>Ey (fun _=>rfl) us hl
 obtain⟨d_zg,g_zg⟩:=q_zg.ok (ps:=ae2) fun _ _ _ _ _ _ us hl=>Hk (fun _ _=>rfl) us hl
 obtain⟨d_zd,g_zd⟩:=q_zd.ok (ps:=ad9) fun _ _ _ _ _ _ us hl=>Hk (fun _ _=>rfl) us hl
 obtain⟨d_zaa,g_zaa⟩:=q_zaa.ok X G (ps:=Qq) fun _ _ _ _ _ _ us hl=>Ey (fun _=>rfl) us hl
 obtain⟨d_zl,g_zl⟩:=q_zl.ok X G (ps:=ae5) fun _ _ _ _ _ _ us hl=>Ey (fun _=>rfl) us hl
 obtain⟨d_zb,g_zb⟩:=q_zb.ok X G (ps:=ad7) fun _ _ _ _ _ _ us hl=>Ey (fun _=>rfl) us hl
 obtain⟨d_za,g_za⟩:=q_za.ok X G (ps:=ad6) fun _ _ _ _ _ _ us hl=>Ey (fun _=>rfl) us hl
 obtain⟨d_zau,g_zau⟩:=q_zau.ok X G (ps:=Ra) fun _ _ _ _ _ _ us hl=>Ey (fun _=>rfl) us hl
 obtain⟨d_zf,g_zf⟩:=q_zf.ok X G (ps:=ae1) fun _ _ _ _ _ _ us hl=>Hk (fun _ _=>rfl) us hl
 have F_zq:=ax0 (st:=Iz) l_zq c_zq k_zq
 have b_zq:∀ j,j<=1->Binds K (b7 "__init__" "Panel.__init__" (B6 Iz) (Al Iz) (Ab Iz) (.ref Td_zq) kV_zq dc_zq pm_zq an_zq cd_zq ct_zq) af0 ([bz].drop j):=fun j hj=>by
  match j,hj with
  | 0,_=>exact Jd 2 rfl ld_zq rfl rfl (fun us hl=>Hk (fun _ _=>⟨_,rfl,rfl⟩) us hl)
  | 1,_=>exact Jd 3 rfl ld_zq rfl rfl (fun us hl=>Pq (fun _ _ _=>⟨_,rfl,rfl⟩) us hl)
 obtain⟨d_zad,g_zad⟩:=q_zad.ok X G (ps:=Qs) fun _ _ _ _ _ _ us hl=>Hk (fun _ _=>rfl) us hl
 obtain⟨d_zas,g_zas⟩:=q_zas.ok X G (ps:=Q8) fun _ _ _ _ _ _ us hl=>Pq (fun _ _ _=>rfl) us hl
 obtain⟨d_zat,g_zat⟩:=q_zat.ok X G (ps:=Q9) fun _ _ _ _ _ _ us hl=>Hk (fun _ _=>rfl) us hl
 obtain⟨d_zx,g_zx⟩:=q_zx.ok X G (ps:=af7) fun _ _ _ _ _ _ us hl=>Hk (fun _ _=>rfl) us hl
 obtain⟨d_zam,g_zam⟩:=q_zam.ok X G (ps:=Q3) fun _ _ _ _ _ _ us hl=>Zj (fun _ _ _ _=>rfl) us hl
 obtain⟨d_zac,g_zac⟩:=q_zac.ok X G (ps:=Qr) fun _ _ _ _ _ _ us hl=>Ey (fun _=>rfl) us hl
 obtain⟨d_zn,g_zn⟩:=q_zn.ok X G (ps:=ae7) fun _ _ _ _ _ _ us hl=>Zj (fun _ _ _ _=>rfl) us hl
 obtain⟨d_zae,g_zae⟩:=q_zae.ok X G (ps:=Qt) fun _ _ _ _ _ _ us hl=>Zj (fun _ _ _ _=>rfl) us hl
 obtain⟨d_zab,g_zab⟩:=q_zab.ok X G (ps:=Kc) fun _ _ _ _ _ _ us hl=>ci3 (fun _ _ _ _ _=>rfl) us hl
 obtain⟨d_zv,g_zv⟩:=q_zv.ok X G (ps:=af5) fun _ _ _ _ _ _ us hl=>Ey (fun _=>rfl) us hl
 obtain⟨d_zag,g_zag⟩:=q_zag.ok X G (ps:=Qv) fun _ _ _ _ _ _ us hl=>Pq (fun _ _ _=>rfl) us hl
 obtain⟨d_zaf,g_zaf⟩:=q_zaf.ok X G (ps:=Qu) fun _ _ _ _ _ _ us hl=>Ey (fun _=>rfl) us hl
 have F_zaw:=Uy (st:=E1) l_zaw c_zaw k_zaw
 have b_zaw:=F_zaw.binds (ps:=Rb) fun _ _ _ _ _ _ us hl=>Ey (fun _=>rfl) us hl
 have m:=cP X G a_zaw
 have e:fa=f_zaw:=by
  rw [hfa] at m
  injection m with m
  injection m
 subst e
 have tl_1:∀ {a:Addr},Dk (.ref a::valTail)=true:=fun {a}=>by show Dk valTail=true;decide +kernel
 have AO:a49 K mg ⟨f_zav,d_zav,f_zm,d_zm,f_zaq,d_zaq,f_zh,d_zh,f_zak,d_zak,f_zj,d_zj,f_zi,d_zi,f_zk,d_zk,f_zaj,d_zaj,f_zai,d_zai,f_zao,d_zao,f_zah,d_zah,f_zal,d_zal,f_zw,d_zw,f_zan,d_zan,f_zo,d_zo,f_zu,d_zu,f_zap,d_zap,f_zr,d_zr,f_zc,d_zc,f_zt,d_zt,f_zz,d_zz,f_zar,d_zar,f_ze,d_ze,f_zs,d_zs,f_zy,d_zy,f_zp,d_zp,f_zg,d_zg,f_zd,d_zd,f_zaa,d_zaa,f_zl,d_zl,f_zb,d_zb,f_za,d_za,f_zau,d_zau,f_zf,d_zf,f_zq,_,f_zad,d_zad,f_zas,d_zas,f_zat,d_zat,f_zx,d_zx,f_zam,d_zam,f_zac,d_zac,f_zn,d_zn,f_zae,d_zae,f_zab,d_zab,f_zv,d_zv,f_zag,d_zag,f_zaf,d_zaf,fa,_,.ref Td_zq,[bz],c_zbg,u_zbi,u_zbh,u_zaz,u_zax,u_zay,u_zba,u_zbb⟩:=⟨g_zav,g_zm,g_zaq,g_zh,g_zak,g_zj,g_zi,g_zk,g_zaj,g_zai,g_zao,g_zah,g_zal,g_zw,g_zan,g_zo,g_zu,g_zap,g_zr,g_zc,g_zt,g_zz,g_zar,g_ze,g_zs,g_zy,g_zp,g_zg,g_zd,g_zaa,g_zl,g_zb,g_za,g_zau,g_zf,F_zq,b_zq,(.cons rfl .nil),if_zq,g_zad,g_zas,g_zat,g_zx,g_zam,g_zac,g_zn,g_zae,g_zab,g_zv,g_zag,g_zaf,F_zaw.toD,(fun j _=>by rw [List.drop_nil];exact b_zaw),.nil,cP X G a_zaw,cP X G a_zbg,kp_zbg,mk_zbg,in_zbg,⟨pg_zbg,hd_zbg,po_zbg,sa_zbg⟩,⟨mt_zc,g_zc.i,g_zc.F.kp⟩,⟨mt_zy,g_zy.i,g_zy.F.kp⟩,⟨mt_zr,g_zr.i,g_zr.F.kp⟩,⟨mt_zm,g_zm.i,g_zm.F.kp⟩,⟨mt_zg,g_zg.i,g_zg.F.kp⟩,⟨mt_zd,g_zd.i,g_zd.F.kp⟩,⟨mt_zh,g_zh.i,g_zh.F.kp⟩,⟨mt_zs,g_zs.i,g_zs.F.kp⟩,cP X G v_zbi,r_zbi,cP X G v_zbh,r_zbh,cP X G v_zaz,r_zaz,cP X G v_zax,r_zax,cP X G v_zay,r_zay,cP X G v_zba,r_zba,cP X G v_zbb,r_zbb,(fun x hx=>by
   simp only [bl,aX,eU,or_false] at hx
   rcases hx with rfl|rfl|rfl|rfl|rfl|rfl|rfl|rfl|rfl|rfl|rfl|rfl
   all_goals exact PySem.W.mg_none_of X G (by assumption)),⟨⟨⟨pg_zbg,hd_zbg,po_zbg,sa_zbg⟩,(fun f hf=>by
  simp only [aX,eU,or_false] at hf
  rcases hf with rfl|rfl|rfl|rfl|rfl|rfl|rfl
  ·exact na_settings
  ·exact na_tuples
  ·exact na_numbers
  ·exact na_sets
  ·exact na_kept_rules
  ·exact na_bars
  ·exact na_free)⟩⟩⟩
 exact⟨_,b7 "law" "law" (B6 E1) (Al E1) (Ab E1) .none kV_zaw dc_zaw pm_zaw an_zaw cd_zaw ct_zaw,fun s v=>.of_eq rfl,fun base _ _=>bg2 AO⟩
noncomputable def sp0 (K:ae):Sp:=fun vs H Q _=>∃ (a:Addr) (ns:List Int),vs=[.ref a]/\SqL K H a (ns.map V.int)/\ns.length<=63 /\ ∀ H',Q (.bl true) H'
theorem walk {l:jx} {q:aW} {loose:List Str} {XP:(Str->Option Value)->Heap->Prop} {YP:bE->Heap->Prop} {d:DefRec} {K:Params->ae} (hn:l.most=some 63) (hdf:d.params.defaults=[])
  (hY:∀ (w:bE) (h:Heap),YP w h->(K w.params).In h)
  (F:∀ (w:bE) (mg:Str->Option Value) (fa:Addr) (h:Heap),(K w.params).In h->h.Ns bc mg->mg d.name=some (.ref fa) ->
   ∃ (t:Adr) (fd:aB),(∀ (s:al) (u:Value),kY s fd ⟨[u],[]⟩ [("_law_script", u)]) /\ ∀ base:Heap,(K w.params).In base->base.Ns bc mg->FnOk l.prog w (K w.params) mg base CX0 18 fa fd ["_law_script"] (Qk (K w.params) t)) :
  PySem.W.WalkO q loose XP YP l.row.toRowW d [] (fun f vs=>PySem.call f vs):=
 L2.walk_of (n:=63) (k:=18) (x := "_law_script") (CX:=fun _=>CX0) (sp:=fun w=>sp0 (K w.params)) (fun _ _=>bn) hn (by decide) hdf ⟨rfl,by decide,by decide⟩ hY (fun w mg fa h a b c=>let ⟨t,fd,h1,h2⟩:=F w mg fa h a b c;⟨fd,h1,fun base x y=>(h2 base x y).imp fun vs H Q E z=>z⟩) (fun _ _ a ns hl _ hS=>⟨a,ns,rfl,hS,hl,fun _=>rfl⟩) fun _ _ _ _ _ z=>z
end K15
open PySem PySem.W PyProof.Rows
end
set_option maxRecDepth 100000 in
set_option maxHeartbeats 0 in
theorem PySem.Challenge.cw_manyleaf_k15_whole_boxes_holds : PySem.Challenge.rw_manyleaf_k15_whole_boxes.Holds := by
 refine head_k15 ?_
 k_fill
 refine K15.walk (l:=PySem.Challenge.rw_manyleaf_k15_whole_boxes) rfl rfl (fun w h Y=>PySem.W.kIn_of Y) ?F
 case F=>
  intro w mg fa h KX G hmg
  refine' K15.all_mk KX G hmg ?a_zbg ?in_zbg ?kp_zbg ?mk_zbg ?pg_zbg ?hd_zbg ?po_zbg ?sa_zbg ?mt_zc ?mt_zy ?mt_zr ?mt_zm ?mt_zg ?mt_zd ?mt_zh ?mt_zs ?q_zav ?q_zm ?q_zaq ?q_zh ?q_zak ?q_zj ?q_zi ?q_zk ?q_zaj ?q_zai ?q_zao ?q_zah ?q_zal ?q_zw ?q_zan ?q_zo ?q_zu ?q_zap ?q_zr ?q_zc ?q_zt ?q_zz ?q_zar ?q_ze ?q_zs ?q_zy ?q_zp ?q_zg ?q_zd ?q_zaa ?q_zl ?q_zb ?q_za ?q_zau ?q_zf ?l_zq ?c_zq ?k_zq ?if_zq ?ld_zq ?q_zad ?q_zas ?q_zat ?q_zx ?q_zam ?q_zac ?q_zn ?q_zae ?q_zab ?q_zv ?q_zag ?q_zaf ?a_zaw ?l_zaw ?c_zaw ?k_zaw ?v_zbi ?r_zbi ?v_zbh ?r_zbh ?v_zaz ?r_zaz ?v_zax ?r_zax ?v_zay ?r_zay ?v_zba ?r_zba ?v_zbb ?r_zbb ?z_all ?z_dict ?z_enumerate ?z_int ?z_isinstance ?z_len ?z_list ?z_range ?z_set ?z_sorted ?z_str ?z_tuple ?na_settings ?na_tuples ?na_numbers ?na_sets ?na_kept_rules ?na_bars ?na_free
  (case a_zbg=>k_is)
  (case in_zbg=>k_is)
  (case kp_zbg=>k_is)
  (case mk_zbg=>k_is)
  (case pg_zbg=>k_is)
  (case hd_zbg=>k_is)
  (case po_zbg=>k_is)
  (case sa_zbg=>k_is)
  (case mt_zc=>k_is)
  (case mt_zy=>k_is)
  (case mt_zr=>k_is)
  (case mt_zm=>k_is)
  (case mt_zg=>k_is)
  (case mt_zd=>k_is)
  (case mt_zh=>k_is)
  (case mt_zs=>k_is)
  (case q_zav=>refine' L2.top_mk ?a ?l ?c ?k;(case a=>k_is);(case l=>k_is);(case c=>k_is);(case k=>k_is))
  (case q_zm=>refine' L2.met_mk ?l ?c ?k ?i;(case l=>k_is);(case c=>k_is);(case k=>k_is);(case i=>k_is))
  (case q_zaq=>refine' L2.top_mk ?a ?l ?c ?k;(case a=>k_is);(case l=>k_is);(case c=>k_is);(case k=>k_is))
  (case q_zh=>refine' L2.met_mk ?l ?c ?k ?i;(case l=>k_is);(case c=>k_is);(case k=>k_is);(case i=>k_is))
  (case q_zak=>refine' L2.top_mk ?a ?l ?c ?k;(case a=>k_is);(case l=>k_is);(case c=>k_is);(case k=>k_is))
  (case q_zj=>refine' L2.top_mk ?a ?l ?c ?k;(case a=>k_is);(case l=>k_is);(case c=>k_is);(case k=>k_is))
  (case q_zi=>refine' L2.top_mk ?a ?l ?c ?k;(case a=>k_is);(case l=>k_is);(case c=>k_is);(case k=>k_is))
  (case q_zk=>refine' L2.top_mk ?a ?l ?c ?k;(case a=>k_is);(case l=>k_is);(case c=>k_is);(case k=>k_is))
  (case q_zaj=>refine' L2.top_mk ?a ?l ?c ?k;(case a=>k_is);(case l=>k_is);(case c=>k_is);(case k=>k_is))
  (case q_zai=>refine' L2.top_mk ?a ?l ?c ?k;(case a=>k_is);(case l=>k_is);(case c=>k_is);(case k=>k_is))
  (case q_zao=>refine' L2.top_mk ?a ?l ?c ?k;(case a=>k_is);(case l=>k_is);(case c=>k_is);(case k=>k_is))
  (case q_zah=>refine' L2.top_mk ?a ?l ?c ?k;(case a=>k_is);(case l=>k_is);(case c=>k_is);(case k=>k_is))
  (case q_zal=>refine' L2.top_mk ?a ?l ?c ?k;(case a=>k_is);(case l=>k_is);(case c=>k_is);(case k=>k_is))
  (case q_zw=>refine' L2.top_mk ?a ?l ?c ?k;(case a=>k_is);(case l=>k_is);(case c=>k_is);(case k=>k_is))
  (case q_zan=>refine' L2.top_mk ?a ?l ?c ?k;(case a=>k_is);(case l=>k_is);(case c=>k_is);(case k=>k_is))
  (case q_zo=>refine' L2.top_mk ?a ?l ?c ?k;(case a=>k_is);(case l=>k_is);(case c=>k_is);(case k=>k_is))
  (case q_zu=>refine' L2.top_mk ?a ?l ?c ?k;(case a=>k_is);(case l=>k_is);(case c=>k_is);(case k=>k_is))
  (case q_zap=>refine' L2.top_mk ?a ?l ?c ?k;(case a=>k_is);(case l=>k_is);(case c=>k_is);(case k=>k_is))
  (case q_zr=>refine' L2.met_mk ?l ?c ?k ?i;(case l=>k_is);(case c=>k_is);(case k=>k_is);(case i=>k_is))
  (case q_zc=>refine' L2.met_mk ?l ?c ?k ?i;(case l=>k_is);(case c=>k_is);(case k=>k_is);(case i=>k_is))
  (case q_zt=>refine' L2.top_mk ?a ?l ?c ?k;(case a=>k_is);(case l=>k_is);(case c=>k_is);(case k=>k_is))
  (case q_zz=>refine' L2.top_mk ?a ?l ?c ?k;(case a=>k_is);(case l=>k_is);(case c=>k_is);(case k=>k_is))
  (case q_zar=>refine' L2.top_mk ?a ?l ?c ?k;(case a=>k_is);(case l=>k_is);(case c=>k_is);(case k=>k_is))
  (case q_ze=>refine' L2.top_mk ?a ?l ?c ?k;(case a=>k_is);(case l=>k_is);(case c=>k_is);(case k=>k_is))
  (case q_zs=>refine' L2.met_mk ?l ?c ?k ?i;(case l=>k_is);(case c=>k_is);(case k=>k_is);(case i=>k_is))
  (case q_zy=>refine' L2.met_mk ?l ?c ?k ?i;(case l=>k_is);(case c=>k_is);(case k=>k_is);(case i=>k_is))
  (case q_zp=>refine' L2.top_mk ?a ?l ?c ?k;(case a=>k_is);(case l=>k_is);(case c=>k_is);(case k=>k_is))
  (case q_zg=>refine' L2.met_mk ?l ?c ?k ?i;(case l=>k_is);(case c=>k_is);(case k=>k_is);(case i=>k_is))
  (case q_zd=>refine' L2.met_mk ?l ?c ?k ?i;(case l=>k_is);(case c=>k_is);(case k=>k_is);(case i=>k_is))
  (case q_zaa=>refine' L2.top_mk ?a ?l ?c ?k;(case a=>k_is);(case l=>k_is);(case c=>k_is);(case k=>k_is))
  (case q_zl=>refine' L2.top_mk ?a ?l ?c ?k;(case a=>k_is);(case l=>k_is);(case c=>k_is);(case k=>k_is))
  (case q_zb=>refine' L2.top_mk ?a ?l ?c ?k;(case a=>k_is);(case l=>k_is);(case c=>k_is);(case k=>k_is))
  (case q_za=>refine' L2.top_mk ?a ?l ?c ?k;(case a=>k_is);(case l=>k_is);(case c=>k_is);(case k=>k_is))
  (case q_zau=>refine' L2.top_mk ?a ?l ?c ?k;(case a=>k_is);(case l=>k_is);(case c=>k_is);(case k=>k_is))
  (case q_zf=>refine' L2.top_mk ?a ?l ?c ?k;(case a=>k_is);(case l=>k_is);(case c=>k_is);(case k=>k_is))
  (case l_zq=>k_is)
  (case c_zq=>k_is)
  (case k_zq=>k_is)
  (case if_zq=>k_is)
  (case ld_zq=>k_is)
  (case q_zad=>refine' L2.top_mk ?a ?l ?c ?k;(case a=>k_is);(case l=>k_is);(case c=>k_is);(case k=>k_is))
  (case q_zas=>refine' L2.top_mk ?a ?l ?c ?k;(case a=>k_is);(case l=>k_is);(case c=>k_is);(case k=>k_is))
  (case q_zat=>refine' L2.top_mk ?a ?l ?c ?k;(case a=>k_is);(case l=>k_is);(case c=>k_is);(case k=>k_is))
  (case q_zx=>refine' L2.top_mk ?a ?l ?c ?k;(case a=>k_is);(case l=>k_is);(case c=>k_is);(case k=>k_is))
  (case q_zam=>refine' L2.top_mk ?a ?l ?c ?k;(case a=>k_is);(case l=>k_is);(case c=>k_is);(case k=>k_is))
  (case q_zac=>refine' L2.top_mk ?a ?l ?c ?k;(case a=>k_is);(case l=>k_is);(case c=>k_is);(case k=>k_is))
  (case q_zn=>refine' L2.top_mk ?a ?l ?c ?k;(case a=>k_is);(case l=>k_is);(case c=>k_is);(case k=>k_is))
  (case q_zae=>refine' L2.top_mk ?a ?l ?c ?k;(case a=>k_is);(case l=>k_is);(case c=>k_is);(case k=>k_is))
  (case q_zab=>refine' L2.top_mk ?a ?l ?c ?k;(case a=>k_is);(case l=>k_is);(case c=>k_is);(case k=>k_is))
  (case q_zv=>refine' L2.top_mk ?a ?l ?c ?k;(case a=>k_is);(case l=>k_is);(case c=>k_is);(case k=>k_is))
  (case q_zag=>refine' L2.top_mk ?a ?l ?c ?k;(case a=>k_is);(case l=>k_is);(case c=>k_is);(case k=>k_is))
  (case q_zaf=>refine' L2.top_mk ?a ?l ?c ?k;(case a=>k_is);(case l=>k_is);(case c=>k_is);(case k=>k_is))
  (case a_zaw=>k_is)
  (case l_zaw=>k_is)
  (case c_zaw=>k_is)
  (case k_zaw=>k_is)
  (case v_zbi=>k_is)
  (case r_zbi=>exact⟨_,rfl⟩)
  (case v_zbh=>k_is)
  (case r_zbh=>exact⟨_,rfl⟩)
  (case v_zaz=>k_is)
  (case r_zaz=>exact⟨_,rfl⟩)
  (case v_zax=>k_is)
  (case r_zax=>exact⟨_,rfl⟩)
  (case v_zay=>k_is)
  (case r_zay=>exact⟨_,rfl⟩)
  (case v_zba=>k_is)
  (case r_zba=>exact⟨_,rfl⟩)
  (case v_zbb=>k_is)
  (case r_zbb=>exact⟨_,rfl⟩)
  (case z_all=>k_is)
  (case z_dict=>k_is)
  (case z_enumerate=>k_is)
  (case z_int=>k_is)
  (case z_isinstance=>k_is)
  (case z_len=>k_is)
  (case z_list=>k_is)
  (case z_range=>k_is)
  (case z_set=>k_is)
  (case z_sorted=>k_is)
  (case z_str=>k_is)
  (case z_tuple=>k_is)
  (case na_settings=>k_is)
  (case na_tuples=>k_is)
  (case na_numbers=>k_is)
  (case na_sets=>k_is)
  (case na_kept_rules=>k_is)
  (case na_bars=>k_is)
  (case na_free=>k_is)
#print axioms PySem.Challenge.cw_manyleaf_k15_whole_boxes_holds
