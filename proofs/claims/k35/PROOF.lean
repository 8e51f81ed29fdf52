import PyProof.Rows.All
import Wide.All
import OpenK.AllK
import Wide.FinOn
import PyProof.ToksMono
import Lean
import PyProof.EqAt
import PyProof.EqKinds
import PyProof.TupleCall
import PyProof.NeKinds
import PyProof.ZipIter
import PyProof.StrWalks
import PyProof.ConsumeWalk
import KE.KIsAll
import PyProof.EnumFor
import PyProof.EnumMake
import PyProof.EnumStmt
import PyProof.Rows.EnumRows
import PyProof.DictWalks
import PyProof.Draws
import PyProof.Rows.SetFrom
import PyProof.DictItems
import KE.KDictList
import PyProof.TupleIter
import PyProof.RulesRaise
import PyProof.RulesTry
import PyProof.MeetsIn
import KE.KEqDict
import PyProof.StrOps2
import PyProof.StrCalls6
import PyProof.ListMulRoad
import PyProof.FactsAll.tuple
import KE.KDictOf
import KE.KItem
import KE.KSortTup
import KE.KSortKey
import KE.KItemsList
import PyProof.Rows.Range3
import PyProof.Rows.ChunkLeaf
import KE.KRevIter
import PyProof.StationsW
import PyProof.PassesOwn
import KE.KLam
import KE.KNestM
import PySem.Challenge.RW_manyleaf_k35_whole_two_roads_one_form
set_option Elab.async false
set_option linter.all false
set_option compiler.extract_closed false
set_option bootstrap.genMatcherCode false
set_option maxRecDepth 100000
set_option maxHeartbeats 0
section
open PySem PySem.W PyProof.Rows
namespace PySem.W.Fast
def tw10384057286872786004:=()
def tw10475949832795460392:=()
def tw10541396594812914574:=()
def tw1057400976134969205:=()
def tw10634742973487710503:=()
def tw10985041619262226301:=()
def tw10990019149490361462:=()
def tw11479679922939047298:=()
def tw11599126598600260695:=()
def tw11634283133766843581:=()
def tw11705947067016349479:=()
def tw12100039454877178548:=()
def tw12135821358501735147:=()
def tw1231968320170143937:=()
def tw123703224931547846:=()
def tw12398093764069331363:=()
def tw12418907370602645990:=()
def tw12598595977405387709:=()
def tw12619938315112567576:=()
def tw12712409354470099920:=()
def tw12792654945209937163:=()
def tw13700152129101672895:=()
def tw13764985743812070561:=()
def tw13853336012206515837:=()
def tw13894664950075438025:=()
def tw13963244417365092130:=()
def tw14382895844749602401:=()
def tw14510494459459526049:=()
def tw14975704072432627162:=()
def tw15103010928254772310:=()
def tw15127582973977668342:=()
def tw15171196364155920604:=()
def tw15218467899618486792:=()
def tw15290673534857757097:=()
def tw15660643436170250987:=()
def tw15692652347393950513:=()
def tw1571277185145315862:=()
def tw15770222420837576255:=()
def tw15823133745007730493:=()
def tw16038179198137686214:=()
def tw16325510537652095984:=()
def tw1649896624721924855:=()
def tw1673029835467013408:=()
def tw16788959431183966934:=()
def tw17262094861816790601:=()
def tw17270820012018496729:=()
def tw17440677995519324685:=()
def tw17455282347762459092:=()
def tw175446832595076838:=()
def tw17709262597563445803:=()
def tw17818831099923264449:=()
def tw17922343260438948749:=()
def tw18065127828426817856:=()
def tw1808501239650207518:=()
def tw18142101886093364201:=()
def tw18157496942379658166:=()
def tw1822883223082583896:=()
def tw1827018936119040965:=()
def tw18274754355686690659:=()
def tw1935250000634580162:=()
def tw2086863470104132118:=()
def tw2323106432704476756:=()
def tw2366044384215613324:=()
def tw2541316464395970910:=()
def tw2552907961698586392:=()
def tw2659985583995859105:=()
def tw3323676516966076030:=()
def tw3344987026412614758:=()
def tw3510930040467677258:=()
def tw3536229382505148941:=()
def tw3573491434169838592:=()
def tw3725524062844381642:=()
def tw3886932665422730041:=()
def tw3952346497204524969:=()
def tw4021586183657469433:=()
def tw4088120911088794561:=()
def tw410694855863963121:=()
def tw410770767112745612:=()
def tw4317112077714301125:=()
def tw4370804045940367476:=()
def tw4475896261209140978:=()
def tw4476718061694703665:=()
def tw4728396852652571102:=()
def tw4833561647853343776:=()
def tw500369372040937649:=()
def tw5235087296490754409:=()
def tw5296714676113292189:=()
def tw5876985736162443936:=()
def tw5904220868769279656:=()
def tw5995469215676966857:=()
def tw6212468538283169612:=()
def tw6312719418780276103:=()
def tw6402238594281446700:=()
def tw6458615403805544354:=()
def tw6472862917255205398:=()
def tw6502646332004663156:=()
def tw6879107205466723914:=()
def tw689636864766078365:=()
def tw6915040474540801568:=()
def tw7031635355471972070:=()
def tw7170149186036541286:=()
def tw7440144156420396474:=()
def tw7708208505309737725:=()
def tw7790394311510662891:=()
def tw7812940700058440115:=()
def tw8391796535388497473:=()
def tw8392739806341995099:=()
def tw8470719751042771331:=()
def tw8641929849579128606:=()
def tw8817297517128293166:=()
def tw8849134690723987082:=()
def tw8938735115031677272:=()
def tw907340602573191119:=()
def tw9131570669718634081:=()
def tw9218258432776852027:=()
def tw9248232430267487043:=()
def tw963843325758145950:=()
def tw9707406673513215126:=()
def tw9745651635705052395:=()
def tw9866262555838576944:=()
def tw5653063928815203805:=()
def tw13434646614989791871:=()
def tw17933396728341840182:=()
def tw2282471295237420982:=()
def tw13349300696673172216:=()
def tw5776381624588190640:=()
def tw14477405912158598958:=()
def tw9177559371401250181:=()
def tw1045193776626175687:=()
def tw17869806494818024378:=()
def tw8598719392206808855:=()
def tw6463172069267385423:=()
def tw14632948986045287787:=()
def tw13206026533305459594:=()
def tw16781407258972534257:=()
def tw1682230044943277015:=()
def tw2310143213100519389:=()
def tw10204496137278424839:=()
def tw18061644026620698897:=()
def tw2179989162632824186:=()
def tw17684278474317796182:=()
def tw2142606403154954838:=()
def tw14385378104920311618:=()
def tw4057647076381537306:=()
def tw12278146700739791719:=()
def tw6768108615488599302:=()
def tw15944649184171504238:=()
def tw11564893677237621856:=()
def tw15047002297495231511:=()
def tw8815700943734203856:=()
def tw6637451356075344391:=()
def tw14735868186783181035:=()
def tw8346162783849982988:=()
def tw1987858727374850341:=()
def tw18124489608568217785:=()
def tw5534050997290340395:=()
def tw15272880650774661447:=()
def tw2296498801924703577:=()
def tw12450330176130637837:=()
def tw12456370743842166612:=()
def tw15839163109564590991:=()
def tw1141819132604292312:=()
def tw14249352712628787502:=()
def tw7100875549923550652:=()
def tw8780943097529325142:=()
def tw3874646241040257170:=()
def tw4375393975181020806:=()
def tw16279406116803418166:=()
def tw6648623742638759736:=()
def tw2924353601882234977:=()
def tw11641930055848670429:=()
def tw14011967365887181943:=()
def tw7762504154722751617:=()
def tw5681597676483523449:=()
def tw1986641638078134742:=()
def tw8388108142056085828:=()
def tw2898328711681595405:=()
def tw16671196452822913880:=()
def tw11564024199853695792:=()
def tw17242177923094408590:=()
def tw933156955574472384:=()
def tw5052570648342401743:=()
def tw13195535064493368182:=()
def tw6707084808299298129:=()
def tw12104001938847083812:=()
def tw7558364994804190088:=()
def tw14914198709926458468:=()
def tw13694028633631937962:=()
def tw13442513708096072768:=()
def tw1408971442704964663:=()
def tw2431204340035173317:=()
def tw13591325718908794288:=()
def tw10497184294660301193:=()
def tw9012476108967024194:=()
def tw10779466078377526486:=()
def tw17120603677288661430:=()
def tw15248312719028357954:=()
def tw18021784596913640711:=()
def tw8533339269137371581:=()
def tw13197135022581176788:=()
def tw9324425230393965490:=()
def tw1971831665583256780:=()
def tw912989732314526936:=()
def tw3111786037595496822:=()
def tw8031620408876839703:=()
def tw3150622722890852715:=()
def tw7637343553266592540:=()
def tw3901939963136326566:=()
def tw10269541777477866310:=()
def tw16788174668978645484:=()
def tw5504226766815058525:=()
def tw6421337574253240081:=()
def tw7683736071856305602:=()
def tw17564451403902082482:=()
def tw10547128101653945365:=()
def tw15646051594230795647:=()
def tw12464764799444393251:=()
def tw9483245701694591896:=()
def tw17591989939341782180:=()
def tw15669480908863240399:=()
def tw8116625866608839476:=()
def tw1875367865006759189:=()
def tw11389045186287993480:=()
def tw15388885403743592010:=()
def tw4645108317732769493:=()
def tw559416137241691100:=()
def tw2817121130110855238:=()
def tw14718091459961336607:=()
def tw9640906491846020098:=()
def tw6622238887658345660:=()
def tw18077556782844441715:=()
def tw6348331552270499610:=()
def tw14877396931130271165:=()
def tw1877382603758167675:=()
def tw11661122357880855479:=()
def tw18250498877842931441:=()
def tw7777503050553587825:=()
def tw6926343375129351451:=()
def tw13810928142495869534:=()
def tw11771485758931947027:=()
def tw3874577892873633778:=()
def tw10012325114786289487:=()
def tw4949404377074271414:=()
def tw453452497448778932:=()
def tw3284313033463838359:=()
def tw14435947556139564761:=()
def tw14278512937891666407:=()
def tw15994931278523546267:=()
def tw13827250441214244920:=()
def tw18417765262703999259:=()
def tw12138911494533407099:=()
def tw10615756340116681403:=()
def tw3110462550833462063:=()
def tw17471921217567469670:=()
def tw6408060141643923900:=()
def tw12800736161993263499:=()
def tw4713015677684025322:=()
def tw8879417874773383799:=()
def tw13607007613320583178:=()
def tw1131461125957731323:=()
def tw9018380539136262606:=()
def tw12578044493797459729:=()
def tw6472465538364047768:=()
def tw572296594984377940:=()
def tw1288836517204018459:=()
def tw13767199659606221167:=()
def tw5751157940171492244:=()
def tw468446569152188594:=()
def tw9980766534982522886:=()
def tw16557238525568151612:=()
def tw6648250401206632795:=()
def tw15663109895998306104:=()
def tw4952156878758261962:=()
def tw16839111989459986737:=()
def tw9850569748069727595:=()
def tw17018280902269413768:=()
def tw11254400196923925366:=()
def tw201977966924657520:=()
def tw14943963529387857365:=()
def tw9329572819634104288:=()
def tw3418999711000358006:=()
def tw10671372161928115203:=()
def tw11129337817729685245:=()
def tw199400242805777113:=()
def tw17700627306911676182:=()
def tw14117211416448304552:=()
def tw19157325234637461:=()
def tw17390566135296154654:=()
def tw12550595890368720415:=()
def tw11589722920327527549:=()
def tw93625964753533968:=()
def tw7172881777491400862:=()
def tw5692086541071605279:=()
def tw9225040808098660842:=()
def tw15334421729734895958:=()
def tw8928082553326976765:=()
def tw6490942460106619999:=()
def tw9719337650002631908:=()
def tw8001749752603227648:=()
def tw1345564316335169808:=()
def tw1085835391316500566:=()
def tw11427676451715524565:=()
def tw8579288123226886259:=()
def tw3549294077335737227:=()
def tw6085412387871710281:=()
def tw5266678859086116779:=()
def tw12366433107137791699:=()
def tw8455953861660242967:=()
def tw15403343862707975143:=()
def tw1490434775714196064:=()
def tw11535150837568775386:=()
def tw3060923839979009064:=()
def tw15674664334276514031:=()
def tw13682363346383875672:=()
def tw15659868400700537876:=()
def tw13912789162043236969:=()
def tw9609947229164472414:=()
def tw4275521799333633359:=()
def tw2787661038386527054:=()
def tw6412745556471943844:=()
def tw6480390682563669725:=()
def tw13740968763763764514:=()
def tw11140485693058142325:=()
def tw4784258989464066841:=()
def tw2042605109677289703:=()
def tw3036584395203826660:=()
def tw2226018898889599198:=()
def tw17828631769688990902:=()
def tw12917166069592835153:=()
def tw3332578665819260670:=()
def tw3120444263319604118:=()
def tw16656259690365946227:=()
def tw8654580914816876405:=()
def tw15892051196987472864:=()
def tw15263872325870349012:=()
def tw10816371829528870953:=()
def tw1697022248394995946:=()
def tw16805862750438337804:=()
def tw9819490814049205198:=()
def tw1011298513400616759:=()
def tw7608192594770387707:=()
def tw7129596760671904495:=()
def tw5703643001016454905:=()
def tw2920512864959386779:=()
def tw13595340405814267359:=()
def tw12856027143200880805:=()
def tw11154579093800781620:=()
def tw1428370624413233408:=()
def tw13825839773526793779:=()
def tw9507029055767269502:=()
def tw7453337764184378830:=()
def tw7183966462137450777:=()
def tw4553212606707813336:=()
def tw3600177760087729569:=()
def tw1914252314153102345:=()
def tw18100238548829787128:=()
def tw1798452453232813185:=()
def tw17244720241706789289:=()
def tw1686143342288001253:=()
def tw15566744730792511658:=()
def tw15128507408054254474:=()
def tw14733162542360798402:=()
end PySem.W.Fast
open_top head_k35 for PySem.Challenge.rw_manyleaf_k35_whole_two_roads_one_form
end
noncomputable section
local macro_rules|`(tactic|trivial)=>`(tactic|first|exact Nat.le_refl _|exact Nat.le_add_right _ _|exact .inl rfl|exact .inr rfl|assumption|omega|(dsimp only;omega))
open Array renaming getElem?_eq_getElem->ba,length_toList->cb,getElem?_toList->cA,perm_iff_toList_perm->iz,forIn_toList->iH,map->iW,getElem?_eq_none->jE
open Bool renaming false_ne_true->aM,and_eq_true->aU,eq_iff_iff->bK,or_eq_true->cJ,false_eq_true->dR,beq_eq_decide_eq->fA,and_false->g4,and_true->hV,not_eq_true'->iX,false_or->jf,true_and->jg,false_and->kq
open Classical renaming propDecidable->eX,byContradiction->iK
open False renaming elim->ca
open ForInStep renaming yield->fC
open Iff renaming rfl->iL
open Int renaming toNat_natCast->bb,emod_lt_of_pos->cH,emod_nonneg->dm,mul_le_mul_of_nonneg_left->g6,fdiv_eq_ediv_of_nonneg->iD,emod_add_mul_ediv->jK,natCast_mul->jL,one_mul->kJ,toNat->lT
open LawfulBEq renaming eq_of_beq->cK
open List renaming length_map->ae,mem_of_getElem?->ah,getElem?_eq_getElem->ak,getElem?_map->ao,mem_map->aq,map_map->au,map_append->aw,mem_append->ax,size_toArray->ay,getD_eq_getElem?_getD->az,mem_cons_of_mem->aA,mem_cons->aB,mem_cons_self->aD,mem_append_right->aE,length_take->aF,length_append->aG,mem_singleton->aH,take_length->aI,mem_map_of_mem->aL,take_add_one->aN,length_cons->aP,length_reverse->aS,range->aV,getElem?_eq_some_iff->aW,map_cons->a7,mem_iff_getElem?->a8,length_range->bg,all_eq_true->bh,mem_append_left->bo,getElem?_append_right->bq,map_congr_left->bu,mem_reverse->bD,getElem?_append_left->bE,nodup_cons->bG,getElem?_cons_succ->bN,length_eq_zero_iff->bO,length_filter_le->bQ,all_cons->bV,length_singleton->bW,mem_filter->bX,map_reverse->bZ,append_nil->b5,foldl_cons->b7,length->b9,not_mem_nil->cf,mem_range->cx,append_assoc->cE,take_of_length_le->cI,nodup_append->cM,pairwise_map->cN,getElem_mem->cS,isEmpty_iff->cT,lookup_cons->cU,perm_ext_iff_of_nodup->cW,getElem?_eq_none->dq,take_sublist_take_left->dG,any_eq_true->dM,getElem_inj->dN,getElem_map->dO,pairwise_cons->dW,toArray->dX,take_sublist->eh,map_nil->eU,filter_eq_self->eY,getElem?_cons_zero->eZ,getElem?_range->e_,mem_filterMap->fw,find?_cons->fE,any_cons->fP,foldl_append->fQ,mem_iff_getElem->fZ,mem_of_mem_take->f6,nodup_nil->f_,lookup->gh,all_map->gn,Pairwise->gx,getElem?_replicate->gy,map_take->gC,of_mem_zip->gE,zip_cons_cons->gG,reverse_perm->gT,Sublist->g5,map_eq_cons_iff->g9,Perm->ie,filterMap_cons->ig,length_set->ii,getElem?_zip_eq_some->iN,lt_irrefl->iO,pairwise_iff_getElem->iP,any_eq_false->i3,flatMap_cons->i4,getElem?_inj->i5,map_snd_zip->jx,mem_flatMap->jy,getElem?_set_self->jF,any_map->jM,range_succ->jN,getElem?_set_ne->j8,reverse_reverse->j9,filter_sublist->kK,length_pos_iff->kL,map_eq_nil_iff->kM,filter_append->kY,getElem_range->kZ,map->k0
open List.Pairwise renaming map->iZ
open List.Perm renaming refl->iM
open List.Sublist renaming refl->d_
open Nat renaming le_refl->af,le_of_ble_eq_true->aC,ne_of_lt->aQ,lt_of_lt_of_le->aR,le_trans->aT,lt_of_le_of_lt->be,le_add_right->bn,zero_le->bw,succ_le_succ->bJ,testBit_two_pow->cZ,zero_add->du,lt_succ_self->dB,zero_testBit->dP,le_succ_of_le->eo,ne_of_gt->eV,le_succ->fe,exists_testBit_of_ne_zero->fm,testBit_or->fu,le_of_lt->fF,testBit_and->fH,lt_irrefl->fS,sub_self->gp,lt_succ_of_lt->gU,eq_of_testBit_eq->g_,add_assoc->hX,testBit_xor->jO,two_pow_pos->jP,pow_le_pow_right->j_,pos_of_ne_zero->k6,le_of_eq->lJ,lt_trans->lK,min_self->lL
open Ne renaming symm->cj
open Option renaming some->a9,map_some->cB,map_eq_some_iff->cY,toList_some->dz,isSome_iff_exists->eC,bind_some->g7,map->lE
open Option.some renaming inj->aJ,injEq->gW
open Prod renaming ext->lO,fst->lP
open PyProof.Rows renaming seqObj->bH,callWith_type1->bS,get?_update_seq->eJ,callWith_builtin1->eW,listUpdate_at->fh,boot_list->gO,seqEpoch_at->iw,tail_of_ItemOn->iU,boot_tuple->ji,keyKind'->jr,subscriptTail_builtinR->jG,boot_int->jR,listItems_at->j0,size_push'->j6,callWith_builtin_kwB->kg,entry_proto_collect'->kh,envOfC->kz,AllBare->kH,IntsAre->lU,bubble->mf,SortKind->ml,general'->mo,IsTup->my
open PyProof.Rows.F renaming plain_set_update_loop->gw,entry_set_update_loop->jh
open PyProof.Rows.SortSt renaming mk'->lF
open PySem renaming wpAny_bind->ag,Value->am,wpAny_pure->ar,Shared->av,Builtin->aX,wpAny->aY,Program->a_,FuncData->bj,Around->bv,wpAny_holding->bz,wpAny_with_toks->bA,World->bB,Spec->bM,wpAny_mono->bU,sizeLine_eq->b_,mem_of_lookup->ce,wpAny_call_entry->cq,wpAny_typeNameOfWhole_keyiter->cr,compareOp->cy,wpAny_Call_Name_kw->cz,wpAny_callSpecial?_slot->cF,wpAny_newObj_type->cG,bootBuiltins->cO,wpAny_typeNameOf_keyiter->cP,wpAny_dictEpoch->cR,NameKind->cX,sysModules->c8,wpAny_truthy_bool->c9,starEach->df,codeAny_builtin->dy,assignEach->dA,binaryOp->dL,DictEntry->d9,Paired->eE,wpAny_dictEntries->eK,wpAny_loadPart'->eN,wpAny_passesOwn->eO,codeAny_mono->fO,foldedSetIterable->fT,wpAny_newList->fU,wpAny_pyIter_dict->fV,wpAny_standAt->fW,wpAny_forIn_list->gg,wpAny_rule->gv,behindInMarks->gM,wpAny_pyIter_enum->gZ,rawInt->hO,bindArgs->h9,builtinsNs->h_,valueAt->ix,wpAny_execs_nil->iy,wpAny_letOwnedTupleGo_enum->iF,wpAny_newFunctionEnv_cells->iG,call_meetsIn->iJ,placesWithHash->iT,wpAny_fieldsOf->iV,PassesOwn->i6,swapsWith->jb,wpAny_call->jc,wpAny_pyIter_list->jd,wpAny_sequenceKey->je,attributeBase->jq,keywordEach->jt,relabel->ju,wpAny_Call_method0_late->jv,wpAny_attempt->jw,noFill_tuple_add->jA,wpAny_eqBool_int->jB,wpAny_eqBool_str->jC,wpAny_isInstance->jD,wpAny_pyNext_dict_item->jH,Within->jU,backTo->jW,codeAny->jX,letOwnedTupleGo->jZ,wpAny_isOneOf_keyiter->j1,wpAny_notOrdered_dict->j2,wpAny_specialOf->j3,call_meets->j4,closureFor->j5,intBits_le_iff->ke,wpAny_pyIter_keyiter->kj,wpAny_pyIter_revIter->km,firstArgMember->kC,wpAny_newTuple->kD,wpAny_runValue->kE,wpAny_setField->kG,evalArgs_none->kO,wpAny_field->kX,lastMarks->lq,plainId_quiet->lx,seq_tuple_add->ly,wpAny_evalAll_cons->lA,wpAny_missed_other->lB,BindsTo->lC,notedBy->lG,concat_meets->lN,backToKw->lQ,CmpOp->lR,Keyword->lV,Fin->lW,callerA->lX,cellsFrom->lY,collect->lZ,eqIsQuiet->l6,getItem->l7,pyIter->l9,pyNext->l_,assign->ma,GenState->mh,Operator->mj,dictGet->mn,getAttr->mq,setItem->mw,unaryOp->mx,Walks->mz
open PySem.Around renaming under_plainId->fY,under->lH
open PySem.Builtin renaming bitNot->cw,bitAnd->cD,bitOr->cL
open PySem.Builtin.Dict renaming showsAll->jI,missed->kI
open PySem.Builtin.Int renaming intBits->ib
open PySem.Builtin.List renaming listFitsIndex->fX,listTooLong->iY
open PySem.Builtin.Slice renaming slicePlaces->dZ,sliceAdjust->f9,sliceApplied->iA
open PySem.Builtin.SmallTypes renaming nextOf->c_
open PySem.Builtin.Tuple renaming tupleHashOf->cu,tupleExact->d7,tupleItemsOf->iB
open PySem.Calls renaming spliced_cons->dS,spliced_nil->d8,callWith_builtin->gN,Name_function_global->iC
open PySem.Code renaming quiet_builtin->iI,isFrame->lI
open PySem.F renaming slot_dict_keyiterator_next->bY,plainAttrs_list->dD,slot_dict_get->dY,args_dict_keyiterator_next_1->eQ,entry_dict_keyiterator_next->fj,entry_dict_get->fv,called_set->fB,args_tuple_add_2->gu,entry_tuple_add->gI,plainAttrs_dict->gJ,slot_tuple_add->gQ,slot_tuple_hash->gS,slot_dict_setdefault->hZ,slot_list_insert->i7,args_dict_get_2->jj,args_dict_get_3->jk,plain_list_iadd->jm,slot_dict_items->jo,slot_enumerate_next->jJ,slot_list_contains->j7
open PySem.Heap renaming get?_push_of_some->ai,get?_push_size->aK,lt_size->aO,SameBut->bP,get?_update_self->dU,size_push->d6,ExtBut->lS
open PySem.Heap.SameBut renaming update->bI
open PySem.MeetsSeq renaming entry_contains_loop->kU,plain_contains_loop->kW
open PySem.NameKind renaming free->fc
open PySem.Obj renaming mapSeq->bL,isFreed_of_dict->gj,data_mapDictKeys->hJ,data_mapDict->jz,data_mapFields->k9
open PySem.Paired renaming length->gH
open PySem.PassesOwn renaming never->jQ
open PySem.Sem renaming wp_bind'->lM
open PySem.SeqAt renaming EqAt->bx,RcNeAt->fK,RcAt->gY
open PySem.SeqAt.EqAt renaming int_str->k_,str_int->lh
open PySem.SeqAt.RcAt renaming tuples->i_
open PySem.SeqAt.RcNeAt renaming lists_lengths->iE
open PySem.Str renaming empty->cQ,ofString->fM
open PySem.Value renaming ref->bC,none->bT,type->ja,isStrOf->jp,isStrOf_shape->kQ
open PySem.W renaming Frag->ac,keepIn->bF,findIn->bR,fnOf->cC,emptyDict->c7,nsIn->dw,codeIn->dE,isFn->dF,instObj->dH,kia_one->dI,makesIn->dJ,codeHdIn->dQ,kas_ask->eG,specialIn->eI,plainGet_of->fg,KatTups->fI,takesIn->fJ,kitOne->ga,plainGet->ge,kla_obj->gL,cellsFrom_some->gR,hasDictIn->gX,kat_cons->g8,mg_of->h7,codeHd_of_K->ij,copiedNames->ip,kat_yes->iq,kas_place->iu,kat_go->iQ,lookIn->iR,tabObj->iS,methodObj->i8,plainOver->i9,OpenLaw->jS,takerIn->jT,kas_rev->jY,kat_no->ku,keq_eq->kx,kla_fn->ky,kas_desc->lj,kas_asc->mr
open PySem.W.KatTups renaming cons->kc,nil->kN
open Sum renaming inr->cV,inl->jV
open Sum.inr renaming inj->fN
open True renaming intro->aZ
namespace L2
open PySem PySem.Spec PyProof.Rows
abbrev Key:=Sum Int Str
def N1:Key->am->Bool
 |.inl k,v=>Value.isInt k v
 |.inr x,v=>jp x v
def bv7(w:bB):Key->Int
 |.inl k=>hashInt k
 |.inr x=>hashStr w x
theorem A3:∀{k} {v},N1 k v=true->(∃i t,k=jV i/\v=Value.int i t)\/(∃x t,k=cV x/\v=Value.str x t)
 | .inl i,v,h=>by
  obtain⟨t,e⟩:=Value.isInt_shape h
  exact .inl ⟨i,t,rfl,e⟩
 | .inr x,v,h=>by
  obtain⟨t,e⟩:=kQ h
  exact .inr ⟨x,t,rfl,e⟩
def Z0(i:Int)(t:Tok):N1 (.inl i) (.int i t)=true:=by simp[N1,Value.isInt]
def Z1(x:Str)(t:Tok):N1 (.inr x) (.str x t)=true:=by simp[N1,jp]
def bf5(a b:Int):decide ((jV a:Key)=jV b)=(a==b):=by
 by_cases e:a=b
 .subst e;simp
 .have h:¬ (jV a:Key)=jV b:=λq=>e (Sum.inl.inj q)
  rw[decide_eq_false h]
  exact(beq_eq_false_iff_ne.mpr e).symm
def bf9(a b:Str):decide ((cV a:Key)=cV b)=decide (a=b):=by
 by_cases e:a=b
 .subst e;simp
 .have h:¬ (cV a:Key)=cV b:=λq=>e (fN q)
  rw[decide_eq_false h,decide_eq_false e]
def bf6(a:Int)(b:Str):decide ((jV a:Key)=cV b)=false:=decide_eq_false (λq=>nomatch q)
def bf8(a:Str)(b:Int):decide ((cV a:Key)=jV b)=false:=decide_eq_false (λq=>nomatch q)
def Bd(prog:a_)(w:bB):PySem.KeyKind prog w Key where
 is:=N1
 hash:=bv7 w
 inj:=λv a b ha hb=>by
  rcases A3 ha with⟨i,t,rfl,rfl⟩|⟨x,t,rfl,rfl⟩
  .rcases A3 hb with⟨j,u,rfl,e⟩|⟨y,u,rfl,e⟩
   .injection e with e1 _;rw[e1]
   .exact nomatch e
  .rcases A3 hb with⟨j,u,rfl,e⟩|⟨y,u,rfl,e⟩
   .exact nomatch e
   .injection e with e1 _;rw[e1]
 byValue:=λk v h=>by
  rcases A3 h with⟨i,t,rfl,rfl⟩|⟨x,t,rfl,rfl⟩ <;> rfl
 pyHash:=λhv h=>by
  rcases A3 hv with⟨i,t,rfl,rfl⟩|⟨x,t,rfl,rfl⟩
  .exact wpAny_pyHash_int h
  .exact wpAny_pyHash_str h
 eqBool:=λhu hv h=>by
  rcases A3 hu with⟨i,t,rfl,rfl⟩|⟨x,t,rfl,rfl⟩
  .rcases A3 hv with⟨j,u,rfl,rfl⟩|⟨y,u,rfl,rfl⟩
   .rw[bf5] at h;exact jB h
   .rw[bf6] at h;exact k_ i t y u _ _ _ _ h
  .rcases A3 hv with⟨j,u,rfl,rfl⟩|⟨y,u,rfl,rfl⟩
   .rw[bf8] at h;exact lh x t j u _ _ _ _ h
   .rw[bf9] at h;exact jC h
 «strs»:=λk x t v h=>by
  rcases A3 h with⟨i,u,rfl,e⟩|⟨y,u,rfl,e⟩
  .exact nomatch e
  .injection e with e1 _
   subst e1
   cases v <;> rfl
def Si(prog:a_)(w:bB)(i:Int)(t:Tok):(Bd prog w).is (.inl i) (.int i t)=true:=Z0 i t
def Sj(prog:a_)(w:bB)(x:Str)(t:Tok):(Bd prog w).is (.inr x) (.str x t)=true:=Z1 x t
inductive V where
 |non|bl (b:Bool)|int (i:Int)|str (x:Str)|ref (a:Addr)|ty (n:String)
 deriving DecidableEq
def RelV:V->am->Prop
 |.non,u=>u=bT
 |.bl b,u=>u=Value.bool b
 |.int i,u=>∃t,u=Value.int i t
 |.str x,u=>∃t,u=Value.str x t
 |.ref a,u=>u=bC a
 |.ty n,u=>u=ja n
def V.pl(_:V):Bool:=true
abbrev Vals:List V->List am->Prop:=eE RelV
theorem Vals.length{xs:List V}{us:List am}(r:Vals xs us):xs.length=us.length:=gH r
theorem Vals.get:∀{xs} {us}{i:Nat}{x:V},Vals xs us->xs[i]?=some x -> ∃u,us[i]?=some u/\RelV x u
 |_,_,_,_,.nil,e=>by simp at e
 |_,_,0,_,.cons r _,e=>by simp at e;subst e;exact⟨_,rfl,r⟩
 | _,_,i+1,x,.cons _ t,e=>by
  obtain⟨u,h1,h2⟩:=Vals.get t (e)
  exact⟨u,by simpa using h1,h2⟩
theorem Vals.append:∀{xs ys} {us ws},Vals xs us->Vals ys ws->Vals (xs++ys) (us++ws)
 |_,_,_,_,.nil,s=>s
 |_,_,_,_,.cons r t,s=>.cons r (Vals.append t s)
theorem Vals.take:∀{xs} {us} n,Vals xs us->Vals (xs.take n) (us.take n)
 |_,_,0,_=>.nil
 |_,_,_+1,.nil=>.nil
 |_,_,n+1,.cons r t=>.cons r (Vals.take n t)
theorem Vals.drop:∀{xs} {us} n,Vals xs us->Vals (xs.drop n) (us.drop n)
 |_,_,0,r=>r
 |_,_,_+1,.nil=>.nil
 |_,_,n+1,.cons _ t=>Vals.drop n t
def RelO:Option V->Option am->Prop
 |some v,some u=>RelV v u
 |none,none=>True
 |_,_=>False
def KV{κ:Type}:List (κ×V)->List (κ×am)->Prop:=eE λp q=>p.1=q.1/\RelV p.2 q.2
def kV:Key->V
 |.inl i=>.int i
 |.inr x=>.str x
def B7:V->Bool
 |.non=>true
 |.bl _=>true
 |.int _=>true
 |.str _=>true
 |_=>false
def eqV:V->V->Bool
 |.non,.non=>true
 |.bl a,.bl b=>a==b
 |.bl a,.int b=>(if a then 1 else 0)==b
 |.int a,.bl b=>a==(if b then 1 else 0)
 |.int a,.int b=>a==b
 |.str a,.str b=>a==b
 |_,_=>false
def Pd{A:bv}{s:av}{y x:V}{u v:am}(ry:RelV y u)(rx:RelV x v)(fy:B7 y=true)(fx:B7 x=true):bx A s u v (eqV y x):=by
 cases y with
 |non=>
  cases ry
  cases x with
  |non=>cases rx;exact SeqAt.EqAt.same _
  |bl b=>cases rx;exact SeqAt.EqAt.none_bool b
  |int b=>obtain⟨t,rfl⟩:=rx;exact SeqAt.EqAt.none_int b t
  |str b=>obtain⟨t,rfl⟩:=rx;exact SeqAt.EqAt.none_str b t
  |_=>exact absurd (fx) aM
 |bl a=>
  cases ry
  cases x with
  |non=>cases rx;exact SeqAt.EqAt.bool_none a
  |bl b=>cases rx;exact SeqAt.EqAt.bool_bool a b
  |int b=>obtain⟨t,rfl⟩:=rx;exact SeqAt.EqAt.bool_int a b t
  |str b=>obtain⟨t,rfl⟩:=rx;exact SeqAt.EqAt.bool_str a b t
  |_=>exact absurd (fx) aM
 |int a=>
  obtain⟨t',rfl⟩:=ry
  cases x with
  |non=>cases rx;exact SeqAt.EqAt.int_none a t'
  |bl b=>cases rx;exact SeqAt.EqAt.int_bool a t' b
  |int b=>obtain⟨t,rfl⟩:=rx;exact SeqAt.EqAt.int_int a t' b t
  |str b=>obtain⟨t,rfl⟩:=rx;exact k_ a t' b t
  |_=>exact absurd (fx) aM
 |str a=>
  obtain⟨t',rfl⟩:=ry
  cases x with
  |non=>cases rx;exact SeqAt.EqAt.str_none a t'
  |bl b=>cases rx;exact SeqAt.EqAt.str_bool a t' b
  |int b=>obtain⟨t,rfl⟩:=rx;exact lh a t' b t
  |str b=>obtain⟨t,rfl⟩:=rx;exact SeqAt.EqAt.str_str a t' b t
  |_=>exact absurd (fx) aM
 |_=>exact absurd (fy) aM
inductive TK where
 |at_ (k:Key)
 |tup (l:List TK)
noncomputable instance:DecidableEq TK:=λ_ _=>eX _
mutual
def TkIs(P:a_)(w:bB)(h:Heap):TK->am->Prop
 |.at_ k,v=>(Bd P w).is k v=true
 |.tup l,v=>∃a ψ,v=.ref a/\my h a ψ/\TksAre P w h l ψ.toList
def TksAre(P:a_)(w:bB)(h:Heap):List TK->List am->Prop
 |[],vs=>vs=[]
 |k::ks,vs=>∃v r,vs=v::r/\TkIs P w h k v/\TksAre P w h ks r
end
mutual
def Br(w:bB):TK->Int
 |.at_ k=>bv7 w k
 |.tup l=>reduceHash (cu (Bk w l))
def Bk(w:bB):List TK->List Int
 |[]=>[]
 |k::ks=>Br w k::Bk w ks
end
mutual
def Dd:TK->Nat
 |.at_ _=>1
 |.tup l=>Bw l+1
def Bw:List TK->Nat
 |[]=>0
 |k::ks=>Dd k+Bw ks
end
mutual
def Ap:TK->Nat
 |.at_ _=>0
 |.tup l=>Ck l+1
def Ck:List TK->Nat
 |[]=>0
 |k::ks=>Nat.max (Ap k) (Ck ks)
end
theorem E4:∀{l} {k},k∈l->Ap k<=Ck l
 |[],_,h=>by cases h
 | x::l,k,h=>by
  rcases List.mem_cons.mp h with rfl|h
  .exact Nat.le_max_left _ _
  .exact aT (E4 h) (Nat.le_max_right _ _)
theorem Ib(w:bB):∀a b,Bk w (a++b)=Bk w a++Bk w b
 |[],_=>by unfold Bk;rfl
 | x::a,b=>by
  show Br w x::Bk w (a++b)=Br w x::(Bk w a++Bk w b)
  rw[Ib w a b]
theorem Ia:∀a b,Bw (a++b)=Bw a+Bw b
 |[],_=>by show Bw _=0+_;rw[du];rfl
 | x::a,b=>by
  show Dd x+Bw (a++b)=Dd x+Bw a+Bw b
  rw[Ia a b,hX]
section
variable {P:a_}{w:bB}
def Oh(k:TK):∀{A} {E} {s} {v} {Q},A.units+Ap k<cLine->TkIs P w s.heap k v->Q (Br w k) {s with toks:=s.toks+Dd k}->aY (model P w) A (pyHash v) Q E s:=by
 refine TK.rec (motive_1:=λk=>∀{A} {E} {s} {v} {Q},A.units+Ap k<cLine->TkIs P w s.heap k v->Q (Br w k) {s with toks:=s.toks+Dd k}->aY (model P w) A (pyHash v) Q E s)
  (motive_2:=λl=>∀k∈l,∀{A} {E} {s} {v} {Q},A.units+Ap k<cLine->TkIs P w s.heap k v->Q (Br w k) {s with toks:=s.toks+Dd k}->aY (model P w) A (pyHash v) Q E s)
  ?_ ?_ ?_ ?_ k
 .intro k A E s v Q _ hk h
  exact(Bd P w).pyHash hk h
 .intro l ih A E s v Q hu hk h
  obtain⟨a,ψ,rfl,ht,hi⟩:=hk
  have hT:=ht.typeIs
  obtain⟨o,ho,hc,n,hd⟩:=ht
  have hu:A.units+(Ck l+1)<cLine:=hu
  first|unfold pyHashByItsType|skip
  first|refine ag (wpAny_cRoomFor_or (.inr (by omega)) ?_)|skip
  refine ag (j3 hT F.slot_tuple_hash.lookup ?_)
  rw[if_neg (by rw[beq_builtin_none];exact aM)]
  refine ag (j3 hT F.slot_tuple_hash.lookup ?_)
  refine ag (wpAny_callSpecialIfBoundUnlessNone?_slot hT gS (cq gS hT F.entry_tuple_hash ?_ (F.args_tuple_hash_1 _)))
  show aY _ _ (iB (.ref a) >>= _) _ _ s
  refine ag (wpAny_tupleItemsOf ho hd ?_)
  refine ag ?_
  rw[<- iH]
  refine gg _
   (λrest b s'=>∃done left,l=done++left/\TksAre P w s.heap left rest/\b.toList=Bk w done/\s'={s with toks:=s.toks+Bw done})
   _ ?_ ?_ _ _ ⟨[],l,rfl,hi,rfl,rfl⟩
  .rintro x rest b s' ⟨done,left,rfl,hl,hb,rfl⟩
   cases left with
   |nil=>unfold TksAre at hl;cases hl
   |cons k ks=>
    obtain⟨v,r,e,h1,hl'⟩:=hl
    cases e
    have hm:k∈done++k::ks:=aE _ aD
    have dk:=E4 hm
    have dr:Bw (done++[k])=Bw done+Dd k:=by rw[Ia];show _+(Dd k+0)=_;omega
    have hh:Bk w (done++[k])=Bk w done++[Br w k]:=by rw[Ib];rfl
    refine ag (ih k hm (by first|omega|(show A.units+1+Ap k<cLine;omega)) h1 ?_)
    first
     |exact ar ⟨done++[k],ks,by simp,hl',by rw[hh];simp[hb],by rw[dr];simp[hX]⟩
     |exact ag (ar (ar ⟨done++[k],ks,by simp,hl',by rw[hh];simp[hb],by rw[dr];simp[hX]⟩))
  .rintro b s' ⟨done,left,rfl,hl,hb,rfl⟩
   cases left with
   |cons k ks=>unfold TksAre at hl;obtain⟨v,r,e,_⟩:=hl;cases e
   |nil=>
    rw[b5] at h
    show aY _ _ (retInt (cu b.toList)) _ _ _
    rw[hb]
    refine wpAny_ret_mkInt ?_
    show aY _ _ (if(decide (-(2:Int)^63<=cu (Bk w done))&&decide (cu (Bk w done)<2^63))=true then _ else _) Q E _
    have h:Q (reduceHash (cu (Bk w done))) {s with toks:=s.toks+(Bw done+1)}:=h
    unfold reduceHash at h
    by_cases hr:(decide (-(2:Int)^63<=cu (Bk w done))&&decide (cu (Bk w done)<2^63))=true
    .rw[if_pos hr]
     rw[if_pos hr] at h
     exact ar (by simpa [hX] using h)
    .rw[if_neg hr]
     rw[if_neg hr] at h
     exact ag (gv (ar (by simpa [hX] using h)))
 .exact λk h=>by cases h
 .intro k l h1 h2 x hx
  rcases List.mem_cons.mp hx with rfl|hx
  .exact h1
  .exact h2 x hx
theorem TkIs.inj{h:Heap}(x:TK):∀{y} {v},TkIs P w h x v->TkIs P w h y v->x=y:=by
 refine TK.rec (motive_1:=λx=>∀{y} {v},TkIs P w h x v->TkIs P w h y v->x=y) (motive_2:=λl=>∀{l'} {vs},TksAre P w h l vs->TksAre P w h l' vs->l=l') ?_ ?_ ?_ ?_ x
 .intro k y v h1 h2
  cases y with
  |at_ k'=>unfold TkIs at h2;rw[(Bd P w).inj v k k' h1 h2]
  |tup l=>
   obtain⟨a,χ,rfl,_⟩:=h2
   rcases A3 h1 with⟨i,t,_,e⟩|⟨z,t,_,e⟩ <;> cases e
 .intro l ih y v h1 h2
  obtain⟨a,χ,rfl,t1,i1⟩:=h1
  cases y with
  |at_ k'=>
   rcases A3 h2 with⟨i,t,_,e⟩|⟨z,t,_,e⟩ <;> cases e
  |tup l'=>
   obtain⟨b,its',e,t2,i2⟩:=h2
   cases e
   obtain⟨o,ho,_,n,hd⟩:=t1
   obtain⟨o',ho',_,n',hd'⟩:=t2
   rw[ho] at ho'
   cases ho'
   rw[hd] at hd'
   cases hd'
   rw[ih i1 i2]
 .intro l' vs h1 h2
  subst h1
  cases l' with
  |nil=>rfl
  |cons k r=>unfold TksAre at h2;obtain⟨v,r',e,_⟩:=h2;cases e
 .intro k l ih1 ih2 l' vs h1 h2
  obtain⟨v,r,rfl,q1,q2⟩:=h1
  cases l' with
  |nil=>unfold TksAre at h2;cases h2
  |cons k' l'=>
   obtain⟨v',r',e,q3,q4⟩:=h2
   cases e
   rw[ih1 q1 q3,ih2 q2 q4]
theorem TksAre.len{h:Heap}:∀{l} {vs},TksAre P w h l vs->vs.length=l.length
 |[],vs,q=>by unfold TksAre at q;rw[q];rfl
 | k::l,vs,q=>by
  obtain⟨v,r,rfl,_,q2⟩:=q
  rw[aP,aP,TksAre.len q2]
theorem TksAre.get{h:Heap}:∀{l} {vs}{j:Nat}{v:am},TksAre P w h l vs->vs[j]?=some v -> ∃k,l[j]?=some k/\TkIs P w h k v
 |[],vs,j,v,q,e=>by unfold TksAre at q;rw[q] at e;simp at e
 | k::l,vs,j,v,q,e=>by
  obtain⟨v',r,rfl,q1,q2⟩:=q
  cases j with
  |zero=>
   have:v'=v:=by simpa using e
   exact⟨k,rfl,this▸q1⟩
  |succ j=>
   obtain⟨k',e1,e2⟩:=TksAre.get q2 (show r[j]?=some v by simpa using e)
   exact⟨k',by simpa using e1,e2⟩
def Po{k:Key}{v:am}(h:(Bd P w).is k v=true):RelV (kV k) v:=by
 rcases A3 h with⟨i,t,rfl,rfl⟩|⟨x,t,rfl,rfl⟩ <;> exact⟨t,rfl⟩
def Pm(k:Key):B7 (kV k)=true:=by cases k <;> rfl
def ag9(k k':Key):decide (TK.at_ k=TK.at_ k')=eqV (kV k) (kV k'):=by
 have e:(TK.at_ k=TK.at_ k')↔k=k':=⟨λh=>by injection h,λh=>by rw[h]⟩
 rw[bK,decide_eq_true_iff,e]
 cases k with
 |inl i=>
  cases k' with
  |inl j=>show _↔(i==j)=true;rw[beq_iff_eq];exact⟨λh=>by injection h,λh=>by rw[h]⟩
  |inr y=>exact⟨λh=>(nomatch h),λh=>absurd (h) aM⟩
 |inr x=>
  cases k' with
  |inl j=>exact⟨λh=>(nomatch h),λh=>absurd (h) aM⟩
  |inr y=>show _↔(x==y)=true;rw[beq_iff_eq];exact⟨λh=>by injection h,λh=>by rw[h]⟩
def al2{l l':List TK}(z:TK)(h:l.length=l'.length):decide (l=l')=(aV l.length).all λj=>decide (l.getD j z=l'.getD j z):=by
 rw[bK,decide_eq_true_iff,bh]
 refine⟨λe j _=>by rw[e];exact decide_eq_true rfl,λq=>List.ext_getElem h λi h1 h2=>?_⟩
 have:=of_decide_eq_true (q i (List.mem_range.mpr h1))
 rwa[az,az,ak h1,ak h2] at this
def Y5(x:TK):∀{y} {A} {s} {u v},A.units+Ap x<cLine->TkIs P w s.heap x u->TkIs P w s.heap y v->bx A s u v (decide (x=y)):=by
 refine TK.rec (motive_1:=λx=>∀{y} {A}{s:av}{u v:am},A.units+Ap x<cLine->TkIs P w s.heap x u->TkIs P w s.heap y v->bx A s u v (decide (x=y)))
  (motive_2:=λl=>∀x∈l,∀{y:TK}{A:bv}{s:av}{u v:am},A.units+Ap x<cLine->TkIs P w s.heap x u->TkIs P w s.heap y v->bx A s u v (decide (x=y))) ?_ ?_ ?_ ?_ x
 .intro k y A s u v hu h1 h2
  have hu:=hu
  cases y with
  |at_ k'=>unfold TkIs at h2;rw[ag9];exact Pd (Po h1) (Po h2) (Pm k) (Pm k')
  |tup l=>
   obtain⟨a,χ,rfl,t,_⟩:=h2
   rw[decide_eq_false (λz=>by cases z)]
   rcases A3 h1 with⟨i,t',rfl,rfl⟩|⟨x,t',rfl,rfl⟩
   .exact .int_tuple i t' t (by omega)
   .exact .str_tuple x t' t (by omega)
 .intro l ih y A s u v hu h1 h2
  have hd:A.units+(Ck l+1)<cLine:=hu
  have h0:=h1
  obtain⟨a,χ,rfl,t1,i1⟩:=h1
  cases y with
  |at_ k'=>
   rw[decide_eq_false (λz=>by cases z)]
   rcases A3 h2 with⟨i,t',rfl,rfl⟩|⟨x,t',rfl,rfl⟩
   .exact .tuple_int i t' t1 (by omega)
   .exact .tuple_str x t' t1 (by omega)
  |tup l'=>
   have h3:=h2
   obtain⟨b,its',rfl,t2,i2⟩:=h2
   by_cases e:a=b
   .subst e
    rw[decide_eq_true (TkIs.inj _ h0 h3)]
    exact .same _
   refine .of_refs e ?_
   have e1:=i1.len
   have e2:=i2.len
   have T:=i_ (A:=A) (e:=λj=>decide (l.getD j (.tup [])=l'.getD j (.tup []))) t1 t2 (by omega) λj q1 q2=>by
    obtain⟨k1,g1,r1⟩:=i1.get (j:=j) (v:=χ[j]) (by simp[q1])
    obtain⟨k2,g2,r2⟩:=i2.get (j:=j) (v:=its'[j]) (by simp[q2])
    have hm:=ah g1
    have:=E4 hm
    rw[az,az,g1,g2]
    exact ih k1 hm (by show A.units+1+Ap k1<cLine;omega) r1 r2
   have dt:decide (TK.tup l=TK.tup l')=decide (l=l'):=by
    rw[bK,decide_eq_true_iff,decide_eq_true_iff]
    exact⟨λh=>by injection h,λh=>by rw[h]⟩
   rw[dt]
   have s1:χ.size=l.length:=by rw[<- e1];simp
   have s2:its'.size=l'.length:=by rw[<- e2];simp
   rw[s1,s2] at T
   by_cases hl:l.length=l'.length
   .rw[al2 (.tup []) hl]
    rw[hl,lL,beq_self_eq_true,hV] at T
    rw[hl]
    exact T
   .rw[decide_eq_false λz=>hl (by rw[z])]
    rw[beq_eq_false_iff_ne.mpr hl,g4] at T
    exact T
 .exact λk h=>by cases h
 .intro k l h1 h2 x hx
  rcases List.mem_cons.mp hx with rfl|hx
  .exact h1
  .exact h2 x hx
def Tv(x:TK):∀{n} {A} {E} {s} {v} {Q},Ap x<=n->TkIs P w s.heap x v->Q true s->aY (model P w) A (l6 n v) Q E s:=by
 refine TK.rec (motive_1:=λx=>∀{n} {A} {E}{s:av}{v:am}{Q:Bool->av->Prop},Ap x<=n->TkIs P w s.heap x v->Q true s->aY (model P w) A (l6 n v) Q E s)
  (motive_2:=λl=>∀x∈l,∀{n:Nat}{A:bv}{E:am->av->Prop}{s:av}{v:am}{Q:Bool->av->Prop},Ap x<=n->TkIs P w s.heap x v->Q true s->aY (model P w) A (l6 n v) Q E s) ?_ ?_ ?_ ?_ x
 .intro k n A E s v Q _ hk h
  rw[eqIsQuiet_byValue _ ((Bd P w).byValue _ _ hk)]
  exact ar h
 .intro l ih n A E s v Q hn hk h
  have hn:Ck l+1<=n:=hn
  obtain⟨m,rfl⟩:∃m,n=m+1:=⟨n-1,by omega⟩
  obtain⟨a,ψ,rfl,ht,hi⟩:=hk
  have hT:=ht.typeIs
  obtain⟨o,ho,hc,n',hd⟩:=ht
  unfold l6
  refine ag (j3 hT F.slot_tuple_eq.lookup ?_)
  refine ag (jD hT isSubtype_tuple_tuple ?_)
  refine ag (wpAny_seqItems ho hd ?_)
  refine ag ?_
  rw[<- iH]
  refine gg _ (λrest r s'=>r.1=none/\s'=s/\∀v∈rest,∃k∈l,TkIs P w s.heap k v) _ ?_ ?_ _ _ ⟨rfl,rfl,λv hv=>?_⟩
  .rintro v rest r s' ⟨hr,rfl,hall⟩
   obtain⟨k,hk,q⟩:=hall v aD
   have:=E4 hk
   refine ag (ih k hk (by omega) q ?_)
   exact ar ⟨rfl,rfl,λu hu'=>hall u (aA _ hu')⟩
  .rintro⟨r1,r2⟩ s' ⟨hr,rfl,_⟩
   subst hr
   exact ar h
  .obtain⟨j,hj⟩:=List.mem_iff_getElem?.mp hv
   obtain⟨k,e,q⟩:=hi.get hj
   exact⟨k,ah e,q⟩
 .exact λk h=>by cases h
 .intro k l h1 h2 x hx
  rcases List.mem_cons.mp hx with rfl|hx
  .exact h1
  .exact h2 x hx
end
inductive HO where
 |lst (xs:List V)
 |tup (xs:List V)
 |dK (kvs:List (Key×V))|dT (kvs:List (TK×V))
 |ins (C dx:Addr) (fs:List (Str×V))
 |own (x:Addr)
 |frz (o:Obj) (u:HO)
 |tbl (ps:Array am)
 |ext (φ:Heap->Prop)
abbrev Hp:=Addr->Option HO
def upd(H:Hp)(a:Addr)(o:HO):Hp:=λb=>if b=a then some o else H b
def Aa{H:Hp}{a:Addr}{o:HO}:upd H a o a=some o:=by unfold upd;rw[if_pos rfl]
def Ad{H:Hp}{a b:Addr}{o:HO}(h:b≠a):upd H a o b=H b:=by unfold upd;rw[if_neg h]
def bw2{H:Hp}{a b:Addr}{o u:HO}(h:H a=some o)(h':H b=some u)(d:o≠u):a≠b:=by
 intro e;subst e;rw[h] at h';exact d (aJ h')
def Ai{H:Hp}{a b:Addr}{o:HO}(h:H a=some o)(h':H b=none):a≠b:=by
 intro e;subst e;rw[h] at h';cases h'
mutual
def TkAt(H:Hp):TK->V->Prop
 |.at_ k,v=>v=kV k
 |.tup l,v=>∃a xs,v=.ref a/\H a=some (.tup xs)/\Au H l xs
def Au(H:Hp):List TK->List V->Prop
 |[],vs=>vs=[]
 |k::ks,vs=>∃v r,vs=v::r/\TkAt H k v/\Au H ks r
end
def TkAt.up{H H':Hp}(h:∀b ys,H b=some (.tup ys)->H' b=some (.tup ys))(x:TK):∀{v},TkAt H x v->TkAt H' x v:=by
 refine TK.rec (motive_1:=λx=>∀{v},TkAt H x v->TkAt H' x v) (motive_2:=λl=>∀{vs},Au H l vs->Au H' l vs) ?_ ?_ ?_ ?_ x
 .intro k v q;unfold TkAt at q ⊢;exact q
 .intro l ih v q
  obtain⟨a,xs,e,t,i⟩:=q
  exact⟨a,xs,e,h _ _ t,ih i⟩
 .intro vs q;unfold Au at q ⊢;exact q
 .intro x l h1 h2 vs q
  obtain⟨v,r,e,q1,q2⟩:=q
  exact⟨v,r,e,h1 q1,h2 q2⟩
def KT(w:bB)(H:Hp)(kvs:List (TK×V))(es:Array d9):Prop:=es.size=kvs.length/\(kvs.map (·.1)).Nodup/\∀(j:Nat)(e:d9),es[j]?=some e -> ∃k v u,kvs[j]?=some (k,v)/\Ap k<=8/\TkAt H k u/\RelV u e.key/\e.hash=Br w k/\RelV v e.val
def KT.keeps{w:bB}{H H':Hp}{kvs:List (TK×V)}{es:Array d9}(r:KT w H kvs es)(ht:∀b ys,H b=some (.tup ys)->H' b=some (.tup ys)):KT w H' kvs es:=
 ⟨r.1,r.2.1,λj e h=>let⟨k,v,u,a,b,c,d⟩:=r.2.2 j e h;⟨k,v,u,a,b,c.up ht _,d⟩⟩
section
variable (P:a_) (w:bB)
def ObjOk(H:Hp)(h:Heap)(a:Addr):HO->Prop
 |.lst xs=>xs.length<=sizeLine/\∃χ n,Vals xs χ/\h.get? a=some {cls:=.type "list", data:=.seq χ.toArray n}
 |.tup xs=>xs.length<=sizeLine/\∃χ,Vals xs χ/\my h a χ.toArray
 |.dK kvs=>kvs.length<=sizeLine/\(a==c8)=false/\∃vs,KV kvs vs/\h.DictOf (Bd P w) a vs
 |.dT kvs=>kvs.length<=sizeLine/\(a==c8)=false/\∃o es ep,h.get? a=some o/\o.ExactDict/\o.data=.dict es ep/\KT w H kvs es
 | .ins C dx fs=>H dx=some (.own a)/\fs.length<=1000/\dx≠a/\h.get? a=some (dH C dx) /\
   ∃mA,h.Ns1 dx mA/\(∀f,RelO (fs.lookup f) (mA f))/\jU mA (fs.map (·.1))
 |.own _=>∃o,h.get? a=some o
 |.frz o u=>h.get? a=some o/\ObjOk H h a u
 |.tbl ps=>h.get? a=some {cls:=.none,data:=.fields ps}
 |.ext φ=>φ h/\(∃o,h.get? a=some o)/\∀h1 h2,φ h1->(∀o,h1.get? a=some o->h2.get? a=some o)->φ h2
def HOk(H:Hp)(h:Heap):Prop:=∀a o,H a=some o->ObjOk P w H h a o
end
section
variable {P:a_}{w:bB}{H H':Hp}{h h':Heap}{a:Addr}{o:HO}
theorem ObjOk.lt(x:ObjOk P w H h a o):a<h.objs.size:=by
 cases o with
 |lst xs=>obtain⟨_,_,_,_,e⟩:=x;exact aO e
 |tup xs=>obtain⟨_,_,_,p⟩:=x;exact p.lt
 |dK kvs=>obtain⟨_,_,_,_,o,_,_,e,_⟩:=x;exact aO e
 |dT kvs=>obtain⟨_,_,o,_,_,e,_⟩:=x;exact aO e
 |ins C dx fs=>obtain⟨_,_,_,e,_⟩:=x;exact aO e
 |own y=>obtain⟨_,e⟩:=x;exact aO e
 |frz ob u=>obtain⟨e,_⟩:=x;exact aO e
 |tbl ps=>exact aO (x)
 |ext φ=>obtain⟨_,⟨_,e⟩,_⟩:=x;exact aO e
theorem Paired.mapP{α β:Type}{F G:α->β->Prop}:∀{l₁} {l₂},eE F l₁ l₂->(∀a b,F a b->G a b)->eE G l₁ l₂
 |_,_,.nil,_=>.nil
 |_,_,.cons r t,f=>.cons (f _ _ r) (Paired.mapP t f)
def ObjOk.stay(x:ObjOk P w H h a o)(k:∀b u,(b=a\/H b=some (.own a))->h.get? b=some u->h'.get? b=some u)(ho:∀b,H b=some (.own a)->H' b=some (.own a))(ht:∀b xs,H b=some (.tup xs)->H' b=some (.tup xs)):ObjOk P w H' h' a o:=by
 induction o with
 |lst xs=>obtain⟨z,χ,n,r,e⟩:=x;exact⟨z,χ,n,r,k _ _ (.inl rfl) e⟩
 |tup xs=>obtain⟨z,χ,r,ob,e,c⟩:=x;exact⟨z,χ,r,ob,k _ _ (.inl rfl) e,c⟩
 |dK kvs=>obtain⟨z,y,vs,r,ob,es,ep,e,c⟩:=x;exact⟨z,y,vs,r,ob,es,ep,k _ _ (.inl rfl) e,c⟩
 |dT kvs=>obtain⟨z,y,ob,es,ep,e,c,d,r⟩:=x;exact⟨z,y,ob,es,ep,k _ _ (.inl rfl) e,c,d,r.keeps ht⟩
 |ins C dx fs=>
  obtain⟨d,z,ne,e,mA,⟨od,es,ep,e2,c⟩,r⟩:=x
  exact⟨ho _ d,z,ne,k _ _ (.inl rfl) e,mA,⟨od,es,ep,k _ _ (.inr d) e2,c⟩,r⟩
 |own y=>obtain⟨ob,e⟩:=x;exact⟨ob,k _ _ (.inl rfl) e⟩
 |frz ob u ih=>obtain⟨e,q⟩:=x;exact⟨k _ _ (.inl rfl) e,ih q⟩
 |tbl ps=>
  have e:=x
  exact k a _ (.inl rfl) e
 |ext φ=>obtain⟨p,⟨o,e⟩,st⟩:=x;exact⟨st _ _ p λo q=>k _ _ (.inl rfl) q,⟨o,k _ _ (.inl rfl) e⟩,st⟩
theorem HOk.lt(x:HOk P w H h)(e:H a=some o):a<h.objs.size:=(x a o e).lt
def HOk.fresh(x:HOk P w H h)(e:h.objs.size<=a):H a=none:=by
 cases q:H a with
 |none=>rfl
 |some u=>exact absurd (aR (x.lt q) e) (fS _)
def HOk.kept(x:HOk P w H h)(k:∀b u,h.get? b=some u->h'.get? b=some u):HOk P w H h':=λa o e=>
 (x a o e).stay (λb u _ q=>k b u q) (λ_ q=>q) λ_ _ q=>q
def HOk.laid(x:HOk P w H h)(k:∀b u,h.get? b=some u->h'.get? b=some u)(hp:h.objs.size<=a)(new:ObjOk P w (upd H a o) h' a o):HOk P w (upd H a o) h':=λb u e=>by
 have hn:=x.fresh hp
 by_cases hb:b=a
 .subst hb;rw[Aa] at e;cases e;exact new
 .rw[Ad hb] at e
  exact(x b u e).stay (λc v _ q=>k c v q) (λc q=>by rw[Ad (Ai q hn)];exact q) λc xs q=>by rw[Ad (Ai q hn)];exact q
end
def Rd(H:Hp)(a:Addr)(u:HO):Prop:=H a=some u \/ ∃o,H a=some (.frz o u)
def Rd.ok{P:a_}{w:bB}{H:Hp}{h:Heap}{a:Addr}{u:HO}(r:Rd H a u)(x:HOk P w H h):ObjOk P w H h a u:=by
 rcases r with r|⟨o,r⟩
 .exact x a u r
 .obtain⟨_,q⟩:=x a _ r
  exact q
def Mut:Option HO->Prop
 |some (.lst _)=>True
 |some (.dK _)=>True
 |some (.dT _)=>True
 |some (.ins _ _ _)=>True
 |some (.ext _)=>True
 |_=>False
section
variable {P:a_}{w:bB}{H:Hp}{h h':Heap}{x e:Addr}{o':HO}
def HOk.write(ok:HOk P w H h)(mu:Mut (H x))(he:e=x\/H e=some (.own x))(k:∀b u,b≠e->h.get? b=some u->h'.get? b=some u)(heo:∃u,h'.get? e=some u)(new:ObjOk P w (upd H x o') h' x o'):HOk P w (upd H x o') h':=λb u q=>by
 have nown:∀c y,H c=some (.own y)->c≠x:=λc y r z=>by subst z;rw[r] at mu;exact mu
 have ntup:∀c xs,H c=some (.tup xs)->c≠x:=λc xs r z=>by subst z;rw[r] at mu;exact mu
 by_cases hb:b=x
 .subst hb;rw[Aa] at q;cases q;exact new
 .rw[Ad hb] at q
  by_cases hbe:b=e
  .have q':H b=some (.own x):=by
    rcases he with z|z
    .exact absurd (hbe.trans z) hb
    .rw[hbe];exact z
   rw[q] at q';cases q'
   obtain⟨v,hv⟩:=heo
   exact⟨v,by rw[hbe];exact hv⟩
  .refine (ok b u q).stay (λc v hc r=>k c v ?_ r) (λc r=>by rw[Ad (nown c b r)];exact r) λc xs r=>by rw[Ad (ntup c xs r)];exact r
   rcases hc with rfl|hc
   .exact hbe
   .rintro rfl
    rcases he with z|z
    .exact nown c b hc z
    .rw[hc] at z;cases z;exact hb rfl
end
structure Un (fs ex:List Addr) (H H':Hp) (h h':Heap):Prop where
 keep:∀b o,h.get? b=some o->H b=none->b∉fs->b∉ex->h'.get? b=some o
 slot:∀b o,h.get? b=some o->H b=none->b∈fs->b∉ex -> ∃sl,h'.get? b=some {o with slots:=sl}
 free:∀b o,h.get? b=some o->H b=none->b∉ex->H' b=none
 there:∀b o,h.get? b=some o->b∉ex -> ∃o',h'.get? b=some o'
 tups:∀b xs,H b=some (.tup xs)->H' b=some (.tup xs)
 frzs:∀b o u,H b=some (.frz o u)->H' b=some (.frz o u)
 tbls:∀b ps,H b=some (.tbl ps) -> ∃more,H' b=some (.tbl (ps++more))
section
variable {fs fs' ex ex':List Addr}{H H1 H2:Hp}{h h1 h2 h':Heap}{a x e:Addr}{o:HO}
def Un.any(u:Un fs ex H H1 h h1){b:Addr}{ob:Obj}(q:h.get? b=some ob)(n:H b=none)(hx:b∉ex):∃sl,h1.get? b=some {ob with slots:=sl}:=by
 by_cases hb:b∈fs
 .exact u.slot b ob q n hb hx
 .exact⟨ob.slots,u.keep b ob q n hb hx⟩
def Un.kept(k:∀b u,h.get? b=some u->h'.get? b=some u):Un fs ex H H h h':=
 ⟨λb ob q _ _ _=>k b ob q,λb ob q _ _ _=>⟨ob.slots,k b ob q⟩,λ_ _ _ n _=>n,λb ob q _=>⟨ob,k b ob q⟩,λ_ _ q=>q,λ_ _ _ q=>q,λ_ ps q=>⟨#[],by rw[q];simp⟩⟩
def Un.refl:Un fs ex H H h h:=Un.kept λ_ _ q=>q
def Un.laid(k:∀b u,h.get? b=some u->h'.get? b=some u)(hp:h.objs.size<=a)(hn:H a=none):Un fs ex H (upd H a o) h h' where
 keep:=λb u q _ _ _=>k b u q
 slot:=λb u q _ _ _=>⟨u.slots,k b u q⟩
 free:=λb u q n _=>by rw[Ad (aQ (aR (aO q) hp))];exact n
 there:=λb u q _=>⟨u,k b u q⟩
 tups:=λb xs q=>by rw[Ad (Ai q hn)];exact q
 frzs:=λb u xs q=>by rw[Ad (Ai q hn)];exact q
 tbls:=λb ps q=>⟨#[],by rw[Ad (Ai q hn),q];simp⟩
def Un.write(mu:Mut (H x))(he:e=x\/H e=some (.own x))(k:∀b u,b≠e->h.get? b=some u->h'.get? b=some u)(heo:∃u,h'.get? e=some u):Un fs ex H (upd H x o) h h':=by
 have hx:∀b,H b=none->b≠x:=λb n z=>by subst z;rw[n] at mu;exact mu
 have hb:∀b,H b=none->b≠e:=λb n z=>by
  subst z
  rcases he with r|r
  .exact hx b n r
  .rw[n] at r;cases r
 have hm:∀b u,H b=some u -> ¬ Mut (some u)->b≠x:=λb u q nm z=>by subst z;rw[q] at mu;exact nm mu
 refine⟨λb u q n _ _=>k b u (hb b n) q,λb u q n _ _=>⟨u.slots,k b u (hb b n) q⟩,λb u q n _=>by rw[Ad (hx b n)];exact n,λb u q _=>?_,
  λb xs q=>by rw[Ad (hm b _ q λz=>z)];exact q,λb u xs q=>by rw[Ad (hm b _ q λz=>z)];exact q,λb ps q=>⟨#[],by rw[Ad (hm b _ q λz=>z),q];simp⟩⟩
 by_cases hbe:b=e
 .subst hbe;exact heo
 .exact⟨u,k b u hbe q⟩
end
def trk(h:Heap)(H:Hp):List Addr:=(aV h.objs.size).filter λa=>(H a).isSome
def Ph(h:Heap)(H:Hp):Heap:=PySem.W.hideAll h (trk h H)
def Zw(h:Heap)(H:Hp):(Ph h H).objs.size=h.objs.size:=PySem.W.hideAll_size _ _
def ak1{h:Heap}{H:Hp}{b:Addr}{o:Obj}(e:h.get? b=some o)(n:H b=none):(Ph h H).get? b=some o:=
 PySem.W.hideAll_get _ e λhm=>by
  have q:=(List.mem_filter.mp hm).2
  rw[n] at q;simp at q
def a12{h:Heap}{H:Hp}{b:Addr}{o:Obj}(e:(Ph h H).get? b=some o):h.get? b=some o/\H b=none:=by
 have e':=PySem.W.of_hideAll (trk h H) e
 refine⟨e',?_⟩
 cases q:H b with
 |none=>rfl
 |some x=>
  have hm:b∈trk h H:=List.mem_filter.mpr ⟨List.mem_range.mpr (aO e'),by simp[q]⟩
  have z:(Ph h H).get? b=none:=PySem.W.hideAll_none (trk h H) hm
  rw[z] at e;cases e
structure Mod (K:ac) (mg:Str->Option am) (base:Heap):Prop where
 kin:K.In base
 glob:base.Ns mainGlobals mg
 blt:∃mb,base.Ns h_ mb/\∀x:Str,x ≠ "__name__" -> mb x=cO x
 nolimit:base.NoLimit
structure Cx where
 prog:a_
 w:bB
 K:ac
 mg:Str->Option am
 base:Heap
 A:bv
 N:List Str
 s₀:av
 H₀:Hp
 env:Env
 outer:List Env
 stack:List Env
 ex:List Addr
 fn:Str->Bool
 calm:Bool
 pn:List (Addr×Obj)
 xe:am->av->Prop
def frs(l:List Env):List Addr:=l.filterMap (·.frame)
abbrev Cx.fs(X:Cx):List Addr:=frs X.outer
def Vis(sc:Scope)(x:Str):Prop:=sc.names.lookup x=some .local\/sc.names.lookup x=some .cell\/sc.names.lookup x=some .free
def Loc(sc:Scope)(x:Str):Prop:=sc.names.lookup x=some .local\/sc.names.lookup x=some .cell
def b79(env:Env)(h:Heap)(m:Str->Option am)(x:Str)(u:am):Prop:=
 (env.kindOf x=some .local/\m x=some u)\/((env.kindOf x=some .cell\/env.kindOf x=some .free)/\∃c,env.cells.lookup x=some c/\h.IsCell c (some u))
def Xi(_:ac)(_:Nat):Prop:=True
structure Cx.Ok (X:Cx):Prop where
 mod:Mod X.K X.mg X.base
 kind:X.env.scope.kind=.function
 glob:X.env.globals=mainGlobals
 blt:X.env.builtins=h_
 above:X.s₀.heap.objs.size<=X.env.locals
 inj:∀x y c,X.env.cells.lookup x=some c->X.env.cells.lookup y=some c->x=y
 has:∀x,(X.env.kindOf x=some .cell\/X.env.kindOf x=some .free) -> ∃c,X.env.cells.lookup x=some c
 cab:∀x c,X.fn x=true->X.env.cells.lookup x=some c->X.s₀.heap.objs.size<=c
 hd:X.calm=true->X.A.handled=none
 frames:X.A.frames=some X.stack
 stk:X.stack=X.outer\/(X.stack=X.env::X.outer/\X.env.frame=some X.env.locals)
 exf:∀b∈X.ex,b≠X.env.locals/\∀x c,X.env.cells.lookup x=some c->c≠b
 bs:∀b o,X.base.get? b=some o->X.s₀.heap.get? b=some o/\X.H₀ b=none
 bsz:X.base.objs.size<=X.s₀.heap.objs.size
 noex:∀b o,X.base.get? b=some o->b∉X.ex
 exfs:∀b∈X.ex,b∉X.fs
 funs:X.s₀.heap.FunFrames X.base X.outer
 frf:∀b∈X.fs,X.H₀ b=none
 tk:Xi X.K X.s₀.toks
structure Inv (X:Cx) (ξ:List (Addr×Obj)) (σ:List (Option V)) (H:Hp) (s:av):Prop where
 ok:X.Ok
 os:s.os=X.s₀.os/\X.s₀.toks<=s.toks
 bare:kH s.gens
 base:Un X.fs X.ex X.H₀ H X.s₀.heap s.heap
 loc:∃m,s.heap.Ns X.env.locals m/\∀(i:Nat)(x:Str)(v:V),X.N[i]?=some x->σ[i]?=some (some v)->Vis X.env.scope x -> ∃u,RelV v u/\b79 X.env s.heap m x u
 cell:∀x c,X.env.cells.lookup x=some c -> ∃v,s.heap.IsCell c v
 free:H X.env.locals=none
 freeC:∀x c,X.env.cells.lookup x=some c->H c=none
 pin:∀p∈X.pn++ξ,s.heap.get? p.1=some p.2/\H p.1=none/\p.1≠X.env.locals/\p.1∉X.fs/\∀v,p.2.data≠.cell v
 hok:HOk X.prog X.w H s.heap
 len:σ.length=X.N.length
section
variable {X:Cx}{ξ:List (Addr×Obj)}{σ:List (Option V)}{H H':Hp}{s:av}{h':Heap}
def Cx.Ok.nofr(ok:X.Ok){b:Addr}{o:Obj}(e:X.base.get? b=some o):b∉X.fs:=λhb=>by
 have:=(ok.funs.mem hb).1
 rw[e] at this;cases this
theorem Inv.bs(I:Inv X ξ σ H s):∀b o,X.base.get? b=some o->s.heap.get? b=some o/\H b=none:=λb o e=>
 ⟨I.base.keep b o (I.ok.bs b o e).1 (I.ok.bs b o e).2 (I.ok.nofr e) (I.ok.noex b o e),I.base.free b o (I.ok.bs b o e).1 (I.ok.bs b o e).2 (I.ok.noex b o e)⟩
def Inv.bk(I:Inv X ξ σ H s):∀b o,X.base.get? b=some o->s.heap.get? b=some o:=λb o e=>(I.bs b o e).1
theorem Inv.mod(I:Inv X ξ σ H s):Mod X.K X.mg X.base:=I.ok.mod
def Inv.kIn(I:Inv X ξ σ H s):X.K.In s.heap:=I.ok.mod.kin.keeps I.bk
theorem Inv.lt(I:Inv X ξ σ H s):X.env.locals<s.heap.objs.size:=let⟨_,hn,_⟩:=I.loc;hn.lt
def Inv.sz(I:Inv X ξ σ H s):X.s₀.heap.objs.size<=s.heap.objs.size:=aT I.ok.above (fF I.lt)
def Inv.nofs(I:Inv X ξ σ H s){a:Addr}(h:s.heap.objs.size<=a):a∉X.fs:=λhb=>by
 obtain⟨_,o,ho,_⟩:=I.ok.funs.mem hb
 exact absurd (aR (aO ho) (aT I.sz h)) (fS _)
def Inv.cne(I:Inv X ξ σ H s):∀x c,X.env.cells.lookup x=some c->c≠X.env.locals:=λx c e z=>by
 obtain⟨v,o,ho,hd⟩:=I.cell x c e
 obtain⟨m,⟨o',es,ep,ho',hd',_⟩,_⟩:=I.loc
 rw[z,ho'] at ho;cases ho;rw[hd'] at hd;cases hd
theorem Inv.funs(I:Inv X ξ σ H s):s.heap.FunFrames X.base X.outer:=by
 have all:∀l,(∀b∈frs l,b∈X.fs)->X.s₀.heap.FunFrames X.base l->s.heap.FunFrames X.base l:=by
  intro l
  induction l with
  |nil=>intro _ _;trivial
  |cons env r ih=>
   intro hs hl
   obtain⟨hk,⟨L,o,hf,hn,ho,hd⟩,hr⟩:=hl
   have hL:=hs L (by unfold frs;rw[ig,hf];exact aD)
   obtain⟨sl,e⟩:=I.base.slot L o ho (I.ok.frf L hL) hL λz=>I.ok.exfs L z hL
   exact⟨hk,⟨L,_,hf,hn,e,hd⟩,ih (λb hb=>hs b (by unfold frs;rw[ig,hf];exact aA _ hb)) hr⟩
 exact all X.outer (λ_ hb=>hb) I.ok.funs
theorem Inv.stack(I:Inv X ξ σ H s):s.heap.FunFrames X.base X.stack:=by
 rcases I.ok.stk with e|⟨e,hf⟩
 .rw[e];exact I.funs
 .rw[e]
  obtain⟨m,hn,_⟩:=I.loc
  exact .cons (by rw[I.ok.kind];decide) hf hn (Heap.get?_none_of_le (aT I.ok.bsz I.ok.above)) I.funs
def Inv.stkSub(I:Inv X ξ σ H s):∀b∈frs X.stack,b∈X.env.locals::X.fs:=λb hb=>by
 rcases I.ok.stk with e|⟨e,hf⟩
 .rw[e] at hb;exact aA _ hb
 .rw[e] at hb
  unfold frs at hb
  rw[ig,hf] at hb
  exact hb
def Inv.stkFree(I:Inv X ξ σ H s):∀b∈frs X.stack,H b=none:=λb hb=>by
 rcases List.mem_cons.mp (I.stkSub b hb) with e|hb
 .rw[e];exact I.free
 .obtain⟨_,o,ho,_⟩:=I.ok.funs.mem hb
  exact I.base.free b o ho (I.ok.frf b hb) λz=>I.ok.exfs b z hb
def Inv.step{g':Array mh}{t':Nat}{d':Drawn}{ch:List Addr}(I:Inv X ξ σ H s)(hch:∀b∈ch,(b∈X.ex\/X.s₀.heap.objs.size<=b)/\b≠X.env.locals/\(∀x c,X.env.cells.lookup x=some c->c≠b)/\∀p∈X.pn++ξ,p.1≠b)(keep:∀b o,b≠X.env.locals->b∉X.fs->b∉ch->s.heap.get? b=some o->H b=none->h'.get? b=some o)(slot:∀b o,b≠X.env.locals->b∈X.fs->b∉ch->s.heap.get? b=some o->H b=none -> ∃sl,h'.get? b=some {o with slots:=sl})(free:∀b o,b∉ch->s.heap.get? b=some o->H b=none->H' b=none)(there:∀b o,b∉ch->s.heap.get? b=some o -> ∃o',h'.get? b=some o')(tups:∀b xs,H b=some (.tup xs)->H' b=some (.tup xs))(frzs:∀b o u,H b=some (.frz o u)->H' b=some (.frz o u))(tbls:∀b ps,H b=some (.tbl ps) -> ∃more,H' b=some (.tbl (ps++more)))(ns:∀m,s.heap.Ns X.env.locals m->h'.Ns X.env.locals m)(hok:HOk X.prog X.w H' h')(hg:kH g')(ht:s.toks<=t':=by trivial) :
  Inv X ξ σ H' {s with heap:=h',gens:=g',drawn:=d',toks:=t'}:=by
 have neL:∀b o,X.s₀.heap.get? b=some o->b≠X.env.locals:=λb o e=>aQ (aR (aO e) I.ok.above)
 have neC:∀b o,X.s₀.heap.get? b=some o->b∉X.ex->b∉ch:=λb o e hx hb=>by
  rcases(hch b hb).1 with z|z
  .exact hx z
  .exact absurd (aR (aO e) z) (fS _)
 have cellK:∀x c,X.env.cells.lookup x=some c -> ∀v,s.heap.IsCell c v->h'.IsCell c v:=λx c e v ⟨o,ho,hd⟩=>by
  have nch:c∉ch:=λz=>(hch c z).2.2.1 x c e rfl
  by_cases hc:c∈X.fs
  .obtain⟨sl,q⟩:=slot c o (I.cne x c e) hc nch ho (I.freeC x c e)
   exact⟨_,q,hd⟩
  .exact⟨o,keep c o (I.cne x c e) hc nch ho (I.freeC x c e),hd⟩
 refine⟨I.ok,⟨I.os.1,aT I.os.2 ht⟩,hg,⟨λb o e n hb hx=>?_,λb o e n hb hx=>?_,λb o e n hx=>?_,λb o e hx=>?_,λb xs e=>tups b xs (I.base.tups b xs e),λb o xs e=>frzs b o xs (I.base.frzs b o xs e),λb ps e=>?_⟩,?_,λx c e=>?_,?_,λx c e=>?_,λp hp=>?_,hok,I.len⟩
 .exact keep b o (neL b o e) hb (neC b o e hx) (I.base.keep b o e n hb hx) (I.base.free b o e n hx)
 .obtain⟨sl,e1⟩:=I.base.slot b o e n hb hx
  obtain⟨sl',e2⟩:=slot b _ (neL b o e) hb (neC b o e hx) e1 (I.base.free b o e n hx)
  exact⟨sl',e2⟩
 .obtain⟨o',e1⟩:=I.base.there b o e hx
  exact free b o' (neC b o e hx) e1 (I.base.free b o e n hx)
 .obtain⟨o',e1⟩:=I.base.there b o e hx
  exact there b o' (neC b o e hx) e1
 .obtain⟨m1,e1⟩:=I.base.tbls b ps e
  obtain⟨m2,e2⟩:=tbls b _ e1
  exact⟨m1++m2,by rw[e2,Array.append_assoc]⟩
 .obtain⟨m,hn,hl⟩:=I.loc
  refine⟨m,ns m hn,λi x v e1 e2 e3=>?_⟩
  obtain⟨u,r,l⟩:=hl i x v e1 e2 e3
  refine⟨u,r,?_⟩
  rcases l with l|⟨k,c,e,z⟩
  .exact .inl l
  .exact .inr ⟨k,c,e,cellK x c e _ z⟩
 .obtain⟨v,z⟩:=I.cell x c e
  exact⟨v,cellK x c e v z⟩
 .obtain⟨m,⟨o,_,_,ho,_⟩,_⟩:=I.loc
  exact free _ o (λz=>(hch _ z).2.1 rfl) ho I.free
 .obtain⟨v,o,ho,hd⟩:=I.cell x c e
  exact free c o (λz=>(hch c z).2.2.1 x c e rfl) ho (I.freeC x c e)
 .obtain⟨e,n,ne,nf,d⟩:=I.pin p hp
  have nch:p.1∉ch:=λz=>(hch p.1 z).2.2.2 p hp rfl
  exact⟨keep p.1 p.2 ne nf nch e n,free p.1 p.2 nch e n,ne,nf,d⟩
def Inv.un{t':Nat}(I:Inv X ξ σ H s)(u:Un X.fs [] H H' s.heap h')(hok:HOk X.prog X.w H' h')(ht:s.toks<=t':=by trivial):Inv X ξ σ H' {s with heap:=h',toks:=t'}:=by
 obtain⟨m,⟨o,es,ep,ho,r⟩,_⟩:=I.loc
 obtain⟨sl,hL⟩:=u.any ho I.free (by simp)
 exact I.step (ch:=[]) (λ_ z=>nomatch z) (λb o _ hb _ e n=>u.keep b o e n hb (by simp)) (λb o _ hb _ e n=>u.slot b o e n hb (by simp)) (λb o _ e n=>u.free b o e n (by simp)) (λb o _ e=>u.there b o e (by simp)) u.tups u.frzs u.tbls (λm' hm=>by
  obtain⟨o',es',ep',ho',r'⟩:=hm
  rw[ho] at ho';cases ho'
  exact⟨_,es',ep',hL,r'⟩) hok I.bare
def Inv.call{g':Array mh}{t':Nat}{d':Drawn}{ch:List Addr}(I:Inv X ξ σ H s)(u:Un (frs X.stack) ch H H' s.heap h')(hok:HOk X.prog X.w H' h')(hg:kH g')(hch:∀b∈ch,(b∈X.ex\/X.s₀.heap.objs.size<=b)/\b≠X.env.locals/\(∀x c,X.env.cells.lookup x=some c->c≠b)/\∀p∈X.pn++ξ,p.1≠b)(ht:s.toks<=t':=by trivial) :
  Inv X ξ σ H' {s with heap:=h',gens:=g',drawn:=d',toks:=t'}:=by
 obtain⟨m,⟨o,es,ep,ho,r⟩,_⟩:=I.loc
 obtain⟨sl,hL⟩:=u.any ho I.free λz=>(hch _ z).2.1 rfl
 exact I.step hch (λb o hL hb hc e n=>u.keep b o e n (λz=>(List.mem_cons.mp (I.stkSub b z)).elim hL hb) hc) (λb o _ _ hc e n=>u.any e n hc) (λb o hc e n=>u.free b o e n hc) (λb o hc e=>u.there b o e hc) u.tups u.frzs u.tbls (λm' hm=>by
  obtain⟨o',es',ep',ho',r'⟩:=hm
  rw[ho] at ho';cases ho'
  exact⟨_,es',ep',hL,r'⟩) hok hg
def Inv.turned{t':Nat}{it:Addr}(I:Inv X ξ σ H s)(k:∀b o,b≠it->s.heap.get? b=some o->h'.get? b=some o)(hn:H it=none)(hL:it≠X.env.locals)(h1:it∈X.ex\/X.s₀.heap.objs.size<=it)(h2:∀x c,X.env.cells.lookup x=some c->c≠it)(h3:∀p∈X.pn++ξ,p.1≠it)(ht:s.toks<=t':=by trivial):Inv X ξ σ H {s with heap:=h',toks:=t'}:=by
 have nit:∀b u,H b=some u->b≠it:=λb u e z=>by rw[z,hn] at e;cases e
 refine I.step (ch:=[it]) (λb hb=>?_) (λb o _ _ hc e _=>k b o (λz=>hc (by simp[z])) e) (λb o _ _ hc e _=>⟨o.slots,k b o (λz=>hc (by simp[z])) e⟩) (λ_ _ _ _ n=>n)
  (λb o hc e=>⟨o,k b o (λz=>hc (by simp[z])) e⟩) (λ_ _ e=>e) (λ_ _ _ e=>e) (λb ps e=>⟨#[],by rw[e];simp⟩) (λm hm=>?_) (λb u e=>?_) I.bare
 .have e:b=it:=by simpa using hb
  subst e
  exact⟨h1,hL,h2,h3⟩
 .obtain⟨o,es,ep,ho,r⟩:=hm
  exact⟨o,es,ep,k _ o (cj hL) ho,r⟩
 .refine (I.hok b u e).stay (λc v hc q=>k c v ?_ q) (λ_ q=>q) λ_ _ q=>q
  rcases hc with z|z
  .rw[z];exact nit b u e
  .exact nit c _ z
def Inv.tok(I:Inv X ξ σ H s)(t:Nat)(ht:s.toks<=t:=by trivial):Inv X ξ σ H {s with toks:=t}:=I.un Un.refl I.hok ht
theorem Inv.kept{t':Nat}(I:Inv X ξ σ H s)(k:∀b u,s.heap.get? b=some u->h'.get? b=some u)(ht:s.toks<=t':=by trivial):Inv X ξ σ H {s with heap:=h',toks:=t'}:=I.un (Un.kept k) (I.hok.kept k) ht
theorem Inv.laid{a:Addr}{o:HO}{t':Nat}(I:Inv X ξ σ H s)(k:∀b u,s.heap.get? b=some u->h'.get? b=some u)(hp:s.heap.objs.size<=a)(new:ObjOk X.prog X.w (upd H a o) h' a o)(ht:s.toks<=t':=by trivial) :
  Inv X ξ σ (upd H a o) {s with heap:=h',toks:=t'}:=I.un (Un.laid k hp (I.hok.fresh hp)) (I.hok.laid k hp new) ht
theorem Inv.write{x e:Addr}{o:HO}{t':Nat}(I:Inv X ξ σ H s)(mu:Mut (H x))(he:e=x\/H e=some (.own x))(k:∀b u,b≠e->s.heap.get? b=some u->h'.get? b=some u)(heo:∃u,h'.get? e=some u)(new:ObjOk X.prog X.w (upd H x o) h' x o)(ht:s.toks<=t':=by trivial):Inv X ξ σ (upd H x o) {s with heap:=h',toks:=t'}:=I.un (Un.write mu he k heo) (I.hok.write mu he k heo new) ht
def Inv.pins_of{pins':List (Addr×Obj)}(I:Inv X ξ σ H s)(h:∀p∈pins',s.heap.get? p.1=some p.2/\H p.1=none/\p.1≠X.env.locals/\p.1∉X.fs/\∀v,p.2.data≠.cell v):Inv X pins' σ H s:=
 ⟨I.ok,I.os,I.bare,I.base,I.loc,I.cell,I.free,I.freeC,λp hp=>(List.mem_append.mp hp).elim (λz=>I.pin p (bo _ z)) (h p),I.hok,I.len⟩
def Sr{N:List Str}(hN:N.Nodup){i j:Nat}{x:Str}(a:N[i]?=some x)(b:N[j]?=some x):i=j:=by
 obtain⟨h1,e1⟩:=List.getElem?_eq_some_iff.mp a
 obtain⟨h2,e2⟩:=List.getElem?_eq_some_iff.mp b
 exact(dN hN).mp (e1.trans e2.symm)
def ac2{M:Model}{A:bv}{E:am->av->Prop}{i:Nat}{x:Str}{v:V}{u:am}{Q:Unit->av->Prop}(I:Inv X ξ σ H s)(hN:X.N.Nodup)(hi:X.N[i]?=some x)(hx:Loc X.env.scope x)(r:RelV v u)(h:∀s',Inv X ξ (σ.set i (some v)) H s'->(∃a,bP a s.heap s'.heap/\(a=X.env.locals\/X.env.cells.lookup x=some a))->Q () s')(hf:X.fn x=true\/X.env.scope.names.lookup x=some .local:=by trivial):aY M A (storeName X.env x u) Q E s:=by
 obtain⟨m,hn,hl⟩:=I.loc
 have hcls:(X.env.scope.kind==.class||(X.env.scope.kind==.module&&X.env.locals != X.env.globals))=false:=by rw[I.ok.kind];rfl
 have hiσ:i<σ.length:=by rw[I.len];exact(List.getElem?_eq_some_iff.mp hi).1
 have cne:=I.cne
 have tracked:∀{a} {h'},(∃o,s.heap.get? a=some o/\H a=none)->bP a s.heap h'->HOk X.prog X.w H h':=λ{a h'} ha hs b ob e=>by
  obtain⟨_,_,hfree⟩:=ha
  refine(I.hok b ob e).stay (λc w' hc q=>(hs.2 c ?_).trans q) (λ_ q=>q) λ_ _ q=>q
  rintro rfl
  rcases hc with rfl|hc
  .rw[hfree] at e;cases e
  .rw[hfree] at hc;cases hc
 rcases hx with hk|hk
 .refine wpAny_storeName_local hk hn (λh' hn' hs=>?_) hcls
  obtain⟨oL,_,_,hoL,_⟩:=hn
  refine h _ ⟨I.ok,⟨I.os.1,aT I.os.2 (by first|exact af _|exact bn _ _)⟩,I.bare,⟨λb o e n hb hx=>?_,λb o e n hb hx=>?_,I.base.free,λb o e hx=>?_,I.base.tups,I.base.frzs,I.base.tbls⟩,⟨_,hn',λj y v' e1 e2 e3=>?_⟩,λy c e=>?_,I.free,I.freeC,λp hp=>?_,tracked ⟨oL,hoL,I.free⟩ hs,by simpa using I.len⟩ ⟨_,hs,.inl rfl⟩
  .exact (hs.2 b (aQ (aR (aO e) I.ok.above))).trans (I.base.keep b o e n hb hx)
  .obtain⟨sl,e1⟩:=I.base.slot b o e n hb hx
   exact⟨sl,(hs.2 b (aQ (aR (aO e) I.ok.above))).trans e1⟩
  .obtain⟨o',e1⟩:=I.base.there b o e hx
   exact⟨o',(hs.2 b (aQ (aR (aO e) I.ok.above))).trans e1⟩
  .by_cases hj:j=i
   .subst hj
    rw[hi] at e1;cases e1
    rw[jF hiσ] at e2
    cases e2
    exact⟨u,r,.inl ⟨hk,by simp⟩⟩
   .rw[j8 (cj hj)] at e2
    obtain⟨u',r',q⟩:=hl j y v' e1 e2 e3
    refine⟨u',r',?_⟩
    rcases q with⟨k,e⟩|⟨k,c,e,z⟩
    .refine .inl ⟨k,?_⟩
     have:y≠x:=λe=>hj (Sr hN e1 (e▸hi))
     simp[this,e]
    .exact .inr ⟨k,c,e,z.sameBut hs (cne y c e)⟩
  .obtain⟨w',z⟩:=I.cell y c e
   exact⟨w',z.sameBut hs (cne y c e)⟩
  .obtain⟨e,n,ne,nf,d⟩:=I.pin p hp
   exact⟨(hs.2 p.1 ne).trans e,n,ne,nf,d⟩
 .have hfn:X.fn x=true:=by
   rcases hf with z|z
   .exact z
   .rw[z] at hk;cases hk
  obtain⟨c,hc⟩:=I.ok.has x (.inl hk)
  obtain⟨w',z⟩:=I.cell x c hc
  refine wpAny_storeName_cell I.ok.kind hk hc z (λh' hc' hs=>?_)
  obtain⟨oc,hoc,hocd⟩:=z
  refine h {s with heap:=h'} ⟨I.ok,I.os,I.bare,⟨λb o e n hb hx=>?_,λb o e n hb hx=>?_,I.base.free,λb o e hx=>?_,I.base.tups,I.base.frzs,I.base.tbls⟩,⟨m,hn.sameBut hs (cj (cne x c hc)),λj y v' e1 e2 e3=>?_⟩,λy c' e=>?_,I.free,I.freeC,λp hp=>?_,tracked ⟨oc,hoc,I.freeC x c hc⟩ hs,by simpa using I.len⟩ ⟨c,hs,.inr hc⟩
  .exact (hs.2 b (aQ (aR (aO e) (I.ok.cab x c hfn hc)))).trans (I.base.keep b o e n hb hx)
  .obtain⟨sl,e1⟩:=I.base.slot b o e n hb hx
   exact⟨sl,(hs.2 b (aQ (aR (aO e) (I.ok.cab x c hfn hc)))).trans e1⟩
  .obtain⟨o',e1⟩:=I.base.there b o e hx
   exact⟨o',(hs.2 b (aQ (aR (aO e) (I.ok.cab x c hfn hc)))).trans e1⟩
  .by_cases hj:j=i
   .subst hj
    rw[hi] at e1;cases e1
    rw[jF hiσ] at e2
    cases e2
    exact⟨u,r,.inr ⟨.inl hk,c,hc,hc'⟩⟩
   .rw[j8 (cj hj)] at e2
    obtain⟨u',r',q⟩:=hl j y v' e1 e2 e3
    refine⟨u',r',?_⟩
    rcases q with q|⟨k,c',e,z'⟩
    .exact .inl q
    .refine .inr ⟨k,c',e,z'.sameBut hs ?_⟩
     rintro rfl
     exact hj (Sr hN e1 (I.ok.inj _ _ _ e hc▸hi))
  .by_cases hcc:c'=c
   .subst hcc;exact⟨_,hc'⟩
   .obtain⟨w2,z2⟩:=I.cell y c' e
    exact⟨w2,z2.sameBut hs hcc⟩
  .obtain⟨e,n,ne,nf,d⟩:=I.pin p hp
   refine⟨(hs.2 p.1 ?_).trans e,n,ne,nf,d⟩
   intro q
   rw[q,hoc] at e
   have q':=aJ e
   exact d w' (by rw[<- q'];exact hocd)
def Ly{M:Model}{A:bv}{E:am->av->Prop}{i:Nat}{x:Str}{v:V}{u:am}{Q:Unit->av->Prop}(I:Inv X ξ σ H s)(hN:X.N.Nodup)(hi:X.N[i]?=some x)(hx:Loc X.env.scope x)(r:RelV v u)(h:∀s',Inv X ξ (σ.set i (some v)) H s'->Q () s')(hf:X.fn x=true\/X.env.scope.names.lookup x=some .local:=by trivial):aY M A (storeName X.env x u) Q E s:=
 ac2 I hN hi hx r (λs' I' _=>h s' I') hf
def Inv.call'{s':av}{ch:List Addr}(I:Inv X ξ σ H s)(ho:s'.os=s.os/\s.toks<=s'.toks)(u:Un (frs X.stack) ch H H' s.heap s'.heap)(hok:HOk X.prog X.w H' s'.heap)(hg:kH s'.gens)(hch:∀b∈ch,(b∈X.ex\/X.s₀.heap.objs.size<=b)/\b≠X.env.locals/\(∀x c,X.env.cells.lookup x=some c->c≠b)/\∀p∈X.pn++ξ,p.1≠b):Inv X ξ σ H' s':=by
 obtain⟨h',g',d',t',o'⟩:=s'
 have e:=ho.1
 subst e
 exact I.call u hok hg hch ho.2
end
abbrev XK:=am->Option Addr->Hp->Prop
abbrev St:=List (Option V)
abbrev VK:=V->Hp->Prop
abbrev TE:=St->Hp->VK->Prop
abbrev TT:=St->Hp->(Bool->Hp->Prop)->Prop
abbrev TA:=St->Hp->(List V->Hp->Prop)->Prop
structure Rf where
 nx:St->Hp->Prop
 rt:VK
 bk:St->Hp->Prop:=λ_ _=>False
 ct:St->Hp->Prop:=λ_ _=>False
abbrev TS:=Rf->St->Hp->Prop
def EP(X:Cx)(ξ:List (Addr×Obj))(σ:St)(Q:VK)(u:am)(s':av):Prop:=∃v H',Inv X ξ σ H' s'/\RelV v u/\Q v H'
def TP(X:Cx)(ξ:List (Addr×Obj))(σ:St)(Q:Bool->Hp->Prop)(b:Bool)(s':av):Prop:=∃H',Inv X ξ σ H' s'/\Q b H'
def AP(X:Cx)(ξ:List (Addr×Obj))(σ:St)(Q:List V->Hp->Prop)(us:List am)(s':av):Prop:=∃vs H',Inv X ξ σ H' s'/\Vals vs us/\Q vs H'
def SP(X:Cx)(ξ:List (Addr×Obj))(D:Rf)(f:Flow)(s':av):Prop:=
 match f with
 |.next=>∃ σ' H',Inv X ξ σ' H' s'/\D.nx σ' H'
 |.brk=>∃ σ' H',Inv X ξ σ' H' s'/\D.bk σ' H'
 |.cont=>∃ σ' H',Inv X ξ σ' H' s'/\D.ct σ' H'
 |.ret u=>∃v σ' H',Inv X ξ σ' H' s'/\RelV v u/\D.rt v H'
def PE(X:Cx)(e:Expr)(t:TE):Prop:=
 ∀ξ s (σ:St) (H:Hp) (Q:VK),Inv X ξ σ H s->t σ H Q->aY (model X.prog X.w) X.A (eval e X.env) (EP X ξ σ Q) X.xe s
def PT(X:Cx)(e:Expr)(t:TT):Prop:=
 ∀ξ s (σ:St) (H:Hp) (Q:Bool->Hp->Prop),Inv X ξ σ H s->t σ H Q->aY (model X.prog X.w) X.A (isTrue e X.env (eval e X.env)) (TP X ξ σ Q) X.xe s
def PW(X:Cx)(e:Expr)(t:TT):Prop:=
 ∀whole ξ s (σ:St) (H:Hp) (Q:Bool->Hp->Prop),Inv X ξ σ H s->t σ H Q->aY (model X.prog X.w) X.A (isTrue e X.env whole) (TP X ξ σ Q) X.xe s
def PW.pt{X:Cx}{e:Expr}{t:TT}(h:PW X e t):PT X e t:=h _
def PA(X:Cx)(es:List Expr)(t:TA):Prop:=
 ∀pos ξ s (σ:St) (H:Hp) (Q:List V->Hp->Prop),Inv X ξ σ H s->t σ H Q->aY (model X.prog X.w) X.A (spliced (jW pos (df es X.env))) (AP X ξ σ Q) X.xe s
def PS(X:Cx)(st:Stmt)(t:TS):Prop:=
 ∀ξ s (σ:St) (H:Hp) (D:Rf),Inv X ξ σ H s->t D σ H->aY (model X.prog X.w) X.A (exec st X.env) (SP X ξ D) X.xe s
def PSs(X:Cx)(st:List Stmt)(t:TS):Prop:=
 ∀ξ s (σ:St) (H:Hp) (D:Rf),Inv X ξ σ H s->t D σ H->aY (model X.prog X.w) X.A (execs st X.env) (SP X ξ D) X.xe s
def thn{α:Type}{t:Sem α}{Q Q':α->av->Prop}{M:Model}{A:bv}{E:am->av->Prop}{s:av}(h:aY M A t Q E s)(hQ:∀a s,Q a s->Q' a s):aY M A t Q' E s:=bU h hQ λ_ _ x=>x
section
variable {X:Cx}
def ca9(i:Nat):TE:=λσ H Q=>∃v,σ[i]?=some (some v)/\Q v H
def tC(v:V):TE:=λ_ H Q=>Q v H
def bn8{i:Nat}{x:Str}{pos:Pos}(hN:X.N[i]?=some x)(hv:Vis X.env.scope x)(hd:(x==("__debug__" : Str))=false:=by decide)(hcd:(x==("__classdict__" : Str))=false:=by decide):PE X (.Name x pos) (ca9 i):=by
 intro ξ s σ H Q I h
 obtain⟨v,e,h⟩:=h
 obtain⟨m,hn,hl⟩:=I.loc
 obtain⟨u,r,l⟩:=hl i x v hN e hv
 have fin:EP X ξ σ Q u s:=⟨v,H,I,r,h⟩
 rcases l with⟨hk,hm⟩|⟨hk,c,hc,hcell⟩
 .exact wpAny_Name (wpAny_loadName_local I.ok.kind hk hn hm fin) hd
 .rcases hk with hk|hk
  .exact wpAny_Name (wpAny_loadName_cell I.ok.kind hk hc hcell fin) hd
  .exact wpAny_Name (wpAny_loadName_free I.ok.kind hk hc hcell fin hcd) hd
def bn2{i j pos}:PE X (.Constant (.int i) j pos) (tC (.int i)):=λ_ _ _ H _ I h=>wpAny_Constant_int ⟨.int i,H,I.tok _,⟨_,rfl⟩,h⟩
def bz4{b j pos}:PE X (.Constant (.bool b) j pos) (tC (.bl b)):=λ_ _ _ H _ I h=>Constant_bool ⟨.bl b,H,I,rfl,h⟩
def bn4{j pos}:PE X (.Constant .none j pos) (tC .non):=λ_ _ _ H _ I h=>Constant_none ⟨.non,H,I,rfl,h⟩
def bn6{x j pos}:PE X (.Constant (.str x) j pos) (tC (.str x)):=λ_ _ _ H _ I h=>Calls.Constant_str ⟨.str x,H,I.tok _,⟨_,rfl⟩,h⟩
def Gl(X:Cx)(x:Str):Prop:=X.env.kindOf x=some .globalImplicit
def X7{E:am->av->Prop}{ξ:List (Addr×Obj)}{s:av}{σ:St}{H:Hp}{x:Str}{u:am}{pos:Pos}{Q:am->av->Prop}(I:Inv X ξ σ H s)(hg:Gl X x)(hm:X.mg x=some u)(h:Q u s)(hd:(x==("__debug__" : Str))=false:=by decide):aY (model X.prog X.w) X.A (eval (.Name x pos) X.env) Q E s:=
 iC I.ok.kind hg (Calls.loadGlobal_global (by rw[I.ok.glob];exact I.mod.glob.keeps I.bk) hm h) hd
def Cu{E:am->av->Prop}{ξ:List (Addr×Obj)}{s:av}{σ:St}{H:Hp}{x:Str}{u:am}{pos:Pos}{Q:am->av->Prop}(I:Inv X ξ σ H s)(hg:Gl X x)(hm:X.mg x=none)(hv:cO x=some u)(h:Q u s)(hn:x ≠ "__name__" := by decide)(hd:(x==("__debug__" : Str))=false:=by decide):aY (model X.prog X.w) X.A (eval (.Name x pos) X.env) Q E s:=by
 obtain⟨mb,h1,h2⟩:=I.mod.blt
 exact iC I.ok.kind hg (Calls.loadGlobal_builtin (by rw[I.ok.glob];exact I.mod.glob.keeps I.bk) hm (by rw[I.ok.blt];exact h1.keeps I.bk) ((h2 x hn).trans hv) h) hd
def Yh{x:Str}{v:V}{u:am}{pos:Pos}(hg:Gl X x)(hm:X.mg x=some u)(r:RelV v u)(hd:(x==("__debug__" : Str))=false:=by decide):PE X (.Name x pos) (tC v):=
 λ_ _ _ H _ I h=>X7 I hg hm ⟨v,H,I,r,h⟩ hd
def a20{x:Str}{v:V}{u:am}{pos:Pos}(hg:Gl X x)(hm:X.mg x=none)(hv:cO x=some u)(r:RelV v u)(hn:x ≠ "__name__" := by decide)(hd:(x==("__debug__" : Str))=false:=by decide):PE X (.Name x pos) (tC v):=
 λ_ _ _ H _ I h=>Cu I hg hm hv ⟨v,H,I,r,h⟩ hn hd
variable {a b:Expr}{ta tb:TE}{pos:Pos}
variable {tA tB':TT}{rest:List Expr}
def ca0(t u:TT):TT:=λσ H Q=>t σ H λc H1=>if c=true then u σ H1 Q else Q false H1
def tOr(t u:TT):TT:=λσ H Q=>t σ H λc H1=>if c=true then Q true H1 else u σ H1 Q
def ca5(t:TT):TT:=λσ H Q=>t σ H λc H1=>Q (!c) H1
def a30(ha:PT X a tA):PW X (.BoolOp .And [a] pos) tA:=by
 intro wh ξ s σ H Q I h
 refine isTrue_and (thn (ha ξ s σ H Q I h) λc s1 e=>?_)
 cases c with
 |true=>exact isTrue_and_nil e
 |false=>exact e
def bo6(ha:PT X a tA):PW X (.BoolOp .Or [a] pos) tA:=by
 intro wh ξ s σ H Q I h
 refine isTrue_or (thn (ha ξ s σ H Q I h) λc s1 e=>?_)
 cases c with
 |false=>exact isTrue_or_nil e
 |true=>exact e
def bo5(ha:PT X a tA)(hb:PW X (.BoolOp .And (b::rest) pos) tB'):PW X (.BoolOp .And (a::b::rest) pos) (ca0 tA tB'):=by
 intro wh ξ s σ H Q I h
 refine isTrue_and (thn (ha ξ s σ H _ I h) λc s1 ⟨H1,I1,q1⟩=>?_)
 cases c with
 |true=>exact hb wh ξ s1 σ H1 Q I1 q1
 |false=>exact⟨H1,I1,q1⟩
def b00(ha:PT X a tA)(hb:PW X (.BoolOp .Or (b::rest) pos) tB'):PW X (.BoolOp .Or (a::b::rest) pos) (tOr tA tB'):=by
 intro wh ξ s σ H Q I h
 refine isTrue_or (thn (ha ξ s σ H _ I h) λc s1 ⟨H1,I1,q1⟩=>?_)
 cases c with
 |true=>exact⟨H1,I1,q1⟩
 |false=>exact hb wh ξ s1 σ H1 Q I1 q1
def bo4(ha:PT X a tA):PT X (.UnaryOp .Not a pos) (ca5 tA):=by
 intro ξ s σ H Q I h
 exact isTrue_not (ha ξ s σ H (λc H1=>Q (!c) H1) I h)
def bn5{op}{t:TE}(h:PE X a t):PE X (.BoolOp op [a] pos) t:=λξ s σ H Q I hw=>BoolOp_one (h ξ s σ H Q I hw)
end
def SqL(K:ac)(H:Hp)(a:Addr)(xs:List V):Prop:=
 Rd H a (.lst xs) \/
  ∃o χ n,K.lookup a=some o/\o.cls=.type "list" /\ o.dict=none/\o.data=.seq χ n/\χ.size<=sizeLine/\xs.all V.pl=true/\Vals xs χ.toList
def SqT(K:ac)(H:Hp)(a:Addr)(xs:List V):Prop:=
 Rd H a (.tup xs) \/
  ∃o χ n,K.lookup a=some o/\o.cls=.type "tuple" /\ o.data=.seq χ n/\χ.size<=sizeLine/\xs.all V.pl=true/\Vals xs χ.toList
def b82:am->Option V
 |.none=>some .non
 |.bool b=>some (.bl b)
 |.int i _=>some (.int i)
 |.str x _=>some (.str x)
 |.ref a=>some (.ref a)
 |.type n=>some (.ty n)
 |_=>none
def RelV.abs{x:V}{u:am}(r:RelV x u)(p:x.pl=true):b82 u=some x:=by
 cases x <;> first|(cases r;rfl)|(obtain⟨t,rfl⟩:=r;rfl)
def RelV.inj{x y:V}{u:am}(r:RelV x u)(q:RelV y u)(p:x.pl=true)(p':y.pl=true):x=y:=aJ ((r.abs p).symm.trans (q.abs p'))
theorem Vals.inj:∀{xs ys} {us},Vals xs us->Vals ys us->xs.all V.pl=true->ys.all V.pl=true->xs=ys
 |_,_,_,.nil,.nil,_,_=>rfl
 | _,_,_,.cons r t,.cons r' t',p,q=>by
  simp only[bV,aU] at p q
  rw[r.inj r' p.1 q.1,Vals.inj t t' p.2 q.2]
section
variable {X:Cx}{ξ:List (Addr×Obj)}{σ:St}{H:Hp}{s:av}{a:Addr}{xs ys:List V}
def SqL.of{K:ac}(h:H a=some (.lst xs)):SqL K H a xs:=.inl (.inl h)
def SqT.of{K:ac}(h:H a=some (.tup xs)):SqT K H a xs:=.inl (.inl h)
def Inv.list(I:Inv X ξ σ H s)(h:SqL X.K H a xs):∃χ,Vals xs χ/\PlainL s.heap a χ.toArray/\xs.length<=sizeLine:=by
 rcases h with h|⟨o,χ,n,hk,hc,hd,hs,hz,_,r⟩
 .obtain⟨z,χ,n,r,e⟩:=h.ok I.hok
  exact⟨χ,r,⟨_,n,e,rfl,rfl,rfl⟩,z⟩
 .refine⟨χ.toList,r,⟨o,n,I.kIn a o hk,hc,hd,by simpa using hs⟩,?_⟩
  have e:=r.length
  simp only[cb] at e
  omega
def Inv.tuple(I:Inv X ξ σ H s)(h:SqT X.K H a xs):∃χ,Vals xs χ/\my s.heap a χ.toArray/\xs.length<=sizeLine:=by
 rcases h with h|⟨o,χ,n,hk,hc,hs,hz,_,r⟩
 .obtain⟨z,χ,r,p⟩:=h.ok I.hok
  exact⟨χ,r,p,z⟩
 .refine⟨χ.toList,r,⟨o,I.kIn a o hk,hc,n,by simpa using hs⟩,?_⟩
  have e:=r.length
  simp only[cb] at e
  omega
def Inv.notK(I:Inv X ξ σ H s){o:HO}{ob:Obj}(h:Rd H a o)(e:X.K.lookup a=some ob):False:=by
 have n:=(I.bs a ob (I.mod.kin a ob e)).2
 rcases h with h|⟨u,h⟩
 .rw[n] at h;cases h
 .rw[n] at h;cases h
def Inv.list_inj(I:Inv X ξ σ H s)(h:SqL X.K H a xs)(h':SqL X.K H a ys):xs=ys:=by
 rcases h with h|⟨o,χ,n,hk,hc,hd,hs,hz,p,r⟩
 .rcases h' with h'|⟨o',its',n',hk',hc',hd',hs',hz',p',r'⟩
  .rcases h with h|⟨u,h⟩ <;> rcases h' with h'|⟨u',h'⟩ <;> (rw[h] at h';first|(cases h';rfl)|cases h')
  .exact (I.notK h hk').elim
 .rcases h' with h'|⟨o',its',n',hk',hc',hd',hs',hz',p',r'⟩
  .exact (I.notK h' hk).elim
  .rw[hk] at hk';cases hk'
   rw[hs] at hs';cases hs'
   exact r.inj r' p p'
def Inv.tuple_inj(I:Inv X ξ σ H s)(h:SqT X.K H a xs)(h':SqT X.K H a ys):xs=ys:=by
 rcases h with h|⟨o,χ,n,hk,hc,hs,hz,p,r⟩
 .rcases h' with h'|⟨o',its',n',hk',hc',hs',hz',p',r'⟩
  .rcases h with h|⟨u,h⟩ <;> rcases h' with h'|⟨u',h'⟩ <;> (rw[h] at h';first|(cases h';rfl)|cases h')
  .exact (I.notK h hk').elim
 .rcases h' with h'|⟨o',its',n',hk',hc',hs',hz',p',r'⟩
  .exact (I.notK h' hk).elim
  .rw[hk] at hk';cases hk'
   rw[hs] at hs';cases hs'
   exact r.inj r' p p'
end
abbrev Cx.wish(X:Cx)(E:am->av->Prop):Cx:={X with xe:=E}
abbrev Cx.nox(X:Cx):Cx:=X.wish λ_ _=>False
theorem Cx.Ok.wish{X:Cx}(ok:X.Ok)(E:am->av->Prop):(X.wish E).Ok:=
 ⟨ok.mod,ok.kind,ok.glob,ok.blt,ok.above,ok.inj,ok.has,ok.cab,ok.hd,ok.frames,ok.stk,ok.exf,ok.bs,ok.bsz,ok.noex,ok.exfs,ok.funs,ok.frf,ok.tk⟩
def Cx.Ok.unwish{X:Cx}{E:am->av->Prop}(ok:(X.wish E).Ok):X.Ok:=
 ⟨ok.mod,ok.kind,ok.glob,ok.blt,ok.above,ok.inj,ok.has,ok.cab,ok.hd,ok.frames,ok.stk,ok.exf,ok.bs,ok.bsz,ok.noex,ok.exfs,ok.funs,ok.frf,ok.tk⟩
section
variable {X:Cx}{ξ:List (Addr×Obj)}{σ:St}{H:Hp}{s:av}{E:am->av->Prop}
theorem Inv.wish(I:Inv X ξ σ H s)(E:am->av->Prop):Inv (X.wish E) ξ σ H s:=⟨I.ok.wish E,I.os,I.bare,I.base,I.loc,I.cell,I.free,I.freeC,I.pin,I.hok,I.len⟩
theorem Inv.unwish(I:Inv (X.wish E) ξ σ H s):Inv X ξ σ H s:=⟨I.ok.unwish,I.os,I.bare,I.base,I.loc,I.cell,I.free,I.freeC,I.pin,I.hok,I.len⟩
theorem SP.unwish{D:Rf}{f:Flow}{s':av}(h:SP (X.wish E) ξ D f s'):SP X ξ D f s':=by
 cases f with
 |next=>obtain⟨σ',H',I,q⟩:=h;exact⟨σ',H',I.unwish,q⟩
 |brk=>obtain⟨σ',H',I,q⟩:=h;exact⟨σ',H',I.unwish,q⟩
 |cont=>obtain⟨σ',H',I,q⟩:=h;exact⟨σ',H',I.unwish,q⟩
 |ret u=>obtain⟨v,σ',H',I,r,q⟩:=h;exact⟨v,σ',H',I.unwish,r,q⟩
theorem PE.nox{e:Expr}{t:TE}(h:PE X.nox e t):PE X e t:=λξ s σ H Q I hw=>
 bU (h ξ s σ H Q (I.wish _) hw) (λ_ _ ⟨v,H',I',r,q⟩=>⟨v,H',I'.unwish,r,q⟩) λ_ _ z=>ca z
theorem PSs.nox{st:List Stmt}{t:TS}(h:PSs X.nox st t):PSs X st t:=λξ s σ H D I hw=>
 bU (h ξ s σ H D (I.wish _) hw) (λ_ _ q=>q.unwish) λ_ _ z=>ca z
end
section
variable {X:Cx}{st:Stmt}{rest:List Stmt}{t u:TS}{e:Expr}{te:TE}{pos:Pos}
def ba1:TS:=λD σ H=>D.nx σ H
def ca7(t u:TS):TS:=λD σ H=>t {D with nx:=u D} σ H
def a28:PSs X [] ba1:=λ_ _ σ H _ I h=>iy ⟨σ,H,I,h⟩
def ap1(h1:PS X st t)(h2:PSs X rest u):PSs X (st::rest) (ca7 t u):=by
 intro ξ s σ H D I h
 refine wpAny_execs_cons (thn (h1 ξ s σ H {D with nx:=u D} I h) λf s1 q=>?_)
 cases f with
 |next=>
  obtain⟨σ',H',I',q⟩:=q
  exact h2 ξ s1 σ' H' D I' q
 |ret v=>exact q
 |brk=>exact q
 |cont=>exact q
def a26:PS X (.Pass pos) ba1:=λ_ _ σ H _ I h=>wpAny_Pass ⟨σ,H,I,h⟩
def Inv.quiet{ξ:List (Addr×Obj)}{σ:St}{H:Hp}{s:av}(I:Inv X ξ σ H s):interactive X.env=false:=by simp[interactive,I.ok.kind]
def b19(te:TE):TS:=λD σ H=>te σ H λ_ H1=>D.nx σ H1
def a25(he:PE X e te)(hs:jb e none pos.line X.env=pure false:=by rfl):PS X (.Expr e pos) (b19 te):=by
 intro ξ s σ H D I h
 exact wpAny_Expr_any (thn (he ξ s σ H _ I h) λv s1 ⟨x,H1,I1,r1,q1⟩=>⟨σ,H1,I1,q1⟩) I.quiet hs
def ca6(te:TE):TS:=λD σ H=>te σ H D.rt
def bo2(he:PE X e te):PS X (.Return (some e) pos) (ca6 te):=by
 intro ξ s σ H D I h
 exact wpAny_Return_some (thn (he ξ s σ H _ I h) λv s1 ⟨x,H1,I1,r1,q1⟩=>⟨x,σ,H1,I1,r1,q1⟩)
def b20:TS:=λD _ H=>D.rt .non H
def a27:PS X (.Return none pos) b20:=λ_ _ σ H _ I h=>wpAny_Return_none ⟨.non,σ,H,I,rfl,h⟩
def ca2(c:TT)(t u:TS):TS:=λD σ H=>c σ H λb H1=>if b=true then t D σ H1 else u D σ H1
def bz9{c:Expr}{a b:List Stmt}{tc:TT}(hc:PT X c tc)(ha:PSs X a t)(hb:PSs X b u):PS X (.If c a b pos) (ca2 tc t u):=by
 intro ξ s σ H D I h
 refine wpAny_If (thn (hc ξ s σ H _ I h) λd s1 ⟨H1,I1,q1⟩=>?_)
 cases d with
 |true=>exact ha ξ s1 σ H1 D I1 q1
 |false=>exact hb ξ s1 σ H1 D I1 q1
end
abbrev TG:=V->St->Hp->(St->Hp->Prop)->Prop
abbrev TGs:=List V->St->Hp->(St->Hp->Prop)->Prop
def PG(X:Cx)(target:Expr)(t:TG):Prop:=
 ∀ξ s (σ:St) (H:Hp) (v:V) (u:am) (Q:St->Hp->Prop),Inv X ξ σ H s->RelV v u->t v σ H Q ->
  aY (model X.prog X.w) X.A (ma target X.env u) (λ_ s'=>∃ σ' H',Inv X ξ σ' H' s'/\Q σ' H') X.xe s
def PGs(X:Cx)(ts:List Expr)(t:TGs):Prop:=
 ∀ξ s (σ:St) (H:Hp) (vs:List V) (us:List am) (Q:St->Hp->Prop),Inv X ξ σ H s->Vals vs us->t vs σ H Q ->
  aY (model X.prog X.w) X.A (assignInOrder ((dA ts X.env).map (·.2)) us) (λ_ s'=>∃ σ' H',Inv X ξ σ' H' s'/\Q σ' H') X.xe s
abbrev bc2:=V->V->V->Hp->(Hp->Prop)->Prop
def bt3(X:Cx)(t:bc2):Prop:=
 ∀ξ s (σ:St) (H:Hp) (o i v:V) (ov iv u:am) (Q:Hp->Prop),Inv X ξ σ H s->RelV o ov->RelV i iv->RelV v u->t o i v H Q ->
  aY (model X.prog X.w) X.A (mw ov iv u) (λ_ s'=>∃H',Inv X ξ σ H' s'/\Q H') X.xe s
section
variable {X:Cx}{pos:Pos}
def aj7(i:Nat):TG:=λv σ H Q=>Q (σ.set i (some v)) H
def a22{i:Nat}{x:Str}(hN:X.N.Nodup)(hi:X.N[i]?=some x)(hx:Loc X.env.scope x)(hf:X.fn x=true\/X.env.scope.names.lookup x=some .local:=by trivial):PG X (.Name x pos) (aj7 i):=by
 intro ξ s σ H v u Q I r h
 exact wpAny_assign_Name (Ly I hN hi hx r (λs' I'=>⟨_,H,I',h⟩) hf)
def b86:TGs:=λvs σ H Q=>vs=[]/\Q σ H
def bu4(t:TG)(u:TGs):TGs:=λvs σ H Q=>∃v r,vs=v::r/\t v σ H λσ' H'=>u r σ' H' Q
def a23:PGs X [] b86:=by
 intro ξ s σ H vs us Q I r h
 obtain⟨e,h⟩:=h
 subst e
 cases r
 exact assignInOrder_nil ⟨σ,H,I,h⟩
def ao3{e:Expr}{es:List Expr}{t:TG}{u:TGs}(h1:PG X e t)(h2:PGs X es u)(hs:(dA (e::es) X.env).map (·.2)=ma e X.env::(dA es X.env).map (·.2):=by rfl):PGs X (e::es) (bu4 t u):=by
 intro ξ s σ H vs us Q I r h
 obtain⟨v,vr,e1,h⟩:=h
 subst e1
 cases r with
 |cons r rr=>
  rw[hs]
  exact assignInOrder_cons (thn (h1 ξ s σ H _ _ _ I r h) λ_ s1 ⟨σ1,H1,I1,q1⟩=>(h2 ξ s1 σ1 H1 _ _ Q I1 rr q1))
def b88(K:ac)(n:Nat)(t:TGs):TG:=λv σ H Q=>∃a xs,v=.ref a/\SqT K H a xs/\xs.length=n/\t xs σ H Q
def bo0{es:List Expr}{k:Nat}{t:TGs}{n:Nat}(hc:X.calm=true)(h:PGs X es t)(hn:(dA es X.env).length=n:=by rfl)(hst:(dA es X.env).findIdx? (·.1)=none:=by rfl):PG X (.Tuple es k pos) (b88 X.K n t):=by
 intro ξ s σ H v u Q I r hw
 obtain⟨a,xs,e1,hq,hl,hw⟩:=hw
 subst e1
 cases r
 obtain⟨χ,rv,ht,hz⟩:=I.tuple hq
 refine assign_Tuple_tuple (I.ok.hd hc) ht (by simp[hn,<- hl,rv.length]) hst λh' hx=>?_
 have I1:=I.kept λb o e=>hx b o (aQ (aO e)) e
 exact h ξ _ σ H xs _ Q I1 (rv) hw
def b87(to ti:TE)(t:bc2):TG:=λv σ H Q=>to σ H λo H1=>ti σ H1 λi H2=>t o i v H2 λH3=>Q σ H3
def bn9{o i:Expr}{to ti:TE}{t:bc2}(ho:PE X o to)(hi:PE X i ti)(hs:bt3 X t)(ha:∀v,ma (.Subscript o i pos) X.env v=(do
   let ov <- holding [v] (eval o X.env)
   let iv <- holding [v,ov] (eval i X.env)
   standAt pos
   holding [v,ov,iv] (mw ov iv v)
   release [v,ov,iv] []):=by intro _;rfl):PG X (.Subscript o i pos) (b87 to ti t):=by
 intro ξ s σ H v u Q I r h
 rw[ha]
 refine ag (bz (thn (ho ξ s σ H _ I h) λov s1 ⟨x,H1,I1,r1,q1⟩=>?_))
 refine ag (bz (thn (hi ξ s1 σ H1 _ I1 q1) λiv s2 ⟨y,H2,I2,r2,q2⟩=>?_))
 exact ag (fW (ag (bz (thn (hs ξ s2 σ H2 x y v ov iv u _ I2 r1 r2 r q2) λ_ s3 ⟨H3,I3,q3⟩=>(wpAny_release ⟨σ,H3,I3,q3⟩)))))
def br5(te:TE)(g:TG):TS:=λD σ H=>te σ H λx H1=>g x σ H1 D.nx
def ao9{tg e:Expr}{te:TE}{g:TG}(he:PE X e te)(hg:PG X tg g)(hs:swapsWithSole [tg] e pos.line X.env=pure false:=by rfl)(hw:swappedStores [tg] e X.env=pure none:=by rfl)(h1:(dA [tg] X.env).map (·.2)=[ma tg X.env]:=by rfl):PS X (.Assign [tg] e pos) (br5 te g):=by
 intro ξ s σ H D I h
 refine wpAny_Assign_stores (thn (he ξ s σ H _ I h) λv s1 ⟨x,H1,I1,r1,q1⟩=>?_) hs hw
 rw[h1]
 exact thn (hg ξ s1 σ H1 x v _ I1 r1 q1) λ_ s2 q=>q
def bo3{i:Nat}{x:Str}{e:Expr}{te:TE}{pos':Pos}(hN:X.N.Nodup)(hi:X.N[i]?=some x)(hx:Loc X.env.scope x)(he:PE X e te)(hs:jb e (some (.Name x pos')) pos.line X.env=pure false:=by rfl)(hf:X.fn x=true\/X.env.scope.names.lookup x=some .local:=by trivial) :
  PS X (.Assign [.Name x pos'] e pos) (br5 te (aj7 i)):=by
 intro ξ s σ H D I h
 exact wpAny_Assign_Name (thn (he ξ s σ H _ I h) λv s1 ⟨y,H1,I1,r1,q1⟩=>(Ly I1 hN hi hx r1 (λs2 I2=>⟨_,H1,I2,q1⟩) hf)) hs
def br6(c:TT)(tb:TS):TS:=λD σ H=>∃W:Nat->St->Hp->Prop,(∃m,W m σ H)/\∀m σ H,W m σ H ->
 c σ H λb H1=>if b=true then ∃N,(∀ σ' H',N σ' H' -> ∃m',m'<m/\W m' σ' H')/\tb {D with nx:=N,ct:=N,bk:=D.nx} σ H1 else D.nx σ H1
def ap0{c:Expr}{body:List Stmt}{tc:TT}{tb:TS}(hp:i6 (model X.prog X.w) X.A X.env X.xe)(hc:PT X c tc)(hb:PSs X body tb):PS X (.While c body [] pos) (br6 tc tb):=by
 intro ξ s σ H D I h
 obtain⟨W,⟨m0,w0⟩,turn⟩:=h
 refine wpAny_While (codeAny_whileLoop (λn s'=>∃ σ' H',Inv X ξ σ' H' s'/\W n σ' H') ?_ m0 ⟨σ,H,I,w0⟩)
 rintro n s1 ⟨σ1,H1,I1,w1⟩
 refine eO hp (thn (hc ξ s1 σ1 H1 _ I1 (turn n σ1 H1 w1)) λb s2 ⟨H2,I2,q2⟩=>?_)
 cases b with
 |true=>
  obtain⟨N,hN,q2⟩:=q2
  rw[if_pos rfl]
  refine eO hp (thn (hb ξ s2 σ1 H2 _ I2 q2) λf s3 q3=>?_)
  cases f with
  |next=>
   obtain⟨σ3,H3,I3,n3⟩:=q3
   obtain⟨m',hm,w3⟩:=hN σ3 H3 n3
   exact⟨m',hm,σ3,H3,I3,w3⟩
  |cont=>
   obtain⟨σ3,H3,I3,n3⟩:=q3
   obtain⟨m',hm,w3⟩:=hN σ3 H3 n3
   exact⟨m',hm,σ3,H3,I3,w3⟩
  |brk=>exact q3
  |ret v=>exact q3
 |false=>
  rw[if_neg aM]
  exact iy ⟨σ1,H2,I2,q2⟩
end
structure It where
 go:Nat->Hp->Prop
 yld:Nat->Hp->V->Hp->Prop
 stop:Nat->Hp->Prop
def Ec(X:Cx)(ξ:List (Addr×Obj))(H:Hp)(b:Addr):Prop:=
 H b=none/\b≠X.env.locals/\b∉X.fs/\(b∈X.ex\/X.s₀.heap.objs.size<=b)/\(∀x c,X.env.cells.lookup x=some c->c≠b)/\∀p∈X.pn++ξ,p.1≠b
def Inv.fpOk{X:Cx}{ξ:List (Addr×Obj)}{σ:St}{H H':Hp}{s:av}{b:Addr}(I:Inv X ξ σ H s)(hb:s.heap.objs.size<=b)(hn:H' b=none):Ec X ξ H' b:=by
 refine⟨hn,eV (aR I.lt hb),I.nofs hb,.inr (aT I.sz hb),λx c e z=>?_,λp hp z=>?_⟩
 .obtain⟨v,q⟩:=I.cell x c e
  exact absurd (aR q.lt (by rw[z];exact hb)) (fS _)
 .exact absurd (aR (aO (I.pin p hp).1) (by rw[z];exact hb)) (fS _)
structure Kv (P:a_) (w:bB) (K:ac) (tg:Expr) (J:It) (fp:List Addr) (it:Addr) (tn:Nat->Heap->Prop):Prop where
 mem:it∈fp
 obj:∀i h,tn i h -> ∀b∈fp,∃o,h.get? b=some o/\∀v,o.data≠.cell v
 keep:∀i h h',tn i h->(∀b∈fp,∀o,h.get? b=some o->h'.get? b=some o)->tn i h'
 item:∀(X:Cx),X.prog=P->X.w=w->X.K=K->X.calm=true -> ∀(i:Nat)(ξ:List (Addr×Obj))(s:av)(σ:St)(H:Hp)(E:am->av->Prop),Inv X ξ σ H s->(∀b∈fp,Ec X ξ H b)->tn i s.heap->J.go i H ->
  aY (model P w) X.A (l_ (.ref it)) (λr s1=>∃u,r=some u /\
   aY (model P w) X.A (jZ tg (.ref it) u) (λ_ s2=>∃x H',Inv X ξ σ H' s2/\RelV x u/\J.yld i H x H'/\tn (i+1) s2.heap/\∀b∈fp,H' b=none) E s1) E s
 done:∀(X:Cx),X.prog=P->X.w=w->X.K=K->X.calm=true -> ∀(i:Nat)(ξ:List (Addr×Obj))(s:av)(σ:St)(H:Hp)(E:am->av->Prop),Inv X ξ σ H s->(∀b∈fp,Ec X ξ H b)->tn i s.heap->J.stop i H ->
  aY (model P w) X.A (l_ (.ref it)) (λr s1=>r=none/\Inv X ξ σ H s1) E s
 self:∀(A:bv)(i:Nat)(s:av)(Q:am->av->Prop)(E:am->av->Prop),tn i s.heap->Q (.ref it) s->aY (model P w) A (l9 (.ref it)) Q E s
abbrev TI:=St->Hp->(It->Hp->Prop)->Prop
def PIE(X:Cx)(ξ:List (Addr×Obj))(σ:St)(tg:Expr)(R:It->Hp->Prop)(itv:am)(s2:av):Prop:=
 ∃it fp tn J H',itv=.ref it/\Inv X ξ σ H' s2/\Kv X.prog X.w X.K tg J fp it tn/\tn 0 s2.heap/\(∀b∈fp,Ec X ξ H' b)/\R J H'
def PI(X:Cx)(tg iter:Expr)(wi:TI):Prop:=
 ∀ξ s (σ:St) (H:Hp) (R:It->Hp->Prop),Inv X ξ σ H s->wi σ H R ->
  aY (model X.prog X.w) X.A (eval iter X.env) (λv s1=>aY (model X.prog X.w) X.A (l9 v) (PIE X ξ σ tg R) X.xe s1) X.xe s
def La{M:Model}{A:bv}{E:am->av->Prop}{s:av}{tg:Expr}{it:Addr}{u:am}{o:Obj}{n:String}{vs:Array am}{Q:Unit->av->Prop}(ho:s.heap.get? it=some o)(hc:o.cls=.type n)(hd:o.data=.fields vs)(hn:["enumerate","zip","dict_itemiterator","dict_reverseitemiterator","odict_iterator","itertools.zip_longest","itertools.pairwise"].contains n=false)(hQ:Q () s):aY M A (jZ tg (.ref it) u) Q E s:=by
  cases tg <;> first
    |exact ar hQ
    | (cases u <;> first
        |exact ar hQ
        | (refine ag (wpAny_load ho ?_)
           rw[hc,hd]
           show aY M A (if(["enumerate","zip","dict_itemiterator","dict_reverseitemiterator","odict_iterator","itertools.zip_longest","itertools.pairwise"].contains n&&vs[0]? == some (hO _))=true then _ else _) Q E s
           rw[if_neg (by intro h;rw[hn,kq] at h;cases h)]
           exact ar hQ))
def Itl(K:ac)(a:Addr):It:=
 ⟨λi H=>∃xs x,SqL K H a xs/\xs[i]?=some x,λi H x H'=>H'=H/\∀xs,SqL K H a xs->xs[i]?=some x,λi H=>∃xs,SqL K H a xs/\xs.length<=i⟩
def Itt(K:ac)(a:Addr):It:=
 ⟨λi H=>∃xs x,SqT K H a xs/\xs[i]?=some x,λi H x H'=>H'=H/\∀xs,SqT K H a xs->xs[i]?=some x,λi H=>∃xs,SqT K H a xs/\xs.length<=i⟩
def Itr(lo:Int)(n:Nat):It:=⟨λi _=>i<n,λi H x H'=>H'=H/\x=.int (lo+i),λi _=>n<=i⟩
def ac7{P:a_}{w:bB}{K:ac}{tg:Expr}(a it:Addr):Kv P w K tg (Itl K a) [it] it (λi h=>h.IsListIter it a i) where
 mem:=by simp
 obj:=λi h st b hb=>by
  have e:b=it:=by simpa using hb
  subst e
  obtain⟨o,e,c,d⟩:=st
  exact⟨o,e,λv z=>by rw[d] at z;cases z⟩
 keep:=λi h h' st k=>st.at λo e=>k it (by simp) o e
 item:=by
  intro X hP hw hK hc i ξ s σ H E I hf st hg
  subst hP hw hK
  obtain⟨xs,x,hq,hx⟩:=hg
  obtain⟨χ,rv,p,hz⟩:=I.list hq
  obtain⟨u,hu,ru⟩:=rv.get hx
  obtain⟨f0,f1,f2,f3,f4,f5⟩:=hf it (by simp)
  refine wpAny_pyNext_list_item st p.isList (by simpa using hu) λh' st' sb=>?_
  have I1:=I.turned (λb o hb e=>(sb.2 b hb).trans e) f0 f1 f3 f4 f5
  obtain⟨o,e,c,d⟩:=id st'
  exact⟨u,rfl,La e c d (by decide) ⟨x,H,I1,ru,⟨rfl,λys hy=>by rw[I.list_inj hy hq];exact hx⟩,st',λb hb=>(hf b hb).1⟩⟩
 done:=by
  intro X hP hw hK hc i ξ s σ H E I hf st hg
  subst hP hw hK
  obtain⟨xs,hq,hx⟩:=hg
  obtain⟨χ,rv,p,hz⟩:=I.list hq
  obtain⟨f0,f1,f2,f3,f4,f5⟩:=hf it (by simp)
  have hl:=rv.length
  exact wpAny_pyNext_list_end (I.ok.hd hc) st p.isList (by simp;omega) λh' eb=>⟨rfl,I.turned (λb o hb e=>eb b o hb e) f0 f1 f3 f4 f5⟩
 self:=λ_ _ _ _ _ st h=>wpAny_pyIter_listiter st h
def Wx{P:a_}{w:bB}{K:ac}{tg:Expr}(a it:Addr):Kv P w K tg (Itt K a) [it] it (λi h=>h.IsTupleIter it a i) where
 mem:=by simp
 obj:=λi h st b hb=>by
  have e:b=it:=by simpa using hb
  subst e
  obtain⟨o,e,c,d⟩:=st
  exact⟨o,e,λv z=>by rw[d] at z;cases z⟩
 keep:=λi h h' st k=>st.at λo e=>k it (by simp) o e
 item:=by
  intro X hP hw hK hc i ξ s σ H E I hf st hg
  subst hP hw hK
  obtain⟨xs,x,hq,hx⟩:=hg
  obtain⟨χ,rv,p,hz⟩:=I.tuple hq
  obtain⟨u,hu,ru⟩:=rv.get hx
  obtain⟨f0,f1,f2,f3,f4,f5⟩:=hf it (by simp)
  refine wpAny_pyNext_tuple_item st (p) (by simpa using hu) λh' st' sb=>?_
  have I1:=I.turned (λb o hb e=>(sb.2 b hb).trans e) f0 f1 f3 f4 f5
  obtain⟨o,e,c,d⟩:=id st'
  exact⟨u,rfl,La e c d (by decide) ⟨x,H,I1,ru,⟨rfl,λys hy=>by rw[I.tuple_inj hy hq];exact hx⟩,st',λb hb=>(hf b hb).1⟩⟩
 done:=by
  intro X hP hw hK hc i ξ s σ H E I hf st hg
  subst hP hw hK
  obtain⟨xs,hq,hx⟩:=hg
  obtain⟨χ,rv,p,hz⟩:=I.tuple hq
  obtain⟨f0,f1,f2,f3,f4,f5⟩:=hf it (by simp)
  have hl:=rv.length
  exact wpAny_pyNext_tuple_end (I.ok.hd hc) st (p) (by simp;omega) λh' eb=>⟨rfl,I.turned (λb o hb e=>eb b o hb e) f0 f1 f3 f4 f5⟩
 self:=λ_ _ _ _ _ st h=>wpAny_pyIter_tupleiter st h
def Ww{P:a_}{w:bB}{K:ac}{tg:Expr}(it:Addr)(lo:Int)(n:Nat):Kv P w K tg (Itr lo n) [it] it (λi h=>IsRangeIter h it (lo+(i:Nat)*1) ((n:Int)-(i:Nat)) 1) where
 mem:=by simp
 obj:=λi h st b hb=>by
  have e:b=it:=by simpa using hb
  subst e
  exact⟨_,st,λv z=>by
   have z':=z
   cases z'⟩
 keep:=λi h h' st k=>k it (by simp) _ st
 item:=by
  intro X hP hw hK hc i ξ s σ H E I hf st hg
  subst hP hw hK
  obtain⟨f0,f1,f2,f3,f4,f5⟩:=hf it (by simp)
  have W:=Walks.range (prog:=X.prog) (w:=X.w) (I.ok.hd hc) it lo 1 n
  refine bA (af _) (W.item i s _ _ hg st λv h' tk hv st' kk htk=>?_)
  obtain⟨t,rfl⟩:=hv
  have I1:Inv X ξ σ H {s with heap:=h',toks:=tk}:=I.turned (λb o hb e=>kk b o (by simpa using hb) e) f0 f1 f3 f4 f5
  refine⟨_,rfl,La st' rfl rfl (by decide) ⟨.int (lo+i),H,I1,⟨t,?_⟩,⟨rfl,rfl⟩,st',λb hb=>(hf b hb).1⟩⟩
  rw[Int.mul_one]
 done:=by
  intro X hP hw hK hc i ξ s σ H E I hf st hg
  subst hP hw hK
  obtain⟨f0,f1,f2,f3,f4,f5⟩:=hf it (by simp)
  exact wpAny_pyNext_range_end (I.ok.hd hc) st (by have:n<=i:=hg;omega) λh' eb=>⟨rfl,I.turned (λb o hb e=>eb b o hb e) f0 f1 f3 f4 f5⟩
 self:=λ_ _ _ _ _ st h=>wpAny_pyIter_rangeiter st h
section
variable {X:Cx}{tg:Expr}
def Th{ξ:List (Addr×Obj)}{σ:St}{H:Hp}{s:av}{R:It->Hp->Prop}{E:am->av->Prop}{lo hi:Int}{t u v:Tok}{tk:Nat}(I:Inv X ξ σ H s)(htk:s.toks<=tk)(h1:-(2^62)<=lo)(h2:lo<2^62)(h3:-(2^62)<=hi)(h4:hi<2^62)(q:R (Itr lo (hi-lo).toNat) H):aY (model X.prog X.w) X.A (l9 (.ref s.heap.objs.size)) (PIE X ξ σ tg R) E {s with heap:=s.heap.push {cls:=.type "range", data:=.fields #[.int lo t,.int hi u,.int 1 v]},toks:=tk}:=by
 refine wpAny_pyIter_range (IsRange.new ..) (small_one h1 h2 h3 h4) ?_
 have I1:Inv X ξ σ H {s with heap:=s.heap.push {cls:=.type "range", data:=.fields #[.int lo t,.int hi u,.int 1 v]},toks:=tk}:=I.kept λb o e=>ai _ e
 refine⟨(s.heap.push {cls:=.type "range", data:=.fields #[.int lo t,.int hi u,.int 1 v]}).objs.size,[(s.heap.push {cls:=.type "range", data:=.fields #[.int lo t,.int hi u,.int 1 v]}).objs.size],_,_,H,rfl,
  I1.kept λb o e=>ai _ e,Ww _ lo (hi-lo).toNat,?_,λb hb=>?_,q⟩
 .have e1:lo+((0:Nat):Int)*1=lo:=by simp
  have e2:(((hi-lo).toNat:Nat):Int)-((0:Nat):Int)=Builtin.Range.rangeSize lo hi 1:=by rw[rangeSize_one];split <;> omega
  rw[e1,e2]
  exact aK _ rfl
 .have e:b=(s.heap.push {cls:=.type "range", data:=.fields #[.int lo t,.int hi u,.int 1 v]}).objs.size:=by simpa using hb
  subst e
  exact I1.fpOk (af _) (I1.hok.fresh (af _))
def ca1(wi:TI)(g:TG)(tb:TS):TS:=λD σ H=>wi σ H λJ H1=>∃W:Nat->Nat->St->Hp->Prop,(∃m,W 0 m σ H1)/\∀i m σ H,W i m σ H ->
 (J.stop i H/\D.nx σ H)\/(J.go i H/\∃N,(∀ σ' H',N σ' H' -> ∃m',m'<m/\W (i+1) m' σ' H')/\∀x H',J.yld i H x H'->g x σ H' λσ2 H2=>tb {D with nx:=N,ct:=N,bk:=D.nx} σ2 H2)
def Ix(fp:List Addr)(h:Heap):List (Addr×Obj):=fp.filterMap λb=>(h.get? b).map λo=>(b,o)
def E0{fp:List Addr}{h:Heap}{b:Addr}{o:Obj}(hb:b∈fp)(e:h.get? b=some o):(b,o)∈Ix fp h:=List.mem_filterMap.mpr ⟨b,hb,by rw[e];rfl⟩
def aa1{fp:List Addr}{h:Heap}{p:Addr×Obj}(hp:p∈Ix fp h):p.1∈fp/\h.get? p.1=some p.2:=by
 obtain⟨b,hb,e⟩:=List.mem_filterMap.mp hp
 cases q:h.get? b with
 |none=>rw[q] at e;cases e
 |some o=>
  rw[q] at e
  have e':=aJ e
  subst e'
  exact⟨hb,q⟩
def Inv.pinned{ξ:List (Addr×Obj)}{σ:St}{H:Hp}{s:av}{fp:List Addr}(I:Inv X ξ σ H s)(hf:∀b∈fp,Ec X ξ H b)(ho:∀b∈fp,∃o,s.heap.get? b=some o/\∀v,o.data≠.cell v):Inv X (ξ++Ix fp s.heap) σ H s:=
 I.pins_of λp hp=>(List.mem_append.mp hp).elim (λz=>I.pin p (aE _ z)) λz=>by
  obtain⟨hb,e⟩:=aa1 z
  obtain⟨f0,f1,f2,_⟩:=hf p.1 hb
  obtain⟨o,e',d⟩:=ho p.1 hb
  rw[e] at e';cases e'
  exact⟨e,f0,f1,f2,d⟩
def Inv.unpinned{ξ pl:List (Addr×Obj)}{σ:St}{H:Hp}{s:av}(I:Inv X (ξ++pl) σ H s):Inv X ξ σ H s:=I.pins_of λp hp=>I.pin p (aE _ (bo _ hp))
def bo1{iter:Expr}{body:List Stmt}{wi:TI}{g:TG}{tb:TS}{pos:Pos}(hp:i6 (model X.prog X.w) X.A X.env X.xe)(hc:X.calm=true)(hi:PI X tg iter wi)(hg:PG X tg g)(hb:PSs X body tb)(hs:∀x,fT iter X.env x=pure x:=by intro _;rfl):PS X (.For tg iter body [] pos) (ca1 wi g tb):=by
 intro ξ s σ H D I h
 refine wpAny_For (thn (hi ξ s σ H _ I h) λv s1 h1=>thn h1 λitv s2 h2=>?_) hs
 obtain⟨it,fp,tn,J,H2,e,I2,T,st2,f2,W,⟨m0,w0⟩,turn⟩:=h2
 subst e
 have stat:∀{H':Hp},(∀b∈fp,H' b=none) -> ∀b∈fp,Ec X ξ H' b:=λhn b hb=>⟨hn b hb,(f2 b hb).2⟩
 refine codeAny_forLoop_any (λn s'=>∃i σ' H',Inv X ξ σ' H' s'/\tn i s'.heap/\(∀b∈fp,H' b=none)/\W i n σ' H') ?_ m0 ⟨0,σ,H2,I2,st2,λb hb=>(f2 b hb).1,w0⟩
 rintro n s3 ⟨i,σ3,H3,I3,st3,fr3,w3⟩
 rcases turn i n σ3 H3 w3 with⟨stop,qn⟩|⟨go,N,hN,step⟩
 .refine eO hp (thn (T.done X rfl rfl rfl hc i ξ s3 σ3 H3 X.xe I3 (stat fr3) st3 stop) λr s4 ⟨hr,I4⟩=>?_)
  subst hr
  exact iy ⟨σ3,H3,I4,qn⟩
 .refine eO hp (thn (T.item X rfl rfl rfl hc i ξ s3 σ3 H3 X.xe I3 (stat fr3) st3 go) λr s4 ⟨u,hr,h4⟩=>?_)
  subst hr
  refine eO hp (thn h4 λ_ s5 ⟨x,H5,I5,r5,y5,st5,fr5⟩=>?_)
  have I5':=I5.pinned (stat fr5) (T.obj _ _ st5)
  refine eO hp (thn (hg _ s5 σ3 H5 x u _ I5' r5 (step x H5 y5)) λ_ s6 ⟨σ6,H6,I6,q6⟩=>?_)
  refine eO hp (thn (hb _ s6 σ6 H6 _ I6 q6) λf s7 q7=>?_)
  have again:∀{σ7:St}{H7:Hp},Inv X (ξ++Ix fp s5.heap) σ7 H7 s7->N σ7 H7 -> ∃m,m<n/\∃i σ' H',Inv X ξ σ' H' s7/\tn i s7.heap/\(∀b∈fp,H' b=none)/\W i m σ' H':=λ{σ7 H7} I7 n7=>by
   obtain⟨m',hm,w7⟩:=hN σ7 H7 n7
   refine⟨m',hm,i+1,σ7,H7,I7.unpinned,T.keep _ _ _ st5 λb hb o e=>(I7.pin (b,o) (aE _ (aE _ (E0 hb e)))).1,λb hb=>?_,w7⟩
   obtain⟨o,e,d⟩:=T.obj _ _ st5 b hb
   exact(I7.pin (b,o) (aE _ (aE _ (E0 hb e)))).2.1
  cases f with
  |next=>obtain⟨σ7,H7,I7,n7⟩:=q7;exact again I7 n7
  |cont=>obtain⟨σ7,H7,I7,n7⟩:=q7;exact again I7 n7
  |brk=>obtain⟨σ7,H7,I7,q7⟩:=q7;exact⟨σ7,H7,I7.unpinned,q7⟩
  |ret v=>obtain⟨x7,σ7,H7,I7,r7,q7⟩:=q7;exact⟨x7,σ7,H7,I7.unpinned,r7,q7⟩
end
abbrev R2:=V->V->Hp->VK->Prop
def OpR(X:Cx)(f:am->am->Sem am)(r:R2):Prop:=
 ∀ξ s (σ:St) (H:Hp) (x y:V) (v u:am) (Q:VK),Inv X ξ σ H s->RelV x v->RelV y u->r x y H Q ->
  aY (model X.prog X.w) X.A (f v u) (EP X ξ σ Q) X.xe s
def UnR(X:Cx)(f:am->Sem am)(r:V->Hp->VK->Prop):Prop:=
 ∀ξ s (σ:St) (H:Hp) (x:V) (v:am) (Q:VK),Inv X ξ σ H s->RelV x v->r x H Q ->
  aY (model X.prog X.w) X.A (f v) (EP X ξ σ Q) X.xe s
def Cf(X:Cx)(f:am)(r:List V->Hp->VK->Prop):Prop:=
 ∀ξ s (σ:St) (H:Hp) (xs:List V) (us:List am) (Q:VK),Inv X ξ σ H s->Vals xs us->r xs H Q ->
  aY (model X.prog X.w) X.A (call f us) (EP X ξ σ Q) X.xe s
def bt6(X:Cx)(r:V->Hp->(Bool->Hp->Prop)->Prop):Prop:=
 ∀ξ s (σ:St) (H:Hp) (x:V) (v:am) (Q:Bool->Hp->Prop),Inv X ξ σ H s->RelV x v->r x H Q ->
  aY (model X.prog X.w) X.A (truthy v) (TP X ξ σ Q) X.xe s
def tOp(r:R2)(ta tb:TE):TE:=λσ H Q=>ta σ H λx H1=>tb σ H1 λy H2=>r x y H2 Q
def tUn(r:V->Hp->VK->Prop)(ta:TE):TE:=λσ H Q=>ta σ H λx H1=>r x H1 Q
def rI(C:Int->Int->Prop)(g:Int->Int->V):R2:=λx y H Q=>∃i j,x=.int i/\y=.int j/\C i j/\Q (g i j) H
def rI0(g:Int->Int->V):R2:=λx y H Q=>∃i j,x=.int i/\y=.int j/\Q (g i j) H
def rU(g:Int->V):V->Hp->VK->Prop:=λx H Q=>∃i,x=.int i/\Q (g i) H
section
variable {X:Cx}{a b c:Expr}{ta tb tc:TE}{pos:Pos}
def bc4(ha:PE X a ta)(hb:PE X b tb){ξ:List (Addr×Obj)}{s:av}{σ:St}{H:Hp}{R:V->V->Hp->Prop}(I:Inv X ξ σ H s)(h:ta σ H λx H1=>tb σ H1 λy H2=>R x y H2){Q:am->av->Prop}{f:am->am->Sem am}(hf:∀v u s2 x y H2,Inv X ξ σ H2 s2->RelV x v->RelV y u->R x y H2->aY (model X.prog X.w) X.A (f v u) Q X.xe s2) :
  aY (model X.prog X.w) X.A (eval a X.env) (λv s₁=>aY (model X.prog X.w) X.A (eval b X.env) (λu s₂=>aY (model X.prog X.w) X.A (f v u) Q X.xe s₂) X.xe s₁) X.xe s:=by
 refine thn (ha ξ s σ H _ I h) λv s1 ⟨x,H1,I1,r1,q1⟩=>?_
 exact thn (hb ξ s1 σ H1 _ I1 q1) λu s2 ⟨y,H2,I2,r2,q2⟩=>(hf v u s2 x y H2 I2 r1 r2 q2)
def bz6{op:mj}{r:R2}(ho:OpR X (dL op) r)(ha:PE X a ta)(hb:PE X b tb):PE X (.BinOp a op b pos) (tOp r ta tb):=by
 intro ξ s σ H Q I h
 exact wpAny_BinOp (bc4 ha hb I h λv u s2 x y H2 I2 rx ry q=>ho ξ s2 σ H2 x y v u Q I2 rx ry q)
def a90{op:UnaryOp}{r:V->Hp->VK->Prop}(ho:UnR X (mx op) r)(ha:PE X a ta):PE X (.UnaryOp op a pos) (tUn r ta):=by
 intro ξ s σ H Q I h
 exact UnaryOp_ (thn (ha ξ s σ H _ I h) λv s1 ⟨x,H1,I1,r1,q1⟩=>ho ξ s1 σ H1 x v Q I1 r1 q1)
def opI{f:am->am->Sem am}{C:Int->Int->Prop}{g:Int->Int->Int}(rule:∀i j t u s Q E,C i j->Q (.int (g i j) s.toks) {s with toks:=s.toks+1}->aY (model X.prog X.w) X.A (f (.int i t) (.int j u)) Q E s) :
  OpR X f (rI C λi j=>.int (g i j)):=by
 intro ξ s σ H x y v u Q I rx ry h
 obtain⟨i,j,rfl,rfl,hc,q⟩:=h
 obtain⟨t,rfl⟩:=rx
 obtain⟨t',rfl⟩:=ry
 exact rule i j t t' s _ _ hc ⟨.int (g i j),H,I.tok _,⟨_,rfl⟩,q⟩
def ao0{f:am->am->Sem am}{g:Int->Int->Int}(rule:∀i j t u s Q E,Q (.int (g i j) s.toks) {s with toks:=s.toks+1}->aY (model X.prog X.w) X.A (f (.int i t) (.int j u)) Q E s) :
  OpR X f (rI0 λi j=>.int (g i j)):=by
 intro ξ s σ H x y v u Q I rx ry h
 obtain⟨i,j,rfl,rfl,q⟩:=h
 obtain⟨t,rfl⟩:=rx
 obtain⟨t',rfl⟩:=ry
 exact rule i j t t' s _ _ ⟨.int (g i j),H,I.tok _,⟨_,rfl⟩,q⟩
def a14{f:am->am->Sem am}{g:Int->Int->Bool}(rule:∀i j t u s Q E,Q (.bool (g i j)) s->aY (model X.prog X.w) X.A (f (.int i t) (.int j u)) Q E s) :
  OpR X f (rI0 λi j=>.bl (g i j)):=by
 intro ξ s σ H x y v u Q I rx ry h
 obtain⟨i,j,rfl,rfl,q⟩:=h
 obtain⟨t,rfl⟩:=rx
 obtain⟨t',rfl⟩:=ry
 exact rule i j t t' s _ _ ⟨.bl (g i j),H,I,rfl,q⟩
def bt1(i j:Int):Prop:=0<j/\j<1073741824
def aw2(i j:Int):Prop:=0<=j/\j<=1000000/\i.natAbs<2^64
def CMul(i j:Int):Prop:=(-(2^64)<i/\i<2^64)\/(-(2^64)<j/\j<2^64)
def CMul.ok{i j:Int}(h:CMul i j):IntMulOk i j:=by
 rcases h with⟨h1,h2⟩|⟨h1,h2⟩
 .exact .of_left (intBits_le_64 h1 h2)
 .exact .of_right (intBits_le_64 h1 h2)
def Wy(k:Nat):(0:Int)<=2^k:=by
 rw[two_pow_cast]
 exact Int.natCast_nonneg _
def bl6:OpR X (dL .Add) (rI0 λi j=>.int (i+j)):=ao0 λ_ _ _ _ _ _ _ q=>add_int q
def bm9:OpR X (dL .Sub) (rI0 λi j=>.int (i-j)):=ao0 λ_ _ _ _ _ _ _ q=>sub_int q
def bm3:OpR X (dL .Mult) (rI CMul λi j=>.int (i*j)):=opI λ_ _ _ _ _ _ _ hc q=>mul_int q hc.ok
def a16:OpR X (dL .FloorDiv) (rI bt1 λi j=>.int (i/j)):=opI λi j _ _ _ _ _ hc q=>by
 have h1:=hc.1
 have h2:=hc.2
 exact floordiv_int (by omega) (by rw[iD i (by omega)];exact q) (.inl (PyProof.noPylong_small (by omega)))
def bm2:OpR X (dL .Mod) (rI (λ_ j=>0<j) λi j=>.int (i%j)):=opI λi j _ _ _ _ _ hc q=>by
 have h1:=hc
 exact mod_int' (by omega) (by rw[Int.fmod_eq_emod_of_nonneg i (by omega)];exact q)
def bm6:OpR X (dL .Pow) (rI aw2 λi j=>.int (i^j.toNat)):=opI λ_ _ _ _ _ _ _ hc q=>pow_int_small hc.1 hc.2.1 hc.2.2 q
def bm7:OpR X (dL .LShift) (rI aw2 λi j=>.int (i*2^j.toNat)):=opI λ_ _ _ _ _ _ _ hc q=>lshift_int_small hc.1 hc.2.1 hc.2.2 q
def bm8:OpR X (dL .RShift) (rI (λ_ j=>0<=j) λi j=>.int (i/2^j.toNat)):=opI λi j _ _ _ _ _ hc q=>
 rshift_int hc (by rw[iD i (Wy _)];exact q)
def bl7:OpR X (dL .BitAnd) (rI0 λi j=>.int (cD i j)):=ao0 λ_ _ _ _ _ _ _ q=>and_int q
def bz2:OpR X (dL .BitOr) (rI0 λi j=>.int (cL i j)):=ao0 λ_ _ _ _ _ _ _ q=>or_int q
def bn0:OpR X (dL .BitXor) (rI0 λi j=>.int (Builtin.bitXor i j)):=ao0 λ_ _ _ _ _ _ _ q=>xor_int q
def unI{f:am->Sem am}{g:Int->Int}(rule:∀i t s Q E,Q (.int (g i) s.toks) {s with toks:=s.toks+1}->aY (model X.prog X.w) X.A (f (.int i t)) Q E s) :
  UnR X f (rU λi=>.int (g i)):=by
 intro ξ s σ H x v Q I rx h
 obtain⟨i,rfl,q⟩:=h
 obtain⟨t,rfl⟩:=rx
 exact rule i t s _ _ ⟨.int (g i),H,I.tok _,⟨_,rfl⟩,q⟩
def bs4:UnR X (mx .USub) (rU λi=>.int (-i)):=unI λ_ _ _ _ _ q=>neg_int q
def bs3:UnR X (mx .Invert) (rU λi=>.int (cw i)):=unI λ_ _ _ _ _ q=>invert_int q
end
def br3:V->V->Bool
 |.non,.non=>true | .non,.int _=>true | .int _,.non=>true | .non,.bl _=>true | .bl _,.non=>true | .non,.str _=>true | .str _,.non=>true
 |.int _,.int _=>true | .bl _,.bl _=>true | .str _,.str _=>true
 |.int _,.str _=>true | .str _,.int _=>true | .bl _,.str _=>true | .str _,.bl _=>true
 |_,_=>false
def rEq:R2:=λx y H Q=>br3 x y=true/\Q (.bl (decide (x=y))) H
def rNe:R2:=λx y H Q=>br3 x y=true/\Q (.bl (!decide (x=y))) H
def Kb{i j:Int}:decide (V.int i=V.int j)=(i==j):=by
 rw[bK]
 simp
def O9{i j:Bool}:decide (V.bl i=V.bl j)=(i==j):=by
 rw[bK]
 simp
def Kc{i j:Str}:decide (V.str i=V.str j)=(i==j):=by
 rw[bK]
 simp
section
variable {X:Cx}{a b c:Expr}{ta tb tc:TE}{pos:Pos}
def K7{ξ:List (Addr×Obj)}{σ:St}{H:Hp}{s:av}{Q:VK}{k k':Bool}(I:Inv X ξ σ H s)(q:Q (.bl k) H)(e:k=k'):EP X ξ σ Q (.bool k') s:=by
 subst e
 exact⟨.bl k,H,I,rfl,q⟩
def Ye:OpR X (cy .Eq) rEq:=by
 intro ξ s σ H x y v u Q I rx ry h
 obtain⟨hs,q⟩:=h
 cases x <;> cases y <;> first|cases(hs)|skip
 all_goals first|obtain⟨_,rfl⟩:=rx|cases rx
 all_goals first|obtain⟨_,rfl⟩:=ry|cases ry
 all_goals with_reducible first|refine eq_bool ?_|refine eq_int ?_|refine eq_str ?_|refine PySem.EqNone.eq_none_none ?_|refine PySem.EqNone.eq_none_bool ?_|refine PySem.EqNone.eq_none_int ?_|refine PySem.EqNone.eq_none_str ?_|refine PySem.EqNone.eq_bool_none ?_|refine PySem.EqNone.eq_int_none ?_|refine PySem.EqNone.eq_str_none ?_|refine PySem.EqMixed.eq_bool_str ?_|refine PySem.EqMixed.eq_int_str ?_|refine PySem.EqMixed.eq_str_bool ?_|refine PySem.EqMixed.eq_str_int ?_
 all_goals exact K7 I q (by first|exact O9|exact Kb|exact Kc|simp)
def Yf:OpR X (cy .NotEq) rNe:=by
 intro ξ s σ H x y v u Q I rx ry h
 obtain⟨hs,q⟩:=h
 cases x <;> cases y <;> first|cases(hs)|skip
 all_goals first|obtain⟨_,rfl⟩:=rx|cases rx
 all_goals first|obtain⟨_,rfl⟩:=ry|cases ry
 all_goals with_reducible first|refine ne_bool ?_|refine ne_int ?_|refine ne_str ?_|refine PySem.EqNone.ne_none_none ?_|refine PySem.EqNone.ne_none_bool ?_|refine PySem.EqNone.ne_none_int ?_|refine PySem.EqNone.ne_none_str ?_|refine PySem.EqNone.ne_bool_none ?_|refine PySem.EqNone.ne_int_none ?_|refine PySem.EqNone.ne_str_none ?_|refine PySem.EqMixed.ne_bool_str ?_|refine PySem.EqMixed.ne_int_str ?_|refine PySem.EqMixed.ne_str_bool ?_|refine PySem.EqMixed.ne_str_int ?_
 all_goals exact K7 I q (by first|exact(congrArg not O9)|exact(congrArg not Kb)|exact(congrArg not Kc)|simp)
def bz1:OpR X (cy .Lt) (rI0 λi j=>.bl (decide (i<j))):=a14 λ_ _ _ _ _ _ _ q=>lt_int q
def bz0:OpR X (cy .LtE) (rI0 λi j=>.bl (decide (i<=j))):=a14 λ_ _ _ _ _ _ _ q=>le_int q
def by9:OpR X (cy .Gt) (rI0 λi j=>.bl (decide (j<i))):=a14 λ_ _ _ _ _ _ _ q=>gt_int q
def by8:OpR X (cy .GtE) (rI0 λi j=>.bl (decide (j<=i))):=a14 λ_ _ _ _ _ _ _ q=>ge_int q
def aa4:OpR X (cy .Lt) (λx y H Q=>∃i j,x=.str i/\y=.str j/\Q (.bl (decide (i.cps.toList<j.cps.toList))) H):=by
 intro ξ s σ H x y v u Q I rx ry h
 obtain⟨i,j,rfl,rfl,q⟩:=h
 obtain⟨t,rfl⟩:=rx
 obtain⟨t',rfl⟩:=ry
 exact lt_str (K7 I q rfl)
def bm1:OpR X (cy .Is) (λx y H Q=>y=.non/\Q (.bl (decide (x=.non))) H):=by
 intro ξ s σ H x y v u Q I rx ry h
 obtain⟨rfl,q⟩:=h
 cases ry
 refine is_none_gen (K7 I q ?_)
 cases x <;> first
  |(cases rx;rfl)
  |(obtain⟨t,rfl⟩:=rx;rfl)
  |(obtain⟨t,rfl,_⟩:=rx;rfl)
def a18:OpR X (cy .IsNot) (λx y H Q=>y=.non/\Q (.bl (!decide (x=.non))) H):=by
 intro ξ s σ H x y v u Q I rx ry h
 obtain⟨rfl,q⟩:=h
 cases ry
 refine isnot_none_gen (K7 I q ?_)
 cases x <;> first
  |(cases rx;rfl)
  |(obtain⟨t,rfl⟩:=rx;rfl)
  |(obtain⟨t,rfl,_⟩:=rx;rfl)
def OpR.or{f:am->am->Sem am}{r r':R2}(h:OpR X f r)(h':OpR X f r'):OpR X f (λx y H Q=>r x y H Q\/r' x y H Q):=by
 intro ξ s σ H x y v u Q I rx ry q
 rcases q with q|q
 .exact h ξ s σ H x y v u Q I rx ry q
 .exact h' ξ s σ H x y v u Q I rx ry q
def a21{op:lR}{r:R2}(ho:OpR X (cy op) r)(ha:PE X a ta)(hb:PE X b tb)(hm:gM op b=false):PE X (.Compare a [op] [b] pos) (tOp r ta tb):=by
 intro ξ s σ H Q I h
 exact wpAny_Compare1 (bc4 ha hb I h λv u s2 x y H2 I2 rx ry q=>ho ξ s2 σ H2 x y v u Q I2 rx ry q) hm
def bt7(K:ac)(x:V)(H:Hp)(k:Bool):Prop:=
 match x with
 |.non=>k=false
 |.bl b=>k=b
 |.int i=>k=(i != 0)
 |.str y=>y.length<=sizeLine/\k=((y.length:Int) != 0)
 |.ref p=>(∃xs,SqL K H p xs/\k = !xs.isEmpty)\/(∃xs,SqT K H p xs/\k = !xs.isEmpty) \/ ∃kvs,H p=some (.dK kvs)/\k = !kvs.isEmpty
 |_=>False
def U1{κ:Type}{kvs:List (κ×V)}{vs:List (κ×am)}(r:KV kvs vs):(!vs.isEmpty) = !kvs.isEmpty:=by
 cases r <;> rfl
def Le{xs:List V}{χ:List am}(r:Vals xs χ):(!χ.toArray.isEmpty) = !xs.isEmpty:=by
 cases r <;> simp
def Io:(sizeLine:Nat)<2^63:=by rw[b_];decide
def Mh:bt6 X (λx H Q=>∃k,bt7 X.K x H k/\Q k H):=by
 intro ξ s σ H x v Q I rx h
 obtain⟨k,e,q⟩:=h
 have hs:=b_
 cases x with
 |non=>
  cases rx
  have e':=e
  subst e'
  exact truthy_none ⟨H,I,q⟩
 |bl b=>
  cases rx
  have e':=e
  subst e'
  exact c9 ⟨H,I,q⟩
 |int i=>
  obtain⟨t,rfl⟩:=rx
  have e':=e
  subst e'
  exact PySem.P.truthy_int ⟨H,I,q⟩
 |str y=>
  obtain⟨t,rfl⟩:=rx
  obtain⟨hy,e'⟩:y.length<=sizeLine/\k=((y.length:Int) != 0):=e
  subst e'
  exact PySem.P.truthy_str (by omega) ⟨H,I.tok _,q⟩
 |ref p=>
  cases rx
  have e':=e
  rcases e' with⟨xs,hx,e'⟩|⟨xs,hx,e'⟩|⟨kvs,hx,e'⟩
  .subst e'
   obtain⟨χ,r,pl,hz⟩:=I.list hx
   have hlen:=r.length
   exact wpAny_truthy_list pl.isList (by simp only[ay];omega) ⟨H,I.tok _,by rw[Le r];exact q⟩
  .subst e'
   obtain⟨χ,r,pl,hz⟩:=I.tuple hx
   have hlen:=r.length
   exact truthy_tuple pl (by simp only[ay];omega) ⟨H,I.tok _,by rw[Le r];exact q⟩
  .subst e'
   obtain⟨hz,hS,vs,r,m⟩:kvs.length<=sizeLine/\(p==c8)=false/\∃vs,KV kvs vs/\s.heap.DictOf (Bd X.prog X.w) p vs:=I.hok p _ hx
   have hlen:=gH r
   exact wpAny_truthy_dict hS m (by omega) ⟨H,I.tok _,by rw[U1 r];exact q⟩
 |_=>exact(e).elim
def Vd:OpR X (dL .Add) (λx y H Q=>∃i j,x=.str i/\y=.str j/\i.length+j.length<=sizeLine/\Q (.str (i++j)) H):=by
 intro ξ s σ H x y v u Q I rx ry h
 obtain⟨i,j,rfl,rfl,hz,q⟩:=h
 obtain⟨t,rfl⟩:=rx
 obtain⟨t',rfl⟩:=ry
 exact bA (af _) (add_str (λt' tk htk=>⟨.str (i++j),H,I.tok _ htk,⟨_,rfl⟩,q⟩) hz)
def Dn{x:V}{us:List am}(r:Vals [x] us):∃u,us=[u]/\RelV x u:=by
 cases r with
 |cons r1 r2=>cases r2;exact⟨_,rfl,r1⟩
def b74{x y:V}{us:List am}(r:Vals [x,y] us):∃u w',us=[u,w']/\RelV x u/\RelV y w':=by
 cases r with
 |cons r1 r2=>
  cases r2 with
  |cons r3 r4=>cases r4;exact⟨_,_,rfl,r1,r3⟩
def Nn:Cf X (.type "int") (λxs H Q=>(∃i,xs=[.int i]/\Q (.int i) H) \/ ∃k,xs=[.bl k]/\Q (.int (if k then 1 else 0)) H):=by
 intro ξ s σ H xs us Q I r h
 rcases h with⟨i,rfl,q⟩|⟨k,rfl,q⟩
 .obtain⟨u,rfl,t,rfl⟩:=Dn r
  exact call_int_int ⟨.int i,H,I,⟨_,rfl⟩,q⟩
 .obtain⟨u,rfl,r1⟩:=Dn r
  cases r1
  exact call_int_bool ⟨.int (if k then 1 else 0),H,I.tok _,⟨_,rfl⟩,q⟩
end
structure ObjM (h:Heap) (x dx C:Addr) (mA:Str->Option am):Prop where
 obj:h.get? x=some (dH C dx)
 ns:h.Ns1 dx mA
 ne:dx≠x
def Z3{h:Heap}{dx:Addr}{mA:Str->Option am}(n:h.Ns1 dx mA):∃od,h.get? dx=some od/\∀name,iR name od=some (mA name):=by
 obtain⟨o,es,ep,ho,hd,hk,_,hm⟩:=n
 refine⟨o,ho,λname=>?_⟩
 have e:=hm name
 unfold nsFind findBy at e
 rw[<- Array.find?_toList] at e
 unfold iR
 rw[hd]
 dsimp only
 split
 .rename_i y q
  rw[q] at e
  exact congrArg some e
 .rename_i q
  rw[q] at e
  have a:es.toList.any (·.refKey)=false:=by
   rw[i3]
   intro y hy
   obtain⟨z,t,hkey⟩:=hk y (Array.mem_toList_iff.mp hy)
   simp[DictEntry.refKey,hkey]
  have a':¬ es.toList.any (·.refKey)=true:=by rw[a];exact aM
  rw[if_neg a']
  exact congrArg some e
def ObjM.look{h:Heap}{x dx C:Addr}{mA:Str->Option am}(I:ObjM h x dx C mA):∃od,PySem.W.InstAt h x (dH C dx) C (some od)/\∀name,iR name od=some (mA name):=
 let⟨od,ho,hl⟩:=Z3 I.ns
 ⟨od,⟨I.obj,rfl,rfl,ho⟩,hl⟩
section
variable {prog:a_}{w:bB}{A:bv}{E:am->av->Prop}{s:av}{K:ac}{x dx C f:Addr}{mA:Str->Option am}{name:Str}{v:am}
def Ak{expr:Bool}{Q:am->av->Prop}(X:K.In s.heap)(I:ObjM s.heap x dx C mA)(hg:ge K C name=true)(hh:gX K C=true)(ha:bR K (.ref C) name=some none)(hv:mA name=some v)(hv':PySem.W.handedIn v=true)(h:Q v {s with toks:=s.toks+1}) :
  aY (model prog w) A (mq (.ref x) name expr) Q E s:=by
 obtain⟨od,J,hl⟩:=I.look
 exact PySem.W.get_value X J (fg hg).1 (PySem.W.findObj_own hh ha rfl (by rw[hl,hv])) hv' h
def aj8{pl:Sem Bool}{Q:am×List am->av->Prop}(X:K.In s.heap)(I:ObjM s.heap x dx C mA)(hg:ge K C name=true)(hf:bR K (.ref C) name=some (some (.ref f)))(ht:dF K (.ref f)=true)(hv:mA name=none)(h:Q (.ref f,[.ref x]) s) :
  aY (model prog w) A (getMethod (.ref x) name pl) Q E s:=by
 obtain⟨od,J,hl⟩:=I.look
 exact PySem.W.method_fn X J (fg hg).1 (fg hg).2 hf (beq_iff_eq.mp ht) (by show(iR name od).map (·.isSome)=some false;rw[hl,hv];rfl) h
def a52{ns:List Str}{Q:Unit->av->Prop}(X:K.In s.heap)(I:ObjM s.heap x dx C mA)(hs:bR K (.ref C) "__setattr__"=some (some (.builtin "object.__setattr__")))(hp:i9 K C=true)(ht:jT K C name=some none)(hh:gX K C=true)(hw:jU mA ns)(hsz:ns.length<=sizeLine)(h:∀h',ObjM h' x dx C (λy=>if y=name then some v else mA y)->bP dx s.heap h'->Q () {s with heap:=h',toks:=s.toks+2}) :
  aY (model prog w) A (setAttr (.ref x) name v) Q E s:=by
 obtain⟨od,J,hl⟩:=I.look
 refine PySem.W.set_plain X J hs (PySem.W.osa_open X J hp ht λb=>?_)
 obtain⟨cd,hc,hd'⟩:=PySem.W.any_some hh
 have hx:=I.obj
 refine ag (ar (ag (ag (wpAny_loadPart hx (ag (PySem.W.Looks.here (PySem.W.looks_clsIn X hc) ?_))))))
 rw[hd']
 refine ar (ag (ar (ag ?_)))
 refine wpAny_nsSet1 I.ns λh' hn2 hs2=>?_
 obtain⟨oD,esD,epD,hoD,hdD,hcD⟩:=hn2.count (PySem.Within.cons name v hw)
 exact ag (wpAny_lookBehind hoD (by rw[hdD];exact pastItsLine_dict (aT hcD (by rw[aP];omega))) (ar (h _ ⟨(hs2.2 _ (cj I.ne)).trans I.obj,hn2,I.ne⟩ hs2)))
def al4{R:Result->av->Prop}{vs:List am}{kw:List (Str×am)}(X:K.In s.heap)(hm:dJ K C=true)(hi:bR K (.ref C) "__init__"=some (some (.ref f)))(hf:PySem.W.typeIn K (.ref f)=some (.type "function"))(h:jX (model prog w) (A.under (.builtin "type.__call__" ⟨.ref C::vs,kw⟩)) (.call (.ref f) ⟨.ref (s.heap.objs.size+1)::vs,kw⟩) (PySem.W.InitBack (s.heap.objs.size+1) R)
   {s with heap:=(s.heap.push c7).push (dH C s.heap.objs.size)}) :
  jX (model prog w) A (.call (.ref C) ⟨vs,kw⟩) R s:=by
 obtain⟨hh,g,d,t,os⟩:=s
 exact PySem.W.make_core (PySem.W.makes_of X hm) (PySem.W.looks_findIn X hi) (λself=>PySem.W.bind_fn X self hf) (.inl rfl) h
end
def Fo(f:Str)(v:V):List (Str×V)->List (Str×V)
 |[]=>[(f,v)]
 |(g,x)::r=>if g=f then(g,v)::r else(g,x)::Fo f v r
theorem Jo(f g:Str)(v:V):∀fs,(Fo f v fs).lookup g=if g=f then some v else fs.lookup g
 | []=>by
  show gh g [(f,v)]=_
  by_cases h:g=f
  .have hb:=beq_iff_eq.mpr h
   simp only[gh,hb,if_pos h]
  .have hb:=beq_eq_false_iff_ne.mpr h
   simp only[gh,hb,if_neg h]
 | (k,x)::r=>by
  have ih:=Jo f g v r
  rw[show Fo f v ((k,x)::r)=(if k=f then(k,v)::r else(k,x)::Fo f v r) from rfl]
  by_cases hk:k=f
  .rw[if_pos hk]
   by_cases h:g=k
   .have hb:=beq_iff_eq.mpr h
    simp only[gh,hb,if_pos (h.trans hk)]
   .have hb:=beq_eq_false_iff_ne.mpr h
    simp only[gh,hb,if_neg (λe:g=f=>h (e.trans hk.symm))]
  .rw[if_neg hk]
   by_cases h:g=k
   .have hb:=beq_iff_eq.mpr h
    simp only[gh,hb,if_neg (λe:g=f=>hk (h.symm.trans e))]
   .have hb:=beq_eq_false_iff_ne.mpr h
    simp only[gh,hb]
    exact ih
theorem Im(f:Str)(v:V):∀fs,f∈(Fo f v fs).map (·.1)/\∀g,g∈fs.map (·.1)->g∈(Fo f v fs).map (·.1)
 |[]=>⟨by simp[Fo],λg h=>by simp at h⟩
 | (k,x)::r=>by
  obtain⟨i1,i2⟩:=Im f v r
  rw[show Fo f v ((k,x)::r)=(if k=f then(k,v)::r else(k,x)::Fo f v r) from rfl]
  by_cases hk:k=f
  .rw[if_pos hk]
   subst hk
   exact⟨by simp,λg h=>by simpa using h⟩
  .rw[if_neg hk]
   refine⟨?_,λg h=>?_⟩
   .rw[a7]
    exact aA _ i1
   .rw[a7] at h ⊢
    rcases List.mem_cons.mp h with e|e
    .exact List.mem_cons.mpr (.inl e)
    .exact aA _ (i2 g e)
theorem Jm(f:Str)(v:V):∀fs,(Fo f v fs).length<=fs.length+1
 |[]=>by simp[Fo]
 | (k,x)::r=>by
  have ih:=Jm f v r
  rw[show Fo f v ((k,x)::r)=(if k=f then(k,v)::r else(k,x)::Fo f v r) from rfl]
  by_cases hk:k=f
  .rw[if_pos hk,aP,aP];omega
  .rw[if_neg hk,aP,aP];omega
def RelO.some_of{v:V}{o:Option am}(r:RelO (some v) o):∃u,o=some u/\RelV v u:=by
 cases o with
 |none=>exact(r).elim
 |some u=>exact⟨u,rfl,r⟩
def RelO.none_of{o:Option am}(r:RelO none o):o=none:=by
 cases o with
 |none=>rfl
 |some u=>exact(r).elim
def Zu{v:V}{u:am}(r:RelV v u):PySem.W.handedIn u=true:=by
 cases v <;> first|(cases r;rfl)|(obtain⟨t,rfl⟩:=r;rfl)
section
variable {P:a_}{w:bB}{H H':Hp}{h h':Heap}{a C dx:Addr}{fs fs':List (Str×V)}
def Kf(hok:HOk P w H h)(e:H a=some (.ins C dx fs)):∃mA,ObjM h a dx C mA/\(∀f,RelO (fs.lookup f) (mA f))/\jU mA (fs.map (·.1))/\fs.length<=1000/\H dx=some (.own a):=by
 obtain⟨d,z,ne,ob,mA,n,r,q⟩:=(hok a _ e)
 exact⟨mA,⟨ob,n,ne⟩,r,q,z,d⟩
end
structure Cls (K:ac) (C:Addr):Prop where
 pg:ge K C cQ=true
 hd:gX K C=true
 po:i9 K C=true
 sa:bR K (.ref C) "__setattr__"=some (some (.builtin "object.__setattr__"))
def Cls.get{K:ac}{C:Addr}(c:Cls K C)(f:Str):ge K C f=true:=c.pg
def NoAttr(K:ac)(C:Addr)(f:Str):Prop:=bR K (.ref C) f=some none
def NoAttr.taker{K:ac}{C:Addr}{f:Str}(n:NoAttr K C f):jT K C f=some none:=by
 unfold jT
 rw[n]
 rfl
structure Mn (K:ac) (C:Addr) (m:Str) (f:Addr):Prop where
 at_:bR K (.ref C) m=some (some (.ref f))
 fn:dF K (.ref f)=true
 kp:bF K (.ref f)=true
section
variable {X:Cx}{ξ:List (Addr×Obj)}{σ:St}{H:Hp}{s:av}{a C dx:Addr}{fs:List (Str×V)}{f:Str}{v:V}{A:bv}{E:am->av->Prop}
def Uw{b:Bool}{Q:am->av->Prop}(I:Inv X ξ σ H s)(e:H a=some (.ins C dx fs))(c:Cls X.K C)(n:NoAttr X.K C f)(l:fs.lookup f=some v)(h:∀u s',Inv X ξ σ H s'->RelV v u->Q u s'):aY (model X.prog X.w) A (mq (.ref a) f b) Q E s:=by
 obtain⟨mA,O,r,_,_,_⟩:=Kf I.hok e
 obtain⟨u,hu,ru⟩:=RelO.some_of (by rw[<- l];exact r f)
 exact Ak I.kIn O (c.get f) c.hd n hu (Zu ru) (h u _ (I.tok _) ru)
def Ux{m:Str}{g:Addr}{pl:Sem Bool}{Q:am×List am->av->Prop}(I:Inv X ξ σ H s)(e:H a=some (.ins C dx fs))(c:Cls X.K C)(k:Mn X.K C m g)(l:fs.lookup m=none)(h:Q (.ref g,[.ref a]) s):aY (model X.prog X.w) A (getMethod (.ref a) m pl) Q E s:=by
 obtain⟨mA,O,r,_,_,_⟩:=Kf I.hok e
 have hn:=RelO.none_of (by rw[<- l];exact r m)
 exact aj8 I.kIn O (c.get m) k.at_ k.fn hn h
def Vp{y:V}{u:am}{Q:Unit->av->Prop}(I:Inv X ξ σ H s)(e:H a=some (.ins C dx fs))(c:Cls X.K C)(n:NoAttr X.K C f)(hl:fs.length<1000)(ry:RelV y u)(h:∀s',Inv X ξ σ (upd H a (.ins C dx (Fo f y fs))) s'->Q () s'):aY (model X.prog X.w) A (setAttr (.ref a) f u) Q E s:=by
 obtain⟨mA,O,r,wi,_,ho⟩:=Kf I.hok e
 have hz:(fs.map (·.1)).length<=sizeLine:=by rw[ae,b_];omega
 refine a52 I.kIn O c.sa c.po n.taker c.hd wi hz λh' O' sb=>h _ ?_
 have hd:∃o,h'.get? dx=some o:=let⟨o,_,_,e',_⟩:=O'.ns;⟨o,e'⟩
 refine I.write (by rw[e];exact aZ) (.inr ho) (λb q hb z=>(sb.2 b hb).trans z) hd ?_
 refine⟨by rw[Ad O.ne];exact ho,?_,O.ne,O'.obj,_,O'.ns,λg=>?_,λg hg=>?_⟩
 .have:=Jm f y fs;omega
 .rw[Jo]
  by_cases q:g=f
  .rw[if_pos q,if_pos q];exact ry
  .rw[if_neg q,if_neg q];exact r g
 .by_cases q:g=f
  .rw[q];exact(Im f y fs).1
  .refine (Im f y fs).2 g (wi g λz=>hg ?_)
   show(if g=f then some u else mA g)=none
   rw[if_neg q];exact z
def Inv.made(I:Inv X ξ σ H s):Inv X ξ σ (upd (upd H s.heap.objs.size (.own (s.heap.objs.size+1))) (s.heap.objs.size+1) (.ins C s.heap.objs.size []))
  {s with heap:=(s.heap.push c7).push (dH C s.heap.objs.size)}:=by
 have e1:(s.heap.push c7).get? s.heap.objs.size=some c7:=aK s.heap rfl
 have e2:((s.heap.push c7).push (dH C s.heap.objs.size)).get? (s.heap.objs.size+1)=some (dH C s.heap.objs.size):=by
  have:=aK (s.heap.push c7) (o:=dH C s.heap.objs.size) rfl
  rwa[d6] at this
 have e3:(s.heap.push c7).Ns s.heap.objs.size (λ_=>none):=⟨c7,#[],_,e1,rfl,(λe he=>absurd he (by simp)),λ_=>rfl⟩
 have I1:=I.laid (o:=.own (s.heap.objs.size+1)) (λb u q=>ai _ q) (af _) ⟨_,e1⟩
 refine I1.laid (λb u q=>ai _ q) (lJ (d6 _ _)) ?_
 have ne:s.heap.objs.size≠s.heap.objs.size+1:=aQ (dB _)
 refine⟨by rw[Ad ne,Aa],bw _,ne,e2,λ_=>none,(Heap.Ns1.of_empty e3).at λo q=>ai _ q,λ_=>aZ,λy hy=>absurd rfl hy⟩
def Xp{prog:a_}{w:bB}{env:Env}{e:Expr}{f:Str}{pos:Pos}{s:av}{Q:am->av->Prop}(hb:jq e f env (eval e env)=eval e env)(h:aY (model prog w) A (eval e env) (λo s₁=>aY (model prog w) A (mq o f true) Q E s₁) E s):aY (model prog w) A (eval (.Attribute e f pos) env) Q E s:=
 Attribute_any_ h (by rw[arm_eval_Attribute,hb])
end
section
variable {X:Cx}{ξ:List (Addr×Obj)}{σ:St}{H:Hp}{s:av}{A:bv}{E:am->av->Prop}{Q:am->av->Prop}{c:am}{b:Bool}
inductive TyOf (K:ac) (H:Hp):V->am->Prop where
 |non:TyOf K H .non (.type "NoneType")
 |bl (x:Bool):TyOf K H (.bl x) (.type "bool")
 |int (i:Int):TyOf K H (.int i) (.type "int")
 |str (x:Str):TyOf K H (.str x) (.type "str")
 |lst {a:Addr}{xs:List V} (e:H a=some (.lst xs)):TyOf K H (.ref a) (.type "list")
 |dK {a:Addr}{kvs:List (Key×V)} (e:H a=some (.dK kvs)):TyOf K H (.ref a) (.type "dict")
def Zz{x:V}{u t:am}(I:Inv X ξ σ H s)(rx:RelV x u)(ty:TyOf X.K H x t)(e:ga X.K t c=some b)(h:∀tk,Q (.bool b) {s with toks:=tk}) :
  aY (model X.prog X.w) A (call (.builtin "isinstance") [u,c]) Q E s:=by
 cases ty with
 |non=>cases(rx);exact dI PySem.W.kitx_none I.kIn aZ e (λz=>nomatch z) h
 |bl y=>cases(rx);exact dI PySem.W.kitx_bool I.kIn aZ e (λz=>nomatch z) h
 |int i=>obtain⟨t,q⟩:=(rx);cases q;exact dI PySem.W.kitx_int I.kIn aZ e (λz=>nomatch z) h
 |str y=>obtain⟨t,q⟩:=(rx);cases q;exact dI PySem.W.kitx_str I.kIn aZ e (λz=>nomatch z) h
 |@lst a xs ea=>
  cases(rx)
  obtain⟨_,_,n,_,h1⟩:=(I.hok a _ ea)
  exact dI PySem.W.kitx_list I.kIn ⟨_,h1,rfl⟩ e (λz=>nomatch z) h
 |@dK a kvs ea=>
  cases(rx)
  obtain⟨_,_,vs,_,p⟩:=(I.hok a _ ea)
  obtain⟨o,es,ep,h1,h2,_⟩:=p
  exact dI PySem.W.kitx_dict I.kIn ⟨o,h1,h2.1⟩ e (λz=>nomatch z) h
end
structure Room (k:Nat) (A:bv):Prop where
 hd:A.handled=none
 dp:A.depth+3*k+5<recursionLimit
 un:A.units+16*k+200<cLine
def Room.mono{j k:Nat}{A:bv}(r:Room k A)(h:j<=k):Room j A:=⟨r.hd,by have:=r.dp;omega,by have:=r.un;omega⟩
theorem Room.deeper{k:Nat}{A:bv}(r:Room (k+1) A)(env:Env):Room k (A.deeper env):=
 ⟨r.hd,by have:=r.dp;show A.depth+1+3*k+5<_;omega,by have:=r.un;show A.units+3+16*k+200<_;omega⟩
theorem Room.in1{k:Nat}{A:bv}(r:Room (k+1) A):Room k A.in1:=
 ⟨r.hd,by have:=r.dp;show A.depth+3*k+5<_;omega,by have:=r.un;show A.units+1+16*k+200<_;omega⟩
def U7{A:bv}{C:Addr}{us:List am}{kw:List (Str×am)}:(A.under (.builtin "type.__call__" ⟨.ref C::us,kw⟩)).depth=A.depth+1:=by
 first|rfl|simp[lH,Code.weight,Code.isCreation,Code.isGuard,Code.isCaller,Code.frames,lI,guardIds]
def U8{A:bv}{C:Addr}{us:List am}{kw:List (Str×am)}:(A.under (.builtin "type.__call__" ⟨.ref C::us,kw⟩)).units=A.units+1:=by
 first|rfl|simp[lH,Code.cUnits,Code.frames,lI]
def Room.make{k:Nat}{A:bv}(r:Room (k+1) A)(C:Addr)(us:List am)(kw:List (Str×am)):Room k (A.under (.builtin "type.__call__" ⟨.ref C::us,kw⟩)):=
 ⟨r.hd,by have:=r.dp;rw[U7];omega,by have:=r.un;rw[U8];omega⟩
theorem Room.depth{k:Nat}{A:bv}(r:Room k A):A.depth<recursionLimit:=by have:=r.dp;omega
theorem Room.units{k:Nat}{A:bv}(r:Room k A):A.units+64<cLine:=by have:=r.un;omega
def ca4:TA:=λ_ H Q=>Q [] H
def b18(ta:TE)(tr:TA):TA:=λσ H Q=>ta σ H λx H1=>tr σ H1 λxs H2=>Q (x::xs) H2
section
variable {X:Cx}{e:Expr}{es:List Expr}{te:TE}{t:TA}{pos:Pos}
def bn1:PA X [] ca4:=λ_ _ _ _ H Q I h=>d8 ⟨[],H,I,.nil,h⟩
def a19(ha:PE X e te)(hr:PA X es t)(hs:df (e::es) X.env=(false,eval e X.env)::df es X.env:=by rfl):PA X (e::es) (b18 te t):=by
 intro pos ξ s σ H Q I h
 rw[hs]
 exact dS (thn (ha ξ s σ H _ I h) λu s1 ⟨x,H1,I1,r1,q1⟩=>(thn (hr pos ξ s1 σ H1 _ I1 q1) λus s2 ⟨xs,H2,I2,r2,q2⟩=>⟨x::xs,H2,I2,.cons r1 r2,q2⟩))
def ca8(t:TA):TE:=λσ H Q=>t σ H λxs H1=>xs.length<=sizeLine/\∀p,H1 p=none->Q (.ref p) (upd H1 p (.tup xs))
def ca3(t:TA):TE:=λσ H Q=>t σ H λxs H1=>xs.length<=sizeLine/\∀p,H1 p=none->Q (.ref p) (upd H1 p (.lst xs))
def bn7{x1}(h:PA X es t):PE X (.Tuple es x1 pos) (ca8 t):=by
 intro ξ s σ H Q I hq
 refine wpAny_Tuple_spliced (thn (h pos ξ s σ H _ I hq) λus s1 ⟨xs,H1,I1,r,z,q⟩=>⟨by rw[<- r.length];exact z,?_⟩)
 have hf:=I1.hok.fresh (af _)
 refine⟨.ref s1.heap.objs.size,upd H1 s1.heap.objs.size (.tup xs),I1.laid (λb u e=>ai _ e) (af _) ?_,rfl,q _ hf⟩
 exact⟨z,us,r,⟨_,aK _ rfl,rfl,_,rfl⟩⟩
def bn3(h:PA X es t):PE X (.List es pos) (ca3 t):=by
 intro ξ s σ H Q I hq
 refine wpAny_List_spliced (thn (h pos ξ s σ H _ I hq) λus s1 ⟨xs,H1,I1,r,z,q⟩=>⟨by rw[<- r.length];exact z,?_⟩)
 have hf:=I1.hok.fresh (af _)
 refine⟨.ref s1.heap.objs.size,upd H1 s1.heap.objs.size (.lst xs),I1.laid (λb u e=>ai _ e) (af _) ?_,rfl,q _ hf⟩
 exact⟨z,us,0,r,aK _ rfl⟩
end
abbrev Sp:=List V->Hp->VK->XK->Prop
abbrev CXT:=List Env->Hp->av->XK->am->av->Prop
structure Env0 (P:a_) (w:bB) (K:ac) (mg:Str->Option am) (base:Heap) (A:bv) (outer:List Env) (s:av) (H:Hp):Prop where
 frames:A.frames=some outer
 mod:Mod K mg base
 bs:∀b o,base.get? b=some o->s.heap.get? b=some o/\H b=none
 bsz:base.objs.size<=s.heap.objs.size
 funs:s.heap.FunFrames base outer
 frf:∀b∈frs outer,H b=none
 hok:HOk P w H s.heap
 bare:kH s.gens
 tk:Xi K s.toks
def CE(outer:List Env)(P:a_)(w:bB)(H:Hp)(s:av)(Q:VK)(u:am)(s':av):Prop:=
 ∃v H',(s'.os=s.os/\s.toks<=s'.toks)/\kH s'.gens/\Un (frs outer) [] H H' s.heap s'.heap/\HOk P w H' s'.heap/\RelV v u/\Q v H'
def CR(CX:CXT)(outer:List Env)(P:a_)(w:bB)(H:Hp)(s:av)(Q:VK)(E:XK)(r:Result)(s':av):Prop:=
 match r with
 |.ok (.ret u)=>CE outer P w H s Q u s'
 |.ok _=>False
 |.error e=>CX outer H s E e s'
structure FnOk (P:a_) (w:bB) (K:ac) (mg:Str->Option am) (base:Heap) (CX:CXT) (k:Nat) (f:Addr) (fd:bj) (ps:List Str) (sp:Sp):Prop where
 len:∀vs H Q E,sp vs H Q E->vs.length=ps.length
 run:∀(A:bv)(outer:List Env)(s:av)(H:Hp)(args:Args)(us:List am)(vs:List V)(Q:VK)(E:XK),Room k A->Env0 P w K mg base A outer s H->lC s fd args (ps.zip us)->Vals vs us->sp vs H Q E ->
  jX (model P w) A (.call (.ref f) args) (CR CX outer P w H s Q E) s
def FnOk.imp{P:a_}{w:bB}{K:ac}{mg:Str->Option am}{base:Heap}{CX:CXT}{k:Nat}{f:Addr}{fd:bj}{ps:List Str}{sp sp':Sp}(F:FnOk P w K mg base CX k f fd ps sp)(h:∀vs H Q E,sp' vs H Q E->sp vs H Q E):FnOk P w K mg base CX k f fd ps sp':=
 ⟨λvs H Q E q=>F.len vs H Q E (h _ _ _ _ q),λA outer s H args us vs Q E hr he hb hv hs=>F.run A outer s H args us vs Q E hr he hb hv (h _ _ _ _ hs)⟩
def Env0.make{P:a_}{w:bB}{K:ac}{mg:Str->Option am}{base:Heap}{A:bv}{outer:List Env}{s:av}{H:Hp}(e:Env0 P w K mg base A outer s H)(C:Addr)(us:List am)(kw:List (Str×am)) :
  Env0 P w K mg base (A.under (.builtin "type.__call__" ⟨.ref C::us,kw⟩)) outer s H:=⟨by first|exact e.frames|(simpa [lH,Code.envs,lI,pushEnvs] using e.frames),e.mod,e.bs,e.bsz,e.funs,e.frf,e.hok,e.bare,e.tk⟩
theorem Env0.in1{P:a_}{w:bB}{K:ac}{mg:Str->Option am}{base:Heap}{A:bv}{outer:List Env}{s:av}{H:Hp}(e:Env0 P w K mg base A outer s H) :
  Env0 P w K mg base A.in1 outer s H:=⟨e.frames,e.mod,e.bs,e.bsz,e.funs,e.frf,e.hok,e.bare,e.tk⟩
section
variable {X:Cx}{ξ:List (Addr×Obj)}{σ:St}{H:Hp}{s s':av}
def Inv.env0(I:Inv X ξ σ H s):Env0 X.prog X.w X.K X.mg X.base X.A X.stack s H:=
 ⟨I.ok.frames,I.ok.mod,I.bs,aT I.ok.bsz I.sz,I.stack,I.stkFree,I.hok,I.bare,aZ⟩
def Inv.after{Q:VK}{u:am}(I:Inv X ξ σ H s)(h:CE X.stack X.prog X.w H s Q u s'):EP X ξ σ Q u s':=by
 obtain⟨v,H',os,bare,un,hok,r,q⟩:=h
 obtain⟨hh,g,d,t,os'⟩:=s'
 obtain rfl:os'=s.os:=os.1
 exact⟨v,H',I.call un hok bare (λb z=>absurd z (by simp)) os.2,r,q⟩
end
def Binds(K:ac)(fd:bj)(ps:List Str)(ds:List am):Prop:=
 ∀s us,K.In s.heap->(us++ds).length=ps.length->lC s fd ⟨us,[]⟩ (ps.zip (us++ds))
def Binds.all{K:ac}{fd:bj}{ps:List Str}(h:∀us,us.length=ps.length->h9 fd ⟨us,[]⟩=pure (ps.zip us)):Binds K fd ps []:=λs us _ hl=>by
 rw[b5] at hl ⊢
 exact .of_eq (h us hl)
section
variable {X:Cx}{CX:CXT}{k:Nat}{f C:Addr}{fd:bj}{ps:List Str}{sp:Sp}{dvs:List V}{ds:List am}{E:XK}{x m:Str}{p pos apos:Pos}{e o:Expr}{es:List Expr}{ta:TE}{t:TA}
structure Mk (K:ac) (C f:Addr):Prop where
 makes:dJ K C=true
 init:bR K (.ref C) "__init__"=some (some (.ref f))
 fn:dF K (.ref f)=true
 kp:bF K (.ref C)=true
end
structure C9 (N P:List Str) (sc:Scope):Prop where
 kind:sc.kind=.function
 co:sc.isCoroutine=false
 gen:sc.isGenerator=false
 nd:N.Nodup
 pre:N.take P.length=P
 par:∀x∈P,sc.names.lookup x=some .local\/sc.names.lookup x=some .cell
 nofree:∀y∈sc.names,y.2≠.free
theorem Nm{kindOf:Str->Option cX}{x:Str}:∀{binds} {m},(∀v,(x,v)∉binds)->bindL kindOf binds m x=m x
 |[],_,_=>rfl
 | (n,v)::r,m,h=>by
  unfold bindL
  rw[Nm λw hw=>h w (aA _ hw)]
  split
  .have:x≠n:=by rintro rfl;exact h v aD
   simp[this]
  .rfl
theorem Nk{kindOf:Str->Option cX}{x:Str}:∀{binds} {m},(∀v,(x,v)∉binds)->bindC kindOf binds m x=m x
 |[],_,_=>rfl
 | (n,v)::r,m,h=>by
  unfold bindC
  rw[Nk λw hw=>h w (aA _ hw)]
  split
  .rfl
  .have:x≠n:=by rintro rfl;exact h v aD
   simp[this]
theorem Nl{kindOf:Str->Option cX}{x:Str}{v:am}:∀{P:List Str}{vs:List am}{i:Nat}{m:Str->Option am},P.Nodup->P[i]?=some x->vs[i]?=some v->kindOf x=some .local ->
  bindL kindOf (P.zip vs) m x=some v
 |[],_,_,_,_,h,_,_=>by simp at h
 |_::_,[],_,_,_,_,h,_=>by simp at h
 | p::P,w::vs,0,m,nd,h1,h2,hk=>by
  simp at h1 h2;subst h1;subst h2
  show bindL kindOf ((p,w)::P.zip vs) m p=_
  unfold bindL
  rw[Nm λv hv=>(List.nodup_cons.mp nd).1 (gE hv).1,if_pos hk]
  simp
 | p::P,w::vs,i+1,m,nd,h1,h2,hk=>by
  unfold bindL
  exact Nl (List.nodup_cons.mp nd).2 (h1) (h2) hk
theorem Nj{kindOf:Str->Option cX}{x:Str}{v:am}:∀{P:List Str}{vs:List am}{i:Nat}{m:Str->Option am},P.Nodup->P[i]?=some x->vs[i]?=some v->kindOf x≠some .local ->
  bindC kindOf (P.zip vs) m x=some v
 |[],_,_,_,_,h,_,_=>by simp at h
 |_::_,[],_,_,_,_,h,_=>by simp at h
 | p::P,w::vs,0,m,nd,h1,h2,hk=>by
  simp at h1 h2;subst h1;subst h2
  show bindC kindOf ((p,w)::P.zip vs) m p=_
  unfold bindC
  rw[Nk λv hv=>(List.nodup_cons.mp nd).1 (gE hv).1,if_neg hk]
  simp
 | p::P,w::vs,i+1,m,nd,h1,h2,hk=>by
  unfold bindC
  exact Nj (List.nodup_cons.mp nd).2 (h1) (h2) hk
def Dm(N:List Str)(vs:List V):St:=vs.map some++List.replicate (N.length-vs.length) none
def K2(CX:CXT)(P:a_)(w:bB)(K:ac)(mg:Str->Option am)(base:Heap)(N:List Str)(qual:Str)(scope:Scope)(f:Addr)(cd:am)(A:bv)(outer:List Env)(s:av)(H:Hp)(E:XK):Cx where
 prog:=P
 w:=w
 K:=K
 mg:=mg
 base:=base
 A:=A.deeper (kz qual scope s.heap.objs.size f cd)
 N:=N
 s₀:=s
 H₀:=H
 env:=kz qual scope s.heap.objs.size f cd
 outer:=outer
 stack:=kz qual scope s.heap.objs.size f cd::outer
 ex:=[]
 calm:=true
 fn:=λ_=>true
 pn:=[]
 xe:=λe s'=>aY (model P w) (A.deeper (kz qual scope s.heap.objs.size f cd)) (leaving (kz qual scope s.heap.objs.size f cd) e) (λ_ s''=>CX outer H s E e s'') (λe' s''=>CX outer H s E e' s'') s'
def Gz{sc:Scope}{n:Nat}{x:Str}(h:sc.names.lookup x=some .cell):∃c,(lY n sc.names []).lookup x=some c:=by
 have q:=gR sc.names n [] (.inl h)
 exact Option.isSome_iff_exists.mp q
def N0{CX:CXT}{P:a_}{w:bB}{K:ac}{mg:Str->Option am}{base:Heap}{N ps:List Str}{qual:Str}{scope:Scope}{f:Addr}{cd:am}{A:bv}{outer:List Env}{s s1:av}{H:Hp}{E:XK}{us:List am}{vs:List V}(S:C9 N ps scope)(hd:A.handled=none)(e0:Env0 P w K mg base A outer s H)(htk:s.toks<=s1.toks)(hl:vs.length=ps.length)(r:Vals vs us)(x:InCallC s s.heap.objs.size (bindL (kz qual scope s.heap.objs.size f cd).kindOf (ps.zip us) λ_=>none) (lY (s.heap.objs.size+1) scope.names []) (bindC (kz qual scope s.heap.objs.size f cd).kindOf (ps.zip us) λ_=>none) s1) :
  Inv (K2 CX P w K mg base N qual scope f cd A outer s H E) [] (Dm N vs) H s1:=by
 have hpl:ps.length<=N.length:=by have:=congrArg b9 S.pre;rw[aF] at this;omega
 obtain⟨h1,tk,rfl,hk⟩:=x.done
 have noA:∀b:Addr,b∉(K2 CX P w K mg base N qual scope f cd A outer s H E).ex:=λb z=>absurd (show b∈([]:List Addr) from z) (by simp)
 refine⟨⟨e0.mod,S.kind,rfl,rfl,af _,λy z c h1 h2=>?_,λy hy=>?_,λy c _ h=>?_,λ_=>hd,Around.frames_deeper e0.frames,.inr ⟨rfl,rfl⟩,λb z=>absurd z (noA b),e0.bs,e0.bsz,λb _ _=>noA b,λb z=>absurd z (noA b),e0.funs,e0.frf,e0.tk⟩,
  ⟨rfl,htk⟩,e0.bare,Un.kept hk,⟨_,x.toInCall.ns,λi y v h1 h2 h3=>?_⟩,λy c h=>⟨_,x.cell y c h⟩,e0.hok.fresh (af _),λy c h=>?_,λp hp=>absurd (show p∈([]:List (Addr×Obj)) from hp) (by simp),e0.hok.kept hk,?_⟩
 .exact name_of_addr x.apart (ce h1) (ce h2)
 .have hy:=hy
  rcases hy with hy|hy
  .exact Gz hy
  .exact absurd rfl (S.nofree _ (ce hy))
 .exact fF (x.above y c (ce h))
 .have hi:i<vs.length:=by
   unfold Dm at h2
   by_cases hi:i<vs.length
   .exact hi
   .rw[bq (by simpa using hi)] at h2
    rw[gy] at h2
    split at h2 <;> cases h2
  have ha:vs[i]?=some v:=by
   unfold Dm at h2
   rw[bE (by simpa using hi),ao] at h2
   cases e:vs[i]? with
   |none=>rw[e] at h2;cases h2
   |some a=>rw[e] at h2;cases h2;rfl
  obtain⟨u,hu,rv⟩:=r.get ha
  have hp:ps[i]?=some y:=by
   rw[<- S.pre,List.getElem?_take_of_lt (by omega)];exact h1
  have ndP:ps.Nodup:=by rw[<- S.pre];exact S.nd.sublist (eh _ _)
  refine⟨u,rv,?_⟩
  rcases S.par y (ah hp) with k|k
  .exact .inl ⟨k,Nl ndP hp hu k⟩
  .obtain⟨c,e⟩:=Gz k
   refine .inr ⟨.inl k,c,e,?_⟩
   have q:=x.cell y c e
   rw[Nj ndP hp hu (by show scope.names.lookup y≠_;rw[k];decide)] at q
   exact q
 .exact e0.hok.fresh (fF (x.above y c (ce h)))
 .unfold Dm
  show _=N.length
  rw[aG,ae,List.length_replicate]
  omega
def a77{CX:CXT}{P:a_}{w:bB}{K:ac}{mg:Str->Option am}{base:Heap}{k:Nat}{f:Addr}{name qual:Str}{params:Arguments}{body:List Stmt}{scope:Scope}{dV kV doc pm θ ct oc:am}{an od:Option Addr}{osl:Array (Option am)}{N ps:List Str}{sp:Sp}(lk:K.lookup f=some ⟨oc,od,.func (cC name qual params body scope dV kV doc pm an θ ct),osl⟩)(hcd:dE K θ qual=true)(S:C9 N ps scope)(len:∀vs H Q E,sp vs H Q E->vs.length=ps.length)(hbody:∀A outer s H vs Q E,Room k (A.deeper (kz qual scope s.heap.objs.size f θ))->sp vs H Q E ->
   ∃t,PSs (K2 CX P w K mg base N qual scope f θ A outer s H E) body t/\t {nx:=λ_ H'=>Q .non H',rt:=Q} (Dm N vs) H) :
  FnOk P w K mg base CX (k+1) f (cC name qual params body scope dV kV doc pm an θ ct) ps sp:=by
 refine⟨len,λA outer s H args us vs Q E hr e0 hb r hsp=>?_⟩
 have hl:=len _ _ _ _ hsp
 have KX:=e0.mod.kin.keeps λb o e=>(e0.bs b o e).1
 have lim:=e0.mod.nolimit.keeps λb o e=>(e0.bs b o e).1
 have hkind:∀y∈ps.zip us,scope.names.lookup y.1=some .local\/(scope.names.lookup y.1=some .cell/\((lY (s.heap.objs.size+1) scope.names []).lookup y.1).isSome=true):=fun⟨n,v⟩ hy=>by
  rcases S.par n (gE hy).1 with q|q
  .exact .inl q
  .exact .inr ⟨q,gR _ _ _ (.inl q)⟩
 refine codeAny_call_function hr.depth (KX _ _ lk) rfl S.co S.gen rfl (PySem.W.codeRec_of KX hcd) (hb _ _ _ _ ?_)
 refine bA (af _) (iG S.kind hkind λenv he s1 x htk=>?_)
 subst he
 refine⟨lim.keeps x.toInCall.keep,codeAny_func ?_⟩
 obtain⟨t,ht,hq⟩:=hbody A outer s H vs Q E (hr.deeper _) hsp
 have I:Inv (K2 CX P w K mg base N qual scope f θ A outer s H E) [] (Dm N vs) H s1:=N0 S hr.hd e0 htk hl r x
 refine bU (ht [] s1 (Dm N vs) H _ I hq) (λfl s' hs=>?_) λe s' hs=>hs
 have fin:∀{σ':St}{H':Hp}{v:V}{u:am},Inv (K2 CX P w K mg base N qual scope f θ A outer s H E) [] σ' H' s'->RelV v u->Q v H'->CE outer P w H s Q u s':=
  λ{σ' H' v u} J rv q=>⟨v,H',J.os,J.bare,J.base,J.hok,rv,q⟩
 cases fl with
 |ret u=>
  obtain⟨v,σ',H',J,rv,q⟩:=hs
  exact fin J rv q
 |next=>
  obtain⟨σ',H',J,q⟩:=hs
  exact fin (v:=V.non) J rfl q
 |brk=>
  obtain⟨_,_,_,q⟩:=hs
  exact ca q
 |cont=>
  obtain⟨_,_,_,q⟩:=hs
  exact ca q
section
variable {X:Cx}{x:Str}{p pos:Pos}{e:Expr}{es:List Expr}{t:TA}{id T:String}{r:List V->Hp->VK->Prop}
def tCB(r:List V->Hp->VK->Prop)(t:TA):TE:=λσ H Q=>t σ H λvs H1=>r vs H1 Q
def ao2(hc:Cf X (.builtin id) r)(hg:Gl X x)(hm:X.mg x=none)(hv:cO x=some (.builtin id))(ha:PA X (e::es) t)(hn:x ≠ "__name__" := by decide)(hdb:(x==("__debug__" : Str))=false:=by decide)(he:df (e::es) X.env=(false,eval e X.env)::df es X.env:=by rfl)(hpl:(jW pos (df es X.env)).any (·.1)=false:=by rfl):PE X (.Call (.Name x p) (e::es) [] pos) (tCB r t):=by
 intro ξ s σ H Q I h
 exact cz (Cu I hg hm hv (eW (thn (ha pos ξ s σ H _ I h) λus s1 ⟨vs,H1,I1,r1,q1⟩=>hc ξ s1 σ H1 vs us Q I1 r1 q1) he hpl) hn hdb)
def aa5(hc:Cf X (.type T) r)(hg:Gl X x)(hm:X.mg x=none)(hv:cO x=some (.type T))(ha:PA X (e::es) t)(hn:x ≠ "__name__" := by decide)(hdb:(x==("__debug__" : Str))=false:=by decide)(he:df (e::es) X.env=(false,eval e X.env)::df es X.env:=by rfl)(hpl:(jW pos (df es X.env)).any (·.1)=false:=by rfl):PE X (.Call (.Name x p) (e::es) [] pos) (tCB r t):=by
 intro ξ s σ H Q I h
 exact cz (Cu I hg hm hv (bS (thn (ha pos ξ s σ H _ I h) λus s1 ⟨vs,H1,I1,r1,q1⟩=>hc ξ s1 σ H1 vs us Q I1 r1 q1) he hpl) hn hdb)
end
end L2
namespace HT
open PySem PyProof.Rows
section
variable {prog:a_}{w:bB}{A:bv}{E:am->av->Prop}{s:av}
def cat_tup{t b:Addr}{vs ws:List am}{Q:am->av->Prop}(ht:my s.heap t vs.toArray)(hb:my s.heap b ws.toArray)(hv:vs≠[])(h1:ws=[]->Q (.ref t) s)(h2:ws≠[]->Q (.ref s.heap.objs.size) {s with heap:=s.heap.push {cls:=.type "tuple", data:=.seq (vs++ws).toArray}})(hsz:vs.length+ws.length<=sizeLine):aY (model prog w) A (dL .Add (.ref t) (.ref b)) Q E s:=by
 obtain⟨⟨cls,dd,data,sl⟩,ho,hc,n,hd⟩:=ht
 obtain⟨⟨cls2,dd2,data2,sl2⟩,ho2,hc2,n2,hd2⟩:=hb
 subst hc hd hc2 hd2
 have e:vs.toArray++ws.toArray=(vs++ws).toArray:=by simp
 by_cases hw:ws=[]
 .exact lN ⟨_,ho,rfl⟩ ⟨_,ho2,rfl⟩ jA ly gQ gI (gu _ _)
   (tuple_addW1 t b vs.toArray ws.toArray n n2 dd dd2 sl sl2 (by simpa using hv) (by simp[hw])) ⟨ho,ho2,h1 hw⟩
 .refine lN ⟨_,ho,rfl⟩ ⟨_,ho2,rfl⟩ jA ly gQ gI (gu _ _)
   (tuple_addW2 t b vs.toArray ws.toArray n n2 dd dd2 sl sl2 (by simpa using hv) (by simpa using hw) (by rw[ay,ay];exact hsz)) ⟨ho,ho2,?_⟩
  rw[e]
  exact h2 hw
end
end HT
namespace L2
open PySem PySem.Spec PyProof.Rows
abbrev TO:=St->Hp->(Option Int->Hp->Prop)->Prop
def PO(X:Cx)(e:Option Expr)(t:TO):Prop:=
 ∀ξ s (σ:St) (H:Hp) (Q:Option Int->Hp->Prop),Inv X ξ σ H s->t σ H Q ->
  aY (model X.prog X.w) X.A (evalPart e X.env) (λu s'=>∃o H',Inv X ξ σ H' s'/\IsPart u o/\Q o H') X.xe s
def a57:TO:=λ_ H Q=>Q none H
def Ld{ns:List Int}:∀{us},Vals (ns.map V.int) us->lU us ns:=by
 induction ns with
 |nil=>intro us r;rw[eU] at r;cases r;exact .nil
 |cons n ns ih=>
  intro us r
  rw[a7] at r
  cases r with
  |cons r1 r2=>
   obtain⟨t,e⟩:=r1
   subst e
   exact .cons n t (ih r2)
section
variable {X:Cx}{e:Expr}{te:TE}{lo hi:Option Expr}{tl th:TO}{pos p2:Pos}
def a24:PO X none a57:=by
 intro ξ s σ H Q I h
 rw[evalPart_none]
 exact ar ⟨none,H,I,.none,h⟩
def a96(K:ac):R2:=λx y H Q=>∃a b xs ys,x=.ref a/\y=.ref b/\SqT K H a xs/\SqT K H b ys/\xs≠[]/\xs.length+ys.length<=sizeLine /\
 (ys=[]->Q (.ref a) H)/\(ys≠[] -> ∀p,H p=none->Q (.ref p) (upd H p (.tup (xs++ys))))
def Vals.nil_iff{xs:List V}{us:List am}(r:Vals xs us):us=[]↔xs=[]:=by
 cases r with
 |nil=>simp
 |cons _ _=>simp
def op_catT:OpR X (dL .Add) (a96 X.K):=by
 intro ξ s σ H x y v u Q I rx ry h
 obtain⟨a,b,xs,ys,rfl,rfl,ha,hb,hx,hz,q1,q2⟩:=h
 cases rx
 cases ry
 obtain⟨χ,r1,p1,_⟩:=I.tuple ha
 obtain⟨its2,r2,p2,_⟩:=I.tuple hb
 refine HT.cat_tup p1 p2 (λz=>hx (r1.nil_iff.mp z)) (λz=>⟨.ref a,H,I,rfl,q1 (r2.nil_iff.mp z)⟩) (λz=>?_) (by rw[<- r1.length,<- r2.length];exact hz)
 refine⟨.ref s.heap.objs.size,_,I.laid (λb ob q=>ai _ q) (af _) ?_,rfl,q2 (λw=>z (r2.nil_iff.mpr w)) _ (I.hok.fresh (af _))⟩
 exact⟨by rw[aG];exact hz,_,r1.append r2,IsTup.new _ _⟩
end
def ixN(n:Nat)(i:Int):Option Nat:=if 0<=i then(if i<n then some i.toNat else none) else if -(n:Int)<=i then some (i+n).toNat else none
def atI{α:Type}(xs:List α)(i:Int):Option α:=(ixN xs.length i).bind λj=>xs[j]?
def az7{n:Nat}{i:Int}{j:Nat}(h:ixN n i=some j):seqIndex? i n=some j/\j<n /\ -(n:Int)<=i/\i<n:=by
 unfold ixN at h
 by_cases h0:0<=i
 .rw[if_pos h0] at h
  by_cases h1:i<n
  .rw[if_pos h1] at h
   have e:=aJ h
   exact⟨by rw[seqIndex_of h0 h1,e],by omega,by omega,h1⟩
  .rw[if_neg h1] at h;cases h
 .rw[if_neg h0] at h
  by_cases h1:-(n:Int)<=i
  .rw[if_pos h1] at h
   have e:=aJ h
   exact⟨by rw[seqIndex_neg (by omega) h1,e],by omega,h1,by omega⟩
  .rw[if_neg h1] at h;cases h
def Os{α:Type}{xs:List α}{i:Int}{v:α}(h:atI xs i=some v):∃j,seqIndex? i xs.length=some j/\xs[j]?=some v/\j<xs.length /\ -(xs.length:Int)<=i/\i<xs.length:=by
 unfold atI at h
 cases e:ixN xs.length i with
 |none=>rw[e] at h;cases h
 |some j=>
  rw[e] at h
  obtain⟨h1,h2,h3,h4⟩:=az7 e
  exact⟨j,h1,h,h2,h3,h4⟩
def B5{α:Type}{xs:List α}{j:Nat}{v:α}(h:xs[j]?=some v):atI xs (j:Int)=some v:=by
 have hj:=(List.getElem?_eq_some_iff.mp h).1
 have e:ixN xs.length (j:Int)=some j:=by
  unfold ixN
  rw[if_pos (by omega),if_pos (by omega)];simp
 unfold atI;rw[e];exact h
def Xh(b:Expr):Prop:=∀o i,subscripted b false o i=operate [o,i] (l7 o i)
def IxR(X:Cx)(r:R2):Prop:=
 ∀value slice ξ s (σ:St) (H:Hp) (x y:V) (v u:am) (Q:VK),Inv X ξ σ H s->RelV x v->RelV y u->r x y H Q ->
  subscripted slice false v u=operate [v,u] (l7 v u)->aY (model X.prog X.w) X.A (subscriptTail value slice v u) (EP X ξ σ Q) X.xe s
def MtR(X:Cx)(id:String)(r:V->List V->Hp->VK->Prop):Prop:=
 ∀ξ s (σ:St) (H:Hp) (x:V) (xs:List V) (v:am) (us:List am) (Q:VK),Inv X ξ σ H s->RelV x v->Vals xs us->r x xs H Q ->
  aY (model X.prog X.w) X.A (call (.builtin id) (v::us)) (EP X ξ σ Q) X.xe s
section
variable {X:Cx}{a b:Expr}{ta tb:TE}{pos:Pos}
def bz5{r:R2}(hr:IxR X r)(ha:PE X a ta)(hb:PE X b tb)(hs:Xh b):PE X (.Subscript a b pos) (tOp r ta tb):=by
 intro ξ s σ H Q I h
 exact Subscript_ (bc4 ha hb I h λv u s2 x y H2 I2 rx ry q=>hr a b ξ s2 σ H2 x y v u Q I2 rx ry q (hs _ _))
def b95(K:ac):R2:=λx y H Q=>∃p xs i v,x=.ref p/\y=.int i/\SqL K H p xs/\atI xs i=some v/\Q v H
def b97(K:ac):R2:=λx y H Q=>∃p xs i v,x=.ref p/\y=.int i/\SqT K H p xs/\atI xs i=some v/\Q v H
def b96:R2:=λx y H Q=>∃z i c,x=.str z/\y=.int i/\z.length<=sizeLine/\atI z.cps.toList i=some c/\Q (.str ⟨#[c]⟩) H
def az8:IxR X (b95 X.K):=by
 intro value slice ξ s σ H x y v u Q I rx ry h hs
 obtain⟨p,xs,i,z,rfl,rfl,hq,he,q⟩:=h
 cases rx
 obtain⟨t,rfl⟩:=ry
 obtain⟨χ,r,pl,hz⟩:=I.list hq
 obtain⟨j,h1,h2,h3,h4,h5⟩:=Os he
 obtain⟨w,ew,rw'⟩:=r.get h2
 have hl:=r.length
 have hn:=Io
 have fin:EP X ξ σ Q w s:=⟨z,H,I,rw',q⟩
 by_cases h0:0<=i
 .have hj:i.toNat=j:=by
   rw[seqIndex_of h0 h5] at h1
   exact aJ h1
  exact item_listR pl.isList h0 (by omega) (by rw[hj];simpa using ew) fin hs
 .have hj:(i+(χ.toArray.size:Int)).toNat=j:=by
   rw[seqIndex_neg (by omega) h4] at h1
   rw[ay,<- hl]
   exact aJ h1
  exact jG pl.isList.typeIs slot_list_getitem.lookup
   (wpAny_getItem_list_neg pl.isList (by omega) (by rw[ay] <;> omega) (by omega) (by rw[hj];simpa using ew) ⟨rfl,fin⟩) hs
def bf0:IxR X (b97 X.K):=by
 intro value slice ξ s σ H x y v u Q I rx ry h hs
 obtain⟨p,xs,i,z,rfl,rfl,hq,he,q⟩:=h
 cases rx
 obtain⟨t,rfl⟩:=ry
 obtain⟨χ,r,pl,hz⟩:=I.tuple hq
 obtain⟨j,h1,h2,h3,h4,h5⟩:=Os he
 obtain⟨w,ew,rw'⟩:=r.get h2
 have hl:=r.length
 have hn:=Io
 have fin:EP X ξ σ Q w s:=⟨z,H,I,rw',q⟩
 exact jG pl.typeIs slot_tuple_getitem.lookup
  (getItem_tuple pl (by omega) (by omega) (by rw[ay,<- hl];exact h1) (by simpa using ew) ⟨rfl,fin⟩) hs
def be9:IxR X b96:=by
 intro value slice ξ s σ H x y v u Q I rx ry h hs
 obtain⟨z,i,c,rfl,rfl,hz,he,q⟩:=h
 obtain⟨t,rfl⟩:=rx
 obtain⟨t',rfl⟩:=ry
 obtain⟨j,h1,h2,h3,h4,h5⟩:=Os he
 have hl:z.cps.toList.length=z.length:=by simp[Str.length]
 rw[hl] at h1 h4 h5
 have hn:=Io
 exact tail_any (typeIs_str s z t) slot_str_getitem.lookup (getItem_str (by
  have e1:decide (i < -(2^63:Int))=false:=decide_eq_false (by omega)
  have e2:decide (i ≥ 2^63)=false:=decide_eq_false (by omega)
  rw[e1,e2,Bool.or_false]) (by rw[h1];simpa using h2) ⟨.str ⟨#[c]⟩,H,I.tok _,⟨_,rfl⟩,q⟩) hs
def eqU(x:V)(u:am):Bool:=match u with
 |.none=>eqV .non x
 |.bool b=>eqV (.bl b) x
 |.int i _=>eqV (.int i) x
 |.str z _=>eqV (.str z) x
 |_=>false
def aj4{x y:V}{u:am}(r:RelV y u)(f:B7 y=true):eqU x u=eqV y x:=by
 cases y with
 |non=>cases r;rfl
 |bl b=>cases r;rfl
 |int i=>obtain⟨t,rfl⟩:=r;rfl
 |str z=>obtain⟨t,rfl⟩:=r;rfl
 |_=>exact absurd (f) aM
theorem Gx{x:V}:∀{xs} {us},Vals xs us->xs.all B7=true->us.any (eqU x)=xs.any λy=>eqV y x
 |_,_,.nil,_=>rfl
 | y::xs,u::us,.cons r t,f=>by
  rw[bV,aU] at f
  rw[fP,fP,aj4 r f.1,Gx t f.2]
theorem Fk{A:bv}{s:av}{x:V}{v:am}(rx:RelV x v)(fx:B7 x=true):∀{xs} {us},Vals xs us->xs.all B7=true -> ∀u∈us,bx A s u v (eqU x u)
 |_,_,.nil,_=>λu hu=>by cases hu
 | y::xs,u::us,.cons r t,f=>λu' hu=>by
  rw[bV,aU] at f
  rcases List.mem_cons.mp hu with rfl|hu
  .rw[aj4 r f.1];exact Pd r rx f.1 fx
  .exact Fk rx fx t f.2 u' hu
def inV(x:V)(xs:List V):Bool:=xs.any λy=>eqV y x
def rIn(K:ac)(neg:Bool):R2:=λx y H Q=>∃p xs,y=.ref p/\(SqL K H p xs\/SqT K H p xs)/\B7 x=true/\xs.all B7=true/\Q (.bl (if neg then !inV x xs else inV x xs)) H
def aa2:OpR X (cy .In) (rIn X.K false):=by
 intro ξ s σ H x y v u Q I rx ry h
 obtain⟨p,xs,rfl,hq,fx,fs,q⟩:=h
 cases ry
 rcases hq with hq|hq
 .obtain⟨χ,r,pl,hz⟩:=I.list hq
  refine SeqAt.in_listAt (eqU x) pl.isList (λw hw=>Fk rx fx r fs w (by simpa using hw)) ⟨.bl _,H,I,rfl,?_⟩
  rw[show χ.toArray.any (eqU x)=χ.any (eqU x) by simp,Gx r fs]
  exact q
 .obtain⟨χ,r,pl,hz⟩:=I.tuple hq
  refine SeqAt.in_tupleAt (eqU x) pl (λw hw=>Fk rx fx r fs w (by simpa using hw)) ⟨.bl _,H,I,rfl,?_⟩
  rw[show χ.toArray.any (eqU x)=χ.any (eqU x) by simp,Gx r fs]
  exact q
def P1:OpR X (cy .NotIn) (rIn X.K true):=by
 intro ξ s σ H x y v u Q I rx ry h
 obtain⟨p,xs,rfl,hq,fx,fs,q⟩:=h
 cases ry
 rcases hq with hq|hq
 .obtain⟨χ,r,pl,hz⟩:=I.list hq
  refine SeqAt.notIn_listAt (eqU x) pl.isList (λw hw=>Fk rx fx r fs w (by simpa using hw)) ⟨.bl _,H,I,rfl,?_⟩
  rw[show χ.toArray.any (eqU x)=χ.any (eqU x) by simp,Gx r fs]
  exact q
 .obtain⟨χ,r,pl,hz⟩:=I.tuple hq
  refine SeqAt.notIn_tupleAt (eqU x) pl (λw hw=>Fk rx fx r fs w (by simpa using hw)) ⟨.bl _,H,I,rfl,?_⟩
  rw[show χ.toArray.any (eqU x)=χ.any (eqU x) by simp,Gx r fs]
  exact q
def Ou:Cf X (.builtin "len") (λxs H Q=>∃p ys,xs=[.ref p]/\(SqL X.K H p ys\/SqT X.K H p ys)/\Q (.int ys.length) H):=by
 intro ξ s σ H xs us Q I r h
 obtain⟨p,ys,rfl,hq,q⟩:=h
 obtain⟨u,rfl,rx⟩:=Dn r
 cases rx
 have hn:=Io
 rcases hq with hq|hq
 .obtain⟨χ,r',pl,hz⟩:=I.list hq
  have hlen:=r'.length
  exact Calls.call_len_list pl.isList (by simp only[ay] <;> omega) ⟨.int ys.length,H,I.tok _,⟨s.toks+1,by rw[ay,hlen]⟩,q⟩
 .obtain⟨χ,r',pl,hz⟩:=I.tuple hq
  have hlen:=r'.length
  exact len_tuple pl (by simp only[ay] <;> omega) ⟨.int ys.length,H,I.tok _,⟨s.toks+1,by rw[ay,hlen]⟩,q⟩
def Ov:Cf X (.builtin "len") (λxs H Q=>∃z,xs=[.str z]/\z.length<=sizeLine/\Q (.int z.length) H):=by
 intro ξ s σ H xs us Q I r h
 obtain⟨z,rfl,hz,q⟩:=h
 obtain⟨u,rfl,t,rfl⟩:=Dn r
 have hn:=Io
 exact len_str (by omega) ⟨.int z.length,H,I.tok _,⟨_,rfl⟩,q⟩
def Ow:Cf X (.type "list") (λxs H Q=>∃p ys,xs=[.ref p]/\(SqL X.K H p ys\/SqT X.K H p ys)/\∀l,H l=none->Q (.ref l) (upd H l (.lst ys))):=by
 intro ξ s σ H xs us Q I r h
 obtain⟨p,ys,rfl,hq,q⟩:=h
 obtain⟨u,rfl,rx⟩:=Dn r
 cases rx
 have fin:∀χ,Vals ys χ->ys.length<=sizeLine -> ∀h' c',(∀b o',s.heap.get? b=some o'->h'.get? b=some o') ->
   h'.get? s.heap.objs.size=some {cls:=.type "list", dict:=none,data:=.seq χ.toArray c',slots:=#[]}->EP X ξ σ Q (.ref s.heap.objs.size) {s with heap:=h'}:=λχ r' hz h' c' kp e=>
  ⟨.ref s.heap.objs.size,_,I.laid kp (af _) (show ObjOk X.prog X.w _ h' _ (.lst ys) from⟨hz,χ,c',r',e⟩),rfl,q _ (I.hok.fresh (af _))⟩
 rcases hq with hq|hq
 .obtain⟨χ,r',pl,hz⟩:=I.list hq
  have hlen:=r'.length
  obtain⟨o,ho,hc,n,hd⟩:=pl.isList
  exact call_list_seq p (.inl rfl) ho hc hd (λh' c' kp e=>fin χ r' hz h' c' kp e) (by simp only[ay] <;> omega)
 .obtain⟨χ,r',pl,hz⟩:=I.tuple hq
  have hlen:=r'.length
  obtain⟨o,ho,hc,n,hd⟩:=pl
  exact call_list_seq p (.inr rfl) ho hc hd (λh' c' kp e=>fin χ r' hz h' c' kp e) (by simp only[ay] <;> omega)
def Mo:Cf X (.type "tuple") (λxs H Q=>∃p ys,xs=[.ref p]/\((SqL X.K H p ys/\∀l,H l=none->Q (.ref l) (upd H l (.tup ys)))\/(SqT X.K H p ys/\Q (.ref p) H))):=by
 intro ξ s σ H xs us Q I r h
 obtain⟨p,ys,rfl,h⟩:=h
 obtain⟨u,rfl,rx⟩:=Dn r
 cases rx
 rcases h with⟨hq,q⟩|⟨hq,q⟩
 .obtain⟨χ,r',pl,hz⟩:=I.list hq
  have hlen:=r'.length
  refine call_tuple_list pl.isList (λh' kp=>?_) (by simp only[ay] <;> omega)
  have I1:=I.kept kp
  have I2:Inv X ξ σ (upd H h'.objs.size (.tup ys)) {s with heap:=h'.push {cls:=.type "tuple", data:=.seq χ.toArray}}:=
   I1.laid (λb o e=>ai _ e) (af _) (⟨hz,χ,r',IsTup.new _ _⟩)
  exact⟨.ref h'.objs.size,_,I2,rfl,q _ (I1.hok.fresh (af _))⟩
 .obtain⟨χ,r',pl,hz⟩:=I.tuple hq
  exact call_tuple_same pl ⟨.ref p,H,I,rfl,q⟩
def tyV(K:ac)(T:String)(x:V)(H:Hp):Prop:=match x with
 |.str _=>T="str"
 |.int _=>T="int"
 |.ref p=>(T="list" /\ ∃xs,SqL K H p xs)\/False\/(T="dict" /\ ((∃kvs,H p=some (.dK kvs)) \/ ∃kvs,H p=some (.dT kvs)))\/False
 |_=>False
def av5{ξ:List (Addr×Obj)}{σ:St}{H:Hp}{s:av}{T:String}{x:V}{v:am}(I:Inv X ξ σ H s)(r:RelV x v)(ty:tyV X.K T x H) :
  s.TypeIs v T/\∀a,v=.ref a -> ∃ob,s.heap.get? a=some ob/\ob.dict=none:=by
 cases x with
 |str z=>
  obtain⟨t,rfl⟩:=r
  cases(ty)
  exact⟨typeIs_str s z t,λ_ e=>nomatch e⟩
 |int i=>
  obtain⟨t,rfl⟩:=r
  cases(ty)
  exact⟨typeIs_int s i t,λ_ e=>nomatch e⟩
 |ref p=>
  cases r
  rcases ty with⟨rfl,xs,hq⟩|z|⟨rfl,hk⟩|z
  .obtain⟨χ,_,pl,_⟩:=I.list hq
   refine⟨pl.isList.typeIs,λa e=>?_⟩
   cases e
   obtain⟨o,n,e,c,hd,_⟩:=pl
   exact⟨o,e,hd⟩
  .exact z.elim
  .obtain⟨o,e,ex⟩:∃o,s.heap.get? p=some o/\o.ExactDict:=by
    rcases hk with⟨kvs,hk⟩|⟨kvs,hk⟩
    .obtain⟨_,_,_,_,o,_,_,e,ex,_⟩:=I.hok p _ hk;exact⟨o,e,ex⟩
    .obtain⟨_,_,o,_,_,e,ex,_⟩:=I.hok p _ hk;exact⟨o,e,ex⟩
   refine⟨⟨o,e,ex.1⟩,λa e2=>?_⟩
   cases e2
   exact⟨o,e,ex.2.1⟩
  .exact z.elim
 |_=>exact ca ty
variable {o e:Expr}{es:List Expr}{to:TE}{t:TA}{name:Str}{apos cpos:Pos}{T id:String}{r:V->List V->Hp->VK->Prop}
end
def MtM(X:Cx)(id:String)(r:V->List V->Hp->VK->Prop):Prop:=
 ∀ξ s (σ:St) (H:Hp) (x:V) (xs:List V) (v:am) (us:List am) (Q:VK),Inv X ξ σ H s->RelV x v->Vals xs us->r x xs H Q ->
  aY (model X.prog X.w) X.A (call (.builtin id) (v::us)) (EP X ξ σ Q) X.xe s
theorem Vals.one:∀{x} {us},Vals [x] us -> ∃u,us=[u]/\RelV x u
 |_,_,.cons r .nil=>⟨_,rfl,r⟩
theorem Vals.two:∀{x y} {us},Vals [x,y] us -> ∃u v,us=[u,v]/\RelV x u/\RelV y v
 |_,_,_,.cons r (.cons q .nil)=>⟨_,_,rfl,r,q⟩
theorem Vals.zero:∀{us},Vals [] us->us=[]
 |_,.nil=>rfl
theorem Vals.dropLast{xs:List V}{us:List am}(h:Vals xs us):Vals xs.dropLast us.dropLast:=by
 induction h with
 |nil=>exact .nil
 |cons r t ih=>
  cases t with
  |nil=>exact .nil
  |cons q t'=>exact .cons r ih
def Us{α:Type}(l:List α):l.eraseIdx (l.length-1)=l.dropLast:=by
 induction l with
 |nil=>rfl
 |cons a r ih=>
  cases r with
  |nil=>rfl
  |cons b r=>
   have e:(a::b::r).length-1=((b::r).length-1)+1:=by
    have h1:(a::b::r).length=r.length+2:=rfl
    have h2:(b::r).length=r.length+1:=rfl
    omega
   rw[e,List.eraseIdx_cons_succ,ih]
   all_goals rfl
section
variable {X:Cx}{ξ:List (Addr×Obj)}{σ:St}{H:Hp}{s:av}{l b:Addr}{xs ys zs:List V}
def Inv.lset{χ its':List am}{n:Nat}{f:Array am->Array am}{t':Nat}(I:Inv X ξ σ H s)(hH:H l=some (.lst xs))(e:s.heap.get? l=some {cls:=.type "list", data:=.seq χ.toArray n})(hf:f χ.toArray=its'.toArray)(hv:Vals ys its')(hz:ys.length<=sizeLine)(ht:s.toks<=t':=by trivial) :
  Inv X ξ σ (upd H l (.lst ys)) {s with heap:=s.heap.update l (bL f),toks:=t'}:=by
 have q:=PySem.IsL.update e f
 rw[hf] at q
 refine I.write (by rw[hH];exact trivial) (.inl rfl) (λb' u hb hu=>(Heap.get?_update_other s.heap (bL f) (cj hb)).trans hu) ⟨_,q⟩ ?_
 exact⟨hz,its',_,hv,q⟩
def Inv.lnew{χ:List am}{t':Nat}(I:Inv X ξ σ H s)(hv:Vals ys χ)(hz:ys.length<=sizeLine)(ht:s.toks<=t':=by trivial) :
  Inv X ξ σ (upd H s.heap.objs.size (.lst ys)) {s with heap:=s.heap.push {cls:=.type "list", data:=.seq χ.toArray},toks:=t'}:=
 I.laid (λ_ _ q=>ai _ q) (af _) ⟨hz,χ,0,hv,aK _ rfl⟩ ht
theorem Inv.fresh(I:Inv X ξ σ H s):H s.heap.objs.size=none:=I.hok.fresh (af _)
def Inv.lstM(I:Inv X ξ σ H s)(hH:H l=some (.lst xs)):xs.length<=sizeLine/\∃χ n,Vals xs χ/\xs.length=χ.length/\s.heap.get? l=some {cls:=.type "list", data:=.seq χ.toArray n}:=by
 obtain⟨z,χ,n,r,e⟩:=I.hok l _ hH
 exact⟨z,χ,n,r,r.length,e⟩
def an2{n:Nat}(h:n<=sizeLine):iY n=false:=by
 exact decide_eq_false (by omega)
end
section
variable {X:Cx}
def Cj:V->List V->Hp->VK->Prop:=λx vs H Q=>∃l xs y,x=.ref l/\vs=[y]/\H l=some (.lst xs)/\xs.length<sizeLine/\Q .non (upd H l (.lst (xs++[y])))
def N9:MtM X "list.append" Cj:=by
 intro ξ s σ H x vs v us Q I rx rv h
 obtain⟨l,xs,y,rfl,rfl,hH,hz,q⟩:=h
 cases rx
 obtain⟨u,rfl,ru⟩:=rv.one
 obtain⟨z,χ,n,r,hl,e⟩:=I.lstM hH
 refine j4 F.slot_list_append ⟨_,e,rfl⟩ F.entry_list_append (F.args_list_append_2 _ _) (PySem.list_append l χ.toArray n u (by rw[ay];omega)) ⟨e,?_⟩
 refine⟨.non,_,I.lset hH e (by simp) (r.append (.cons ru .nil)) ?_,rfl,q⟩
 rw[aG,bW]
 omega
def Kn:V->List V->Hp->VK->Prop:=λx vs H Q=>∃l b xs zs,x=.ref l/\vs=[.ref b]/\H l=some (.lst xs)/\H b=some (.lst zs)/\xs.length+zs.length<=sizeLine/\Q .non (upd H l (.lst (xs++zs)))
def Z7:MtM X "list.extend" Kn:=by
 intro ξ s σ H x vs v us Q I rx rv h
 obtain⟨l,b,xs,zs,rfl,rfl,hH,hB,hz,q⟩:=h
 cases rx
 obtain⟨u,rfl,ru⟩:=rv.one
 cases ru
 obtain⟨z,χ,n,r,hl,e⟩:=I.lstM hH
 obtain⟨z2,its2,n2,r2,hl2,e2⟩:=I.lstM hB
 have hsz:χ.toArray.size+its2.toArray.size<=sizeLine:=by rw[ay,ay];omega
 have hlong:¬ (!χ.toArray.isEmpty&&iY (χ.toArray.size+its2.toArray.size))=true:=by
  rw[an2 hsz,g4]
  exact aM
 refine j4 F.slot_list_extend ⟨_,e,rfl⟩ F.entry_list_extend (F.args_list_extend_2 _ _)
  (AutoSeq1.list_extend_list_list_0 l χ.toArray n b its2.toArray n2 hlong (by rw[ay];omega) (by omega)) ⟨e,e2,?_⟩
 refine⟨.non,_,I.lset hH e (by simp) (r.append r2) ?_,rfl,q⟩
 rw[aG]
 omega
def b11:V->List V->Hp->VK->Prop:=λx vs H Q=>∃l xs y,x=.ref l/\vs=[]/\H l=some (.lst xs)/\xs[xs.length-1]?=some y/\Q y (upd H l (.lst xs.dropLast))
def bg7:MtM X "list.pop" b11:=by
 intro ξ s σ H x vs v us Q I rx rv h
 obtain⟨l,xs,y,rfl,rfl,hH,hy,q⟩:=h
 cases rx
 have hus:=rv.zero
 subst hus
 obtain⟨z,χ,n,r,hl,e⟩:=I.lstM hH
 obtain⟨u,hu,ru⟩:=r.get hy
 have hy':χ.toArray[χ.toArray.size-1]?=some u:=by
  show χ.toArray[χ.length-1]?=some u
  rw[<- cA,<- hl]
  exact hu
 refine j4 F.slot_list_pop ⟨_,e,rfl⟩ F.entry_list_pop (F.args_list_pop_1 _) (MeetsSeq.list_pop_last l χ.toArray n u hy' (by rw[ay];omega)) ⟨e,?_⟩
 refine⟨y,_,I.lset hH e ?_ r.dropLast ?_,ru,q⟩
 .rw[ay,List.eraseIdxIfInBounds_toArray,Us]
 .rw[List.length_dropLast]
  omega
def aq5:V->List V->Hp->VK->Prop:=λx vs H Q=>∃l xs,x=.ref l/\vs=[]/\H l=some (.lst xs)/\Q .non (upd H l (.lst []))
def am6:MtM X "list.clear" aq5:=by
 intro ξ s σ H x vs v us Q I rx rv h
 obtain⟨l,xs,rfl,rfl,hH,q⟩:=h
 cases rx
 have hus:=rv.zero
 subst hus
 obtain⟨z,χ,n,r,hl,e⟩:=I.lstM hH
 exact j4 F.slot_list_clear ⟨_,e,rfl⟩ F.entry_list_clear (F.args_list_clear_1 _) (AutoSeq1.list_clear_list_0 l χ.toArray n (by rw[ay];omega)) ⟨e,⟨.non,_,I.lset (its':=[]) (ys:=[]) hH e rfl .nil (bw _),rfl,q⟩⟩
def b08:R2:=λx y H Q=>∃l b xs zs,x=.ref l/\y=.ref b/\H l=some (.lst xs)/\H b=some (.lst zs)/\xs.length+zs.length<=sizeLine/\∀p,H p=none->Q (.ref p) (upd H p (.lst (xs++zs)))
def op_cat:OpR X (dL .Add) b08:=by
 intro ξ s σ H x y v u Q I rx ry h
 obtain⟨l,b,xs,zs,rfl,rfl,hH,hB,hz,q⟩:=h
 cases rx
 cases ry
 obtain⟨z,χ,n,r,hl,e⟩:=I.lstM hH
 obtain⟨z2,its2,n2,r2,hl2,e2⟩:=I.lstM hB
 refine PySem.P.add_list e e2 ?_ (by rw[ay,ay];omega)
 have ea:χ.toArray++its2.toArray=(χ++its2).toArray:=by simp
 rw[ea]
 exact⟨.ref _,_,I.lnew (r.append r2) (by rw[aG];omega),rfl,q _ I.fresh⟩
end
end L2
namespace Att
open PySem PySem.W PySem.Calls PyProof.Rows
def Jw{P:Params}{h:Heap}:∀ns vs,WellAll P h vs (ns.map WData.int)->lU vs ns:=by
 intro ns
 induction ns with
 |nil=>
  intro vs w
  rw[eU] at w
  cases w
  exact .nil
 |cons n ns ih=>
  intro vs w
  rw[a7] at w
  cases w with
  |cons a b=>
   cases a
   exact .cons _ _ (ih _ b)
def ab6{l:OpenLaw}{n:Nat}(hn:l.most=some n){P:Params}{h:Heap}{args:List WData}{vals:List am}(hpre:l.row.toRowW.claim.pre args=true)(hwl:WellAll P h vals args) :
  ∃a vs ns,vals=[bC a]/\args=[WData.list (ns.map WData.int)]/\h.get? a=some {cls:=.type "list", data:=.seq vs.toArray}/\lU vs ns/\ns.length<=n:=by
 have hsh:=(pre_splitW hpre).1
 have hc:=(pre_splitW hpre).2
 obtain⟨d,r,rfl,h1,h2⟩:=hasAllW_cons hsh
 obtain rfl:=hasAllW_nil h2
 obtain⟨xs,rfl,h3⟩:=hasW_list h1
 obtain⟨ns,rfl⟩:=items_int h3
 have hlen:ns.length<=n:=by
  have h4:(WTm.not (.lt (.lit (.int (n:Int))) (.len (.arg 0)))).holds [] {args:=[.list (ns.map .int)]}=true:=by
   have h4:=(holds_andW hc).1
   rw[hn] at h4
   exact h4
  have h5:=condW_of h4 (w_not (w_lt w_lit (w_len_list (w_arg rfl))))
  rw[ae] at h5
  refine Nat.le_of_not_lt λq=>?_
  have q':(n:Int)<((ns.length:Nat):Int):=by omega
  first
   |(rw[decide_eq_true q'] at h5;exact absurd h5 (by decide))
   |(simp at h5;omega)
 cases hwl with
 |cons w1 w2=>
  cases w2
  cases w1 with
  |list ho hall=>exact⟨_,_,ns,rfl,rfl,ho,Jw ns _ hall,hlen⟩
def aa7(l:OpenLaw)(args:List WData):l.row.toRowW.claim.post args (.bool true) args=true:=
 postW_of
  (show WShape.has [] (.bool true) .bool=true by first|rfl|decide|simp[WShape.has,WShape.arms,WShape.armsAll])
  (w_eq_bool (w_res rfl) w_lit) rfl
def attach_call{l:OpenLaw}{n:Nat}{q:a_}{loose:List Str}{XP:(Str->Option am)->Heap->Prop}{YP:bB->Heap->Prop}{d:DefRec}(hn:l.most=some n)(hdf:d.params.defaults=[])(call:∀w s₀ s₁ mg mb fa o pm cd doc a vs ns,
   Ground q loose [] XP w s₀ mg mb s₁.heap->YP w s₁.heap ->
   s₁.heap.get? fa=some o->o.data=.func (docDef d.name d.params d.body d.scope pm cd doc)->s₁.heap.CodeRec cd d.name->mg d.name=some (.ref fa) ->
   s₁.heap.get? a=some {cls:=.type "list", data:=.seq vs.toArray}->lU vs ns->ns.length<=n->s₁.gens = #[] ->
   jX (model l.prog w) lX (.call (.ref fa) ⟨[.ref a],[]⟩) (λr s'=>r=.ok (.ret (.bool true))/\OldK s₁.heap s'.heap/\s'.os=s₁.os/\kH s'.gens) s₁) :
  WalkO q loose XP YP l.row.toRowW d [] (λf vs=>PySem.call f vs):=by
 intro w s₀ s₁ mg mb G Y fa o pm cd doc dV kV ho hd hcd hD hmg hg args vals as hpre hlay hrd hwl hlo
 obtain rfl:dV=.none:=Dflts.none hD hdf
 obtain rfl:kV=.none:=Dflts.noKw hD
 obtain⟨a,vs,ns,rfl,rfl,hobj,hints,hlen⟩:=ab6 hn hpre hwl
 refine enter_call (fO (call w s₀ s₁ mg mb fa o pm cd doc a vs ns G Y ho (fd_plain hd) hcd hmg hobj hints hlen hg) λr s' hq=>?_)
 obtain⟨rfl,h2,h3,h4⟩:=hq
 exact⟨.inl ⟨.bool true,.bool true,[],rfl,λ_=>rfl,.bool true,aa7 l _,λ_=>⟨List.Pairwise.nil,λ_ hm=>(nomatch hm)⟩⟩,h2,h3,h4⟩
end Att
namespace L2
open PySem PySem.Spec PyProof.Rows
theorem Oj:∀{vs} {ns},lU vs ns->Vals (ns.map V.int) vs
 |_,_,.nil=>.nil
 |_,_,.cons n t h=>.cons ⟨t,rfl⟩ (Oj h)
def As(s:Stmt)(j:Nat):Stmt:=match s with
 |.ClassDef _ _ _ body _ _ _ _ _ _ _=>body.getD j (.Pass ⟨0,0,0,0⟩)
 |_=>.Pass ⟨0,0,0,0⟩
def B6(s:Stmt):Arguments:=match s with
 |.FunctionDef _ a _ _ _ _ _ _ _ _=>a
 |_=>{posonlyargs:=[],args:=[],vararg:=none,kwonlyargs:=[],kw_defaults:=[],kwarg:=none,defaults:=[]}
def Bl(s:Stmt):List Stmt:=match s with
 |.FunctionDef _ _ b _ _ _ _ _ _ _=>b
 |_=>[]
def Aq(s:Stmt):Scope:=match s with
 |.FunctionDef _ _ _ _ _ _ sc _ _ _=>sc
 |_=>{kind:=.function,names:=[],isGenerator:=false,isCoroutine:=false}
abbrev CX0:CXT:=λ_ _ _ _ _ _=>False
structure Fun (K:ac) (x qual:Str) (st:Stmt) (f:Addr) (fd:bj):Prop where
 ex:∃(oc:am)(od:Option Addr)(kV doc pm:am)(an:Option Addr)(θ ct:am)(osl:Array (Option am)),
  fd=cC x qual (B6 st) (Bl st) (Aq st) .none kV doc pm an θ ct/\K.lookup f=some ⟨oc,od,.func fd,osl⟩/\dE K θ qual=true
 kp:bF K (.ref f)=true
section
variable {P:a_}{w:bB}{K:ac}{mg:Str->Option am}{base:Heap}
def Fun.binds{x qual:Str}{st:Stmt}{f:Addr}{fd:bj}{ps:List Str}(F:Fun K x qual st f fd)(h:∀kV doc pm an θ ct us,us.length=ps.length->h9 (cC x qual (B6 st) (Bl st) (Aq st) .none kV doc pm an θ ct) ⟨us,[]⟩=pure (ps.zip us)):Binds K fd ps []:=by
 obtain⟨oc,od,kV,doc,pm,an,θ,ct,osl,rfl,lk,hcd⟩:=F.ex
 exact .all (h kV doc pm an θ ct)
def Pf{x qual:Str}{st:Stmt}{f:Addr}{oc:am}{od an:Option Addr}{osl:Array (Option am)}{kV doc pm θ ct:am}(l:K.lookup f=some ⟨oc,od,.func (cC x qual (B6 st) (Bl st) (Aq st) .none kV doc pm an θ ct),osl⟩)(c:dE K θ qual=true)(k:bF K (.ref f)=true):Fun K x qual st f (cC x qual (B6 st) (Bl st) (Aq st) .none kV doc pm an θ ct):=⟨⟨oc,od,kV,doc,pm,an,θ,ct,osl,rfl,l,c⟩,k⟩
end
def Pj{A B:Prop}(h:B):if false=true then A else B:=by
 rw[if_neg aM]
 exact h
def U4{A B:Prop}(h:A):if true=true then A else B:=by
 rw[if_pos rfl]
 exact h
def Hh{c A B:Prop} [Decidable c](h1:c->A)(h2:¬ c->B):if c then A else B:=by
 by_cases h:c
 .rw[if_pos h]
  exact h1 h
 .rw[if_neg h]
  exact h2 h
def Same(H H':Hp):Prop:=∀b o,H b=some o->H' b=some o
def Same.refl(H:Hp):Same H H:=λ_ _ h=>h
def Same.trans{H H1 H2:Hp}(a:Same H H1)(b:Same H1 H2):Same H H2:=λc o h=>b c o (a c o h)
def Same.free{H H':Hp}(e:Same H H'){l:Addr}(h:H' l=Option.none):H l=Option.none:=by
 cases q:H l with
 |none=>rfl
 |some o=>
  rw[e l o q] at h
  cases h
def Cx.comp(X:Cx)(N':List Str)(scope:Scope)(cl:List (Str×Addr))(fp:List Addr)(C:Addr)(s:av)(H:Hp)(xe:am->av->Prop):Cx:=
 {prog:=X.prog,w:=X.w,K:=X.K,mg:=X.mg,base:=X.base,A:=X.A,N:=N',s₀:=s,H₀:=H,env:=compEnvC scope cl C X.env,outer:=X.stack,stack:=X.stack,
  ex:=fp,fn:=λx=>(cl.lookup x).isNone,calm:=X.calm,pn:=[],xe:=xe}
def Ul(srcs:List (Option Nat))(σ:St):St:=srcs.map λo=>o.bind λj=>(σ[j]?).join
structure Kr (X:Cx) (N':List Str) (srcs:List (Option Nat)) (scope:Scope) (cl:List (Str×Addr)):Prop where
 clos:j5 scope X.env=pure cl
 nocell:∀y∈scope.names,y.2≠.cell
 kind:scope.kind=.function
 names:∀y∈scope.names,y.2=.local->scope.names.lookup y.1=some .local
 sub:∀x c,cl.lookup x=some c->X.env.cells.lookup x=some c
 has:∀x,((ju scope X.env).names.lookup x=some .cell\/(ju scope X.env).names.lookup x=some .free) -> ∃c,cl.lookup x=some c
 len:srcs.length=N'.length
 src:∀(k j:Nat)(x:Str),N'[k]?=some x->srcs[k]?=some (some j)->X.N[j]?=some x/\(X.env.scope.names.lookup x=some .cell\/X.env.scope.names.lookup x=some .free) /\
  ((ju scope X.env).names.lookup x=some .cell\/(ju scope X.env).names.lookup x=some .free)
def Zg(X:Cx)(ifs:List Expr)(t:TT):Prop:=
 ∀ξ s (σ:St) (H:Hp) (Q:Bool->Hp->Prop),Inv X ξ σ H s->t σ H Q ->
  aY (model X.prog X.w) X.A (forIn ifs true λc r=>if r=true then do let ok <- isTrue c X.env (eval c X.env);pure (fC ok) else pure (fC r)) (TP X ξ σ Q) X.xe s
def cb0:TT:=λ_ H Q=>Q true H
def ao5{X:Cx}:Zg X [] cb0:=λ_ _ _ H _ I h=>wpAny_tests_nil ⟨H,I,h⟩
def ao6{X:Cx}{c:Expr}{t:TT}(h:PT X c t):Zg X [c] t:=λξ s σ H Q I q=>wpAny_tests_one (h ξ s σ H Q I q)
def au6(srcs:List (Option Nat))(wi:TI)(g:TG)(tc:TT)(te:TE):TE:=λσ H Q=>wi σ H λJ H1=>∀D,H1 D=none ->
 ∃W:Nat->Nat->St->Hp->Prop,(∃m,W 0 m (Ul srcs σ) (upd H1 D (.lst [])))/\∀i m σ' H',W i m σ' H' ->
  (J.stop i H'/\Q (.ref D) H')\/(J.go i H'/\∃N:St->Hp->Prop,(∀ σ2 H2,N σ2 H2 -> ∃m',m'<m/\W (i+1) m' σ2 H2)/\∀x H2,J.yld i H' x H2->g x σ' H2 λσ3 H3=>tc σ3 H3 λb H4=>if b=true then
    te σ3 H4 λv H5=>∃ys,H5 D=some (.lst ys)/\ys.length<sizeLine/\N σ3 (upd H5 D (.lst (ys++[v])))
   else N σ3 H4)
section
variable {prog:a_}{w:bB}{A:bv}{E:am->av->Prop}{R:Result->av->Prop}{s:av}
def Oy{elt target iter:Expr}{ifs:List Expr}{scope:Scope}{pos:Pos}{it acc:am}{env:Env}(I:Nat->av->Prop)(turn:∀n s,I n s->aY (model prog w) A (l_ it) (λr s₁=>match r with
   |none=>R (.ok .next) s₁
   |some v=>aY (model prog w) A (jZ target it v) (λ_ s₀=>aY (model prog w) A (ma target env v) (λ_ s₂=>
     aY (model prog w) A (forIn ifs true λc r=>if r=true then do let ok <- isTrue c env (eval c env);pure (fC ok) else pure (fC r)) (λok s₃=>
      if ok=true then aY (model prog w) A (eval elt env) (λx s₄=>
       aY (model prog w) A (call (.builtin "list.append") [acc,x]) (λ_ s₅=>∃m,m<n/\I m s₅) (lG (model prog w) A env λe s'=>R (.error e) s') s₄) (lG (model prog w) A env λe s'=>R (.error e) s') s₃
      else ∃m,m<n/\I m s₃) (lG (model prog w) A env λe s'=>R (.error e) s') s₂) (lG (model prog w) A env λe s'=>R (.error e) s') s₀) (lG (model prog w) A env λe s'=>R (.error e) s') s₁) (lG (model prog w) A env λe s'=>R (.error e) s') s)(n:Nat)(h:I n s) :
  jX (model prog w) A (.compLoop (.ListComp elt [⟨target,iter,ifs,0⟩] scope pos) 0 it acc env) R s:=by
 refine codeAny_loop rfl I (λn s hI=>?_) n h
 refine wpAny_noted ?_
 rw[compTurn_list]
 refine ag (fW (ag (bU (turn n s hI) (λr s₁ h₁=>?_) λ_ _ h'=>h')))
 cases r with
 |none=>exact ar h₁
 |some v=>
  refine ag (bU h₁ (λ_ s₀ h₀=>?_) λ_ _ h'=>h')
  refine ag (bU h₀ (λ_ s₂ h₂=>ag (bU h₂ (λok s₃ h₃=>?_) λ_ _ h'=>h')) λ_ _ h'=>h')
  cases ok with
  |false=>exact ar ⟨rfl,h₃⟩
  |true=>
   exact ag (ag (bU h₃ (λx s₄ h₄=>ag (bU h₄ (λ_ s₅ h₅=>ar (ar ⟨rfl,h₅⟩)) λ_ _ h'=>h')) λ_ _ h'=>h'))
end
section
variable {X:Cx}{elt tg iter:Expr}{ifs:List Expr}{scope:Scope}{pos:Pos}{N':List Str}{srcs:List (Option Nat)}{cl:List (Str×Addr)}{wi:TI}{g:TG}{tc:TT}{te:TE}
def Uo{xe:am->av->Prop}{ξ:List (Addr×Obj)}{σ:St}{H:Hp}{s:av}{fp:List Addr}{C D:Addr}{h₁:Heap}{tk:Nat}(S:Kr X N' srcs scope cl)(I:Inv X ξ σ H s)(f:∀b∈fp,Ec X ξ H b)(fo:∀b∈fp,b<s.heap.objs.size)(hD:s.heap.objs.size<=D)(hC:s.heap.objs.size<=C)(hDC:C≠D)(hns:∃m,h₁.Ns C m)(old:∀b o,s.heap.get? b=some o->h₁.get? b=some o)(hacc:∃n,h₁.get? D=some {cls:=.type "list", data:=.seq ([]:List am).toArray n})(ht:s.toks<=tk:=by trivial) :
  Inv (X.comp N' scope cl fp C s H xe) [] (Ul srcs σ) (upd H D (.lst [])) {s with heap:=h₁,toks:=tk}:=by
 have hfD:=I.hok.fresh hD
 have ok:(X.comp N' scope cl fp C s H xe).Ok:=by
  refine⟨I.ok.mod,S.kind,I.ok.glob,I.ok.blt,hC,λx y c a b=>I.ok.inj x y c (S.sub x c a) (S.sub y c b),S.has,λx c hf hl=>?_,I.ok.hd,I.ok.frames,.inl rfl,λb hb=>⟨?_,λx c hl=>?_⟩,I.bs,aT I.ok.bsz I.sz,λb o e hb=>?_,λb hb hfs=>?_,I.stack,I.stkFree,aZ⟩
  .have hl':cl.lookup x=some c:=hl
   have hf':(cl.lookup x).isNone=true:=hf
   rw[hl'] at hf'
   cases hf'
  .exact aQ (aR (fo b hb) hC)
  .exact (f b hb).2.2.2.2.1 x c (S.sub x c hl)
  .rcases (f b hb).2.2.2.1 with z|z
   .exact I.ok.noex b o e z
   .exact absurd (aR (aO e) (aT I.ok.bsz z)) (fS _)
  .rcases List.mem_cons.mp (I.stkSub b hfs) with z|z
   .exact (f b hb).2.1 z
   .exact (f b hb).2.2.1 z
 obtain⟨m0,hns⟩:=hns
 obtain⟨nn,hacc⟩:=hacc
 refine⟨ok,⟨rfl,ht⟩,I.bare,Un.laid old hD hfD,⟨m0,hns,λk x v e1 e2 e3=>?_⟩,λx c hl=>?_,?_,λx c hl=>?_,λp hp=>absurd (show p∈([]:List (Addr×Obj)) from hp) (by simp),I.hok.laid old hD ⟨bw _,[],nn,.nil,hacc⟩,?_⟩
 ·-- the captured names
  have e1:=e1
  have e2:(srcs.map λo=>o.bind λj=>(σ[j]?).join)[k]?=some (some v):=e2
  rw[ao] at e2
  cases hk:srcs[k]? with
  |none=>rw[hk] at e2;cases e2
  |some o=>
   rw[hk] at e2
   cases o with
   |none=>cases e2
   |some j=>
    have e2':(σ[j]?).join=some v:=aJ e2
    have e3':σ[j]?=some (some v):=by
     cases hj:σ[j]? with
     |none=>rw[hj] at e2';cases e2'
     |some y=>rw[hj] at e2';exact congrArg some e2'
    obtain⟨a1,a2,a3⟩:=S.src k j x e1 hk
    obtain⟨m,hn,hl⟩:=I.loc
    obtain⟨u,r,l⟩:=hl j x v a1 e3' (a2.elim (λz=>.inr (.inl z)) λz=>.inr (.inr z))
    refine⟨u,r,.inr ⟨a3,?_⟩⟩
    obtain⟨c,hc⟩:=S.has x a3
    refine⟨c,hc,?_⟩
    rcases l with⟨z,_⟩|⟨_,c',hc',o,ho,hd⟩
    .have z':X.env.scope.names.lookup x=some .local:=z
     rcases a2 with q|q <;> rw[q] at z' <;> cases z'
    .have e:=S.sub x c hc
     rw[hc'] at e
     cases e
     exact⟨o,old _ o ho,hd⟩
 .obtain⟨v,o,ho,hd⟩:=I.cell x c (S.sub x c hl)
  exact⟨v,o,old _ o ho,hd⟩
 .show upd H D (.lst []) C=none
  rw[Ad hDC]
  exact I.hok.fresh hC
 .have hx:=S.sub x c hl
  obtain⟨v,o,ho,hd⟩:=I.cell x c hx
  rw[Ad (aQ (aR (aO ho) hD))]
  exact I.freeC x c hx
 .show (Ul srcs σ).length=N'.length
  unfold Ul
  rw[ae,S.len]
def B4(X:Cx)(scope:Scope)(cl:List (Str×Addr))(use:Option (am->Sem Unit))(Q2:am->av->Prop)(D C:Addr):am->av->Prop:=
 lG (model X.prog X.w) X.A (compEnvC scope cl C X.env) λe s'=>compPost (model X.prog X.w) X.A X.xe use Q2 (.ref D) C (.error e) s'
def Nr{ξ:List (Addr×Obj)}{s:av}{σ:St}{H:Hp}{Q:VK}{use:Option (am->Sem Unit)}{Q2:am->av->Prop}(hc:X.calm=true)(S:Kr X N' srcs scope cl)(hi:PI X tg iter wi)(hb:∀fp C D s2 H2,Inv X ξ σ H2 s2->(∀b∈fp,Ec X ξ H2 b)->s2.heap.objs.size<=C->PG (X.comp N' scope cl fp C s2 H2 (B4 X scope cl use Q2 D C)) tg g/\Zg (X.comp N' scope cl fp C s2 H2 (B4 X scope cl use Q2 D C)) ifs tc/\PE (X.comp N' scope cl fp C s2 H2 (B4 X scope cl use Q2 D C)) elt te)(I:Inv X ξ σ H s)(h:au6 srcs wi g tc te σ H Q)(fin:∀(D C:Addr)(H':Hp)(s':av),Inv X ξ σ H' s'->(∃m,s'.heap.Ns C m)->Ec X ξ H' C->Q (.ref D) H'->compPost (model X.prog X.w) X.A X.xe use Q2 (.ref D) C (.ok .next) s')(hs:∀x,fT iter X.env x=pure x) :
  aY (model X.prog X.w) X.A (comprehension (.ListComp elt [⟨tg,iter,ifs,0⟩] scope pos) scope X.env (firstIterPos [⟨tg,iter,ifs,0⟩] pos) (newList []) false (eval iter X.env) use) Q2 X.xe s:=by
 refine wpAny_comprehension_free rfl hs S.clos S.kind S.names (thn (hi ξ s σ H _ I h) λv s1 h1=>thn h1 λitv s2 h2=>?_)
 obtain⟨it,fp,tn,J,H2,e,I2,T,st2,f2,q2⟩:=h2
 subst e
 refine cG (wpAny_newFunctionEnv S.nocell (by intro y hy;simp at hy) (λh₁ hns₁ hsb₁=>?_) S.kind)
 generalize hH2:s2.heap.push {cls:=.type "list", dict:=none,data:=.seq ([]:List am).toArray}=G2 at hns₁ hsb₁ ⊢
 have hCe:G2.objs.size=s2.heap.objs.size+1:=by rw[<- hH2,d6]
 have hDC:G2.objs.size≠s2.heap.objs.size:=by rw[hCe];exact eV (dB _)
 have hCle:s2.heap.objs.size<=G2.objs.size:=by rw[hCe];exact fe _
 have old:∀b o,s2.heap.get? b=some o->h₁.get? b=some o:=λb o e=>
  hsb₁.extBut b o (aQ (aR (aO e) hCle)) (ai _ (hH2▸ai _ e))
 have hacc:∃n,h₁.get? s2.heap.objs.size=some {cls:=.type "list", data:=.seq ([]:List am).toArray n}:=⟨_,hsb₁.extBut _ _ (cj hDC) (ai _ (hH2▸aK _ rfl))⟩
 have fo:∀b∈fp,b<s2.heap.objs.size:=λb hb=>by
  obtain⟨o,ho,_⟩:=T.obj _ _ st2 b hb
  exact aO ho
 have st3:=T.keep _ _ _ st2 λb _ o e=>old b o e
 obtain⟨hg,ht,he⟩:=hb fp G2.objs.size s2.heap.objs.size s2 H2 I2 f2 hCle
 obtain⟨W,⟨m0,w0⟩,turn⟩:=q2 s2.heap.objs.size (I2.hok.fresh (af _))
 have loop:∀s3:av,s3={s2 with heap:=h₁,toks:=s2.toks+([]:List (Str×am)).length} ->
   jX (model X.prog X.w) X.A (.compLoop (.ListComp elt [⟨tg,iter,ifs,0⟩] scope pos) 0 (.ref it) (.ref s2.heap.objs.size) (compEnvC scope cl G2.objs.size X.env))
    (compPost (model X.prog X.w) X.A X.xe use Q2 (.ref s2.heap.objs.size) G2.objs.size) s3:=by
  rintro s3 rfl
  have I3:Inv (X.comp N' scope cl fp G2.objs.size s2 H2 (B4 X scope cl use Q2 s2.heap.objs.size G2.objs.size)) [] (Ul srcs σ) (upd H2 s2.heap.objs.size (.lst [])) {s2 with heap:=h₁,toks:=s2.toks+([]:List (Str×am)).length}:=
   Uo S I2 f2 fo (af _) hCle hDC ⟨_,hns₁⟩ old hacc
  have stat:∀{H':Hp},(∀b∈fp,H' b=none) -> ∀b∈fp,Ec (X.comp N' scope cl fp G2.objs.size s2 H2 (B4 X scope cl use Q2 s2.heap.objs.size G2.objs.size)) [] H' b:=λhn b hb=>
   ⟨hn b hb,aQ (aR (fo b hb) hCle),(λz=>(List.mem_cons.mp (I2.stkSub b z)).elim (f2 b hb).2.1 (f2 b hb).2.2.1),.inl hb,λx c hl=>(f2 b hb).2.2.2.2.1 x c (S.sub x c hl),λp hp=>absurd (show p∈([]:List (Addr×Obj)) from hp) (by simp)⟩
  refine Oy (λn s'=>∃i σ' H',Inv (X.comp N' scope cl fp G2.objs.size s2 H2 (B4 X scope cl use Q2 s2.heap.objs.size G2.objs.size)) [] σ' H' s'/\tn i s'.heap/\(∀b∈fp,H' b=none)/\W i n σ' H') ?_ m0
   ⟨0,_,_,I3,st3,λb hb=>by rw[Ad (aQ (fo b hb))];exact(f2 b hb).1,w0⟩
  rintro n s4 ⟨i,σ4,H4,I4,st4,fr4,w4⟩
  rcases turn i n σ4 H4 w4 with⟨stop,qn⟩|⟨go,NN,hNN,step⟩
  .refine thn (T.done (X.comp N' scope cl fp G2.objs.size s2 H2 (B4 X scope cl use Q2 s2.heap.objs.size G2.objs.size)) rfl rfl rfl hc i [] s4 σ4 H4 _ I4 (stat fr4) st4 stop) λr s5 ⟨hr,I5⟩=>?_
   subst hr
   obtain⟨m5,hn5,_⟩:=I5.loc
   have I6:=I2.call' I5.os I5.base I5.hok I5.bare λb hb=>⟨(f2 b hb).2.2.2.1,(f2 b hb).2.1,(f2 b hb).2.2.2.2.1,(f2 b hb).2.2.2.2.2⟩
   exact fin _ _ H4 s5 I6 ⟨m5,hn5⟩ (I2.fpOk hCle I5.free) qn
  .refine thn (T.item (X.comp N' scope cl fp G2.objs.size s2 H2 (B4 X scope cl use Q2 s2.heap.objs.size G2.objs.size)) rfl rfl rfl hc i [] s4 σ4 H4 _ I4 (stat fr4) st4 go) λr s5 ⟨u,hr,h5⟩=>?_
   subst hr
   refine thn h5 λ_ s6 ⟨x,H6,I6,r6,y6,st6,fr6⟩=>?_
   have I6':=I6.pinned (stat fr6) (T.obj _ _ st6)
   refine thn (hg _ s6 σ4 H6 x u _ I6' r6 (step x H6 y6)) λ_ s7 ⟨σ7,H7,I7,q7⟩=>?_
   have again:∀{s9:av}{H9:Hp},Inv (X.comp N' scope cl fp G2.objs.size s2 H2 (B4 X scope cl use Q2 s2.heap.objs.size G2.objs.size)) ([]++Ix fp s6.heap) σ7 H9 s9->NN σ7 H9 ->
     ∃m,m<n/\∃i σ' H',Inv (X.comp N' scope cl fp G2.objs.size s2 H2 (B4 X scope cl use Q2 s2.heap.objs.size G2.objs.size)) [] σ' H' s9/\tn i s9.heap/\(∀b∈fp,H' b=none)/\W i m σ' H':=λ{s9 H9} I9 n9=>by
    obtain⟨m',hm,w9⟩:=hNN σ7 H9 n9
    refine⟨m',hm,i+1,σ7,H9,I9.unpinned,T.keep _ _ _ st6 λb hb o e=>(I9.pin (b,o) (aE _ (aE _ (E0 hb e)))).1,λb hb=>?_,w9⟩
    obtain⟨o,e,d⟩:=T.obj _ _ st6 b hb
    exact(I9.pin (b,o) (aE _ (aE _ (E0 hb e)))).2.1
   refine thn (ht _ s7 σ7 H7 _ I7 q7) λb s8 ⟨H8,I8,q8⟩=>?_
   cases b with
   |false=>
    rw[if_neg aM] at q8
    exact again I8 q8
   |true=>
    rw[if_pos rfl] at q8
    refine thn (he _ s8 σ7 H8 _ I8 q8) λy s9 ⟨v9,H9,I9,r9,ys,hD,hlen,w9⟩=>?_
    refine thn (N9 ([]++Ix fp s6.heap) s9 σ7 H9 (.ref s2.heap.objs.size) [v9] (.ref s2.heap.objs.size) [y] (λ_ H'=>H'=upd H9 s2.heap.objs.size (.lst (ys++[v9]))) I9 rfl (.cons r9 .nil)
     ⟨_,ys,v9,rfl,rfl,hD,hlen,rfl⟩) λ_ s10 ⟨_,H10,I10,_,e10⟩=>?_
    subst e10
    exact again I10 w9
 exact codeAny_compStart_list (loop _ rfl) (T.self X.A 0 _ _ _ st3 (loop _ rfl))
def ai3{ξ:List (Addr×Obj)}{s:av}{σ:St}{H:Hp}{Q:VK}(hc:X.calm=true)(S:Kr X N' srcs scope cl)(hi:PI X tg iter wi)(hb:∀Q2 fp C D s2 H2,Inv X ξ σ H2 s2->(∀b∈fp,Ec X ξ H2 b)->s2.heap.objs.size<=C->PG (X.comp N' scope cl fp C s2 H2 (B4 X scope cl none Q2 D C)) tg g/\Zg (X.comp N' scope cl fp C s2 H2 (B4 X scope cl none Q2 D C)) ifs tc/\PE (X.comp N' scope cl fp C s2 H2 (B4 X scope cl none Q2 D C)) elt te)(I:Inv X ξ σ H s)(h:au6 srcs wi g tc te σ H Q)(hs:∀x,fT iter X.env x=pure x) :
  aY (model X.prog X.w) X.A (eval (.ListComp elt [⟨tg,iter,ifs,0⟩] scope pos) X.env) (EP X ξ σ Q) X.xe s:=by
 rw[eval_ListComp]
 refine Nr hc S hi (λfp C D s2 H2=>hb _ fp C D s2 H2) I h (λD C H' s' I' ns fo q=>?_) hs
 obtain⟨m,hn⟩:=ns
 obtain⟨f0,f1,f2,f3,f4,f5⟩:=fo
 exact⟨m,hn,λh' sb=>⟨.ref D,H',I'.turned (λb o hb e=>(sb.2 b hb).trans e) f0 f1 f3 f4 f5,rfl,q⟩⟩
def ai2{i:Nat}{x:Str}{pos' spos:Pos}{ξ:List (Addr×Obj)}{s:av}{σ:St}{H:Hp}{D:Rf}(hc:X.calm=true)(hN:X.N.Nodup)(hx:X.N[i]?=some x)(hl:X.env.scope.names.lookup x=some .local)(S:Kr X N' srcs scope cl)(hi:PI X tg iter wi)(hb:∀us Q2 fp C D s2 H2,Inv X ξ σ H2 s2->(∀b∈fp,Ec X ξ H2 b)->s2.heap.objs.size<=C->PG (X.comp N' scope cl fp C s2 H2 (B4 X scope cl us Q2 D C)) tg g/\Zg (X.comp N' scope cl fp C s2 H2 (B4 X scope cl us Q2 D C)) ifs tc/\PE (X.comp N' scope cl fp C s2 H2 (B4 X scope cl us Q2 D C)) elt te)(I:Inv X ξ σ H s)(h:br5 (au6 srcs wi g tc te) (aj7 i) D σ H)(hsw:jb (.ListComp elt [⟨tg,iter,ifs,0⟩] scope pos) (some (.Name x pos')) spos.line X.env=pure true)(hs:∀x,fT iter X.env x=pure x) :
  aY (model X.prog X.w) X.A (exec (.Assign [.Name x pos'] (.ListComp elt [⟨tg,iter,ifs,0⟩] scope pos) spos) X.env) (SP X ξ D) X.xe s:=by
 rw[exec_Assign_Name_used _ _ _ _ hsw]
 refine ag (fW (ag ?_))
 refine ag (thn (Nr (Q2:=λ_ s'=>SP X ξ D .next s') hc S hi (λfp C D s2 H2=>hb _ _ fp C D s2 H2) I h (λL C H' s' I' ns fo q=>?_) hs) λ_ s' hq=>ar (ar hq))
 obtain⟨m,hn⟩:=ns
 obtain⟨f0,f1,f2,f3,f4,f5⟩:=fo
 obtain⟨oC,es,ep,hoC,hd,hr⟩:=hn
 have I2:Inv X (ξ++[(C,oC)]) σ H' s':=I'.pins_of λp hp=>(List.mem_append.mp hp).elim (λz=>I'.pin p (aE _ z)) λz=>by
  have z':p=(C,oC):=by simpa using z
  subst z'
  exact⟨hoC,f0,f1,f2,λv e=>by rw[hd] at e;cases e⟩
 refine wpAny_assign_Name (Ly (v:=.ref L) I2 hN hx (.inl hl) rfl (λs2 I3=>?_) (.inr hl))
 have hoC':=(I3.pin (C,oC) (aE _ (aE _ (by simp)))).1
 exact⟨m,⟨oC,es,ep,hoC',hd,hr⟩,λh' sb=>⟨_,H',(I3.unpinned).turned (t':=s2.toks) (λb o hb e=>(sb.2 b hb).trans e) f0 f1 f3 f4 f5,q⟩⟩
end
def Its(x:Str):It:=⟨λi _=>i<x.cps.size,λi H v H'=>H'=H/\∃c,x.cps[i]?=some c/\v=.str ⟨#[c]⟩,λi _=>i=x.cps.size⟩
def av1{P:a_}{w:bB}{K:ac}{tg:Expr}(it:Addr)(x:Str)(t:Tok)(ty:String)(hty:ty="str_ascii_iterator" \/ ty="str_iterator") :
  Kv P w K tg (Its x) [it] it (λi h=>h.IsStrIter it ty x t i) where
 mem:=by simp
 obj:=λi h st b hb=>by
  have e:b=it:=by simpa using hb
  subst e
  obtain⟨o,e,c,d⟩:=st
  exact⟨o,e,λv z=>by rw[d] at z;cases z⟩
 keep:=λi h h' st k=>by
  obtain⟨o,e,r⟩:=st
  exact⟨o,k it (by simp) o e,r⟩
 item:=by
  intro X hP hw hK hc i ξ s σ H E I hf st hg
  subst hP hw hK
  obtain⟨f0,f1,f2,f3,f4,f5⟩:=hf it (by simp)
  have W:mz X.prog X.w X.A it [it] [it] x.cps.size (SignAt x) (λi h=>h.IsStrIter it ty x t i):=by
   rcases hty with rfl|rfl
   .exact Walks.strAscii (I.ok.hd hc) it x t
   .exact Walks.strWide (I.ok.hd hc) it x t
  refine bA (af _) (W.item i s _ _ hg st λv h' tk hv st' kk htk=>?_)
  obtain⟨c,u,hcp,rfl⟩:=hv
  have I1:Inv X ξ σ H {s with heap:=h',toks:=tk}:=I.turned (λb o hb e=>kk b o (by simpa using hb) e) f0 f1 f3 f4 f5
  obtain⟨o,e,cc,d⟩:=id st'
  exact⟨_,rfl,La e cc d (by rcases hty with rfl|rfl <;> decide) ⟨.str ⟨#[c]⟩,H,I1,⟨_,rfl⟩,⟨rfl,c,hcp,rfl⟩,st',λb hb=>(hf b hb).1⟩⟩
 done:=by
  intro X hP hw hK hc i ξ s σ H E I hf st hg
  subst hP hw hK
  obtain⟨f0,f1,f2,f3,f4,f5⟩:=hf it (by simp)
  have hg:=hg
  subst hg
  have W:mz X.prog X.w X.A it [it] [it] x.cps.size (SignAt x) (λi h=>h.IsStrIter it ty x t i):=by
   rcases hty with rfl|rfl
   .exact Walks.strAscii (I.ok.hd hc) it x t
   .exact Walks.strWide (I.ok.hd hc) it x t
  exact bA (af _) (W.done s _ _ st λh' tk kk htk=>⟨rfl,I.turned (λb o hb e=>kk b o (by simpa using hb) e) f0 f1 f3 f4 f5⟩)
 self:=by
  intro A i s Q E st h
  rcases hty with rfl|rfl
  .exact wpAny_pyIter_striter_ascii st h
  .exact wpAny_pyIter_striter_wide st h
section
variable {X:Cx}{ξ:List (Addr×Obj)}{σ:St}{H:Hp}{s:av}{h':Heap}{ch:List Addr}{t':Nat}
def Inv.turnedL(I:Inv X ξ σ H s)(hf:∀b∈ch,Ec X ξ H b)(k:∀b o,b∉ch->s.heap.get? b=some o->h'.get? b=some o)(ht:s.toks<=t':=by trivial):Inv X ξ σ H {s with heap:=h',toks:=t'}:=by
 have tr:∀b ob,H b=some ob->b∉ch:=λb ob e hb=>by rw[(hf b hb).1] at e;cases e
 refine I.step (λb hb=>⟨(hf b hb).2.2.2.1,(hf b hb).2.1,(hf b hb).2.2.2.2.1,(hf b hb).2.2.2.2.2⟩) (λb o _ _ hb e _=>k b o hb e) (λb o _ _ hb e _=>⟨o.slots,k b o hb e⟩) (λ_ _ _ _ n=>n) (λb o hb e=>⟨o,k b o hb e⟩)
  (λ_ _ e=>e) (λ_ _ _ e=>e) (λb ps e=>⟨#[],by rw[e];simp⟩) (λm hm=>?_) (λb ob e=>?_) I.bare
 .obtain⟨o,es,ep,ho,r⟩:=hm
  exact⟨o,es,ep,k _ o (λz=>(hf _ z).2.1 rfl) ho,r⟩
 .refine (I.hok b ob e).stay (λb' w' hc' q=>k b' w' ?_ q) (λ_ q=>q) λ_ _ q=>q
  rcases hc' with rfl|hc'
  .exact tr _ _ e
  .exact tr _ _ hc'
def Inv.turnedN{T:Addr}{o:HO}(I:Inv X ξ σ H s)(hf:∀b∈ch,Ec X ξ H b)(k:∀b o,b∉ch->s.heap.get? b=some o->h'.get? b=some o)(hT:s.heap.objs.size<=T)(new:ObjOk X.prog X.w (upd H T o) h' T o)(ht:s.toks<=t':=by trivial) :
  Inv X ξ σ (upd H T o) {s with heap:=h',toks:=t'}:=by
 have tr:∀b ob,H b=some ob->b∉ch:=λb ob e hb=>by rw[(hf b hb).1] at e;cases e
 have hn:=I.hok.fresh hT
 have nT:∀{b o},s.heap.get? b=some o->b≠T:=λe=>aQ (aR (aO e) hT)
 refine I.step (λb hb=>⟨(hf b hb).2.2.2.1,(hf b hb).2.1,(hf b hb).2.2.2.2.1,(hf b hb).2.2.2.2.2⟩) (λb o _ _ hb e _=>k b o hb e) (λb o _ _ hb e _=>⟨o.slots,k b o hb e⟩) (λb o _ e n=>by rw[Ad (nT e)];exact n) (λb o hb e=>⟨o,k b o hb e⟩)
  (λb zs e=>by rw[Ad (Ai e hn)];exact e) (λb o zs e=>by rw[Ad (Ai e hn)];exact e) (λb ps e=>⟨#[],by rw[Ad (Ai e hn),e];simp⟩) (λm hm=>?_) (λb ob e=>?_) I.bare
 .obtain⟨o,es,ep,ho,r⟩:=hm
  exact⟨o,es,ep,k _ o (λz=>(hf _ z).2.1 rfl) ho,r⟩
 .by_cases hb:b=T
  .subst hb
   rw[Aa] at e
   cases e
   exact new
  .rw[Ad hb] at e
   refine(I.hok b ob e).stay (λb' w' hc' q=>k b' w' ?_ q) (λb' q=>by rw[Ad (Ai q hn)];exact q) λb' zs q=>by rw[Ad (Ai q hn)];exact q
   rcases hc' with rfl|hc'
   .exact tr _ _ e
   .exact tr _ _ hc'
end
def ab2{bs:List Bool}:(aV bs.length).all (λi=>bs.getD i true)=bs.all λb=>b:=by
 rw[bK,bh,bh]
 constructor
 .intro h b hb
  obtain⟨i,hi,e⟩:=List.mem_iff_getElem.mp hb
  have q:=h i (List.mem_range.mpr hi)
  rw[az,ak hi,e] at q
  exact q
 .intro h i hi
  have hi:=List.mem_range.mp hi
  rw[az,ak hi]
  exact h _ (cS hi)
section
variable {X:Cx}
def ah5(hc:X.calm=true):Cf X (.builtin "all") (λxs H Q=>∃(p:Addr)(bs:List Bool),xs=[.ref p]/\SqL X.K H p (bs.map V.bl)/\Q (.bl (bs.all λb=>b)) H):=by
 intro ξ s σ H xs us Q I r h
 obtain⟨p,bs,rfl,hq,q⟩:=h
 obtain⟨u,rfl,ru⟩:=r.one
 cases ru
 obtain⟨χ,rv,pl,hz⟩:=I.list hq
 have hlen:=rv.length
 rw[ae] at hlen
 obtain⟨o,n,e,c,hd,ds⟩:=id pl
 have plt:=aO e
 refine bA (af _) (call_all_walk (jd pl.isList ?_))
 refine⟨s.heap.objs.size,_,_,_,_,_,(λi=>bs.getD i true),rfl,Walks.list (show X.A.in1.handled=none from I.ok.hd hc) s.heap.objs.size p (aQ plt) χ.toArray,⟨⟨_,aK _ rfl,rfl,rfl⟩,pl.isList.push _⟩,?_,λh' tk kk htk=>?_⟩
 .intro i v s' Q' E' hv hq'
  have hv:χ[i]?=some v:=by simpa using hv
  have hi:i<bs.length:=by rw[hlen];exact(List.getElem?_eq_some_iff.mp hv).1
  have e1:(bs.map V.bl)[i]?=some (.bl bs[i]):=by simp[hi]
  obtain⟨u',hu',ru'⟩:=rv.get e1
  rw[hv] at hu'
  cases hu'
  cases ru'
  have e2:bs.getD i true=bs[i]:=by simp[az,hi]
  have hq':Q' (bs.getD i true) s':=hq'
  rw[e2] at hq'
  exact c9 hq'
 .have e3:(aV χ.toArray.size).all (λi=>bs.getD i true)=bs.all λb=>b:=by
   rw[ay,<- hlen]
   exact ab2
  rw[e3]
  refine⟨.bl _,H,I.kept λb o' eb=>kk b o' ?_ (ai _ eb),rfl,q⟩
  have hb:=aQ (aO eb)
  simpa using hb
def aa3:OpR X (cy .LtE) (λx y H Q=>∃i j,x=.str i/\y=.str j/\Q (.bl (!decide (j.cps.toList<i.cps.toList))) H):=by
 intro ξ s σ H x y v u Q I rx ry h
 obtain⟨i,j,rfl,rfl,q⟩:=h
 obtain⟨t,rfl⟩:=rx
 obtain⟨t',rfl⟩:=ry
 exact PySem.P.le_str ⟨.bl _,H,I,rfl,q⟩
def a06:MtR X "int.bit_length" (λx xs H Q=>∃i,x=.int i/\xs=[]/\Q (.int (ib i:Nat)) H):=by
 intro ξ s σ H x xs v us Q I rx rs h
 obtain⟨i,rfl,rfl,q⟩:=h
 obtain⟨t,rfl⟩:=rx
 cases rs
 exact call_gives F.slot_int_bit_length (typeIs_int s i t) F.entry_int_bit_length (F.args_int_bit_length_1 _) (AutoIntG2.int_bit_length_int_0 i t) ⟨.int _,H,I.tok _,⟨_,rfl⟩,q⟩
end
def Pe(xs ys:List V):Bool:=decide (xs.length=ys.length)&&(aV xs.length).all λj=>eqV (xs.getD j .non) (ys.getD j .non)
def Dy{xs ys:List V}(h:xs.length≠ys.length):Pe xs ys=false:=by
 unfold Pe
 rw[decide_eq_false h]
 rfl
def br1(K:ac)(neg:Bool):R2:=λx y H Q=>∃a b xs ys,x=.ref a/\y=.ref b/\SqL K H a xs/\SqL K H b ys/\xs.all B7=true/\ys.all B7=true/\Q (.bl (if neg then !Pe xs ys else Pe xs ys)) H
section
variable {X:Cx}
def Lf{A:bv}{s:av}{xs ys:List V}{us ws:List am}(rx:Vals xs us)(ry:Vals ys ws)(fx:xs.all B7=true)(fy:ys.all B7=true)(j:Nat)(h1:j<us.toArray.size)(h2:j<ws.toArray.size) :
  bx A s us.toArray[j] ws.toArray[j] (eqV (xs.getD j .non) (ys.getD j .non)):=by
 have e1:=rx.length
 have e2:=ry.length
 have h1':j<us.length:=by simpa using h1
 have h2':j<ws.length:=by simpa using h2
 have a1:xs[j]?=some (xs[j]'(by omega)):=by simp
 have a2:ys[j]?=some (ys[j]'(by omega)):=by simp
 obtain⟨u,hu,ru⟩:=rx.get a1
 obtain⟨v,hv,rv⟩:=ry.get a2
 have b1:us.toArray[j]=u:=by
  have:us[j]?=some us[j]:=by simp
  rw[this] at hu
  simpa using aJ hu
 have b2:ws.toArray[j]=v:=by
  have:ws[j]?=some ws[j]:=by simp
  rw[this] at hv
  simpa using aJ hv
 have c1:xs.getD j .non=xs[j]'(by omega):=by rw[az,a1];rfl
 have c2:ys.getD j .non=ys[j]'(by omega):=by rw[az,a2];rfl
 rw[b1,b2,c1,c2]
 exact Pd ru rv (List.all_eq_true.mp fx _ (cS _)) (List.all_eq_true.mp fy _ (cS _))
def bl9(hu:X.A.units<cLine):OpR X (cy .Eq) (br1 X.K false):=by
 intro ξ s σ H x y v u Q I rx ry h
 obtain⟨a,b,xs,ys,rfl,rfl,qa,qb,fx,fy,q⟩:=h
 cases rx
 cases ry
 obtain⟨χ,r,pl,hz⟩:=I.list qa
 obtain⟨its2,r2,pl2,hz2⟩:=I.list qb
 have e1:=r.length
 have e2:=r2.length
 by_cases hl:xs.length=ys.length
 .refine SeqAt.eq_listAt pl.isList pl2.isList (by simp;omega) hu (λj h1 h2=>Lf r r2 fx fy j h1 h2) ⟨.bl _,H,I,rfl,?_⟩
  have e:Pe xs ys=(aV χ.toArray.size).all λj=>eqV (xs.getD j .non) (ys.getD j .non):=by
   unfold Pe
   rw[decide_eq_true hl,ay,<- e1]
   rfl
  rw[<- e]
  exact q
 .refine SeqAt.eq_list_lengthsAt pl.isList pl2.isList (by simp;omega) hu ⟨.bl _,H,I,rfl,?_⟩
  rw[Dy hl] at q
  exact q
def bm5(hu:X.A.units<cLine):OpR X (cy .NotEq) (br1 X.K true):=by
 intro ξ s σ H x y v u Q I rx ry h
 obtain⟨a,b,xs,ys,rfl,rfl,qa,qb,fx,fy,q⟩:=h
 cases rx
 cases ry
 obtain⟨χ,r,pl,hz⟩:=I.list qa
 obtain⟨its2,r2,pl2,hz2⟩:=I.list qb
 have e1:=r.length
 have e2:=r2.length
 by_cases hl:xs.length=ys.length
 .refine SeqAt.RcNeAt.lists pl.isList pl2.isList (by simp;omega) hu (λj h1 h2=>Lf r r2 fx fy j h1 h2) _ _ _ _ ⟨.bl _,H,I,rfl,?_⟩
  have e:Pe xs ys=(aV χ.toArray.size).all λj=>eqV (xs.getD j .non) (ys.getD j .non):=by
   unfold Pe
   rw[decide_eq_true hl,ay,<- e1]
   rfl
  rw[<- e]
  exact q
 .refine iE pl.isList pl2.isList (by simp;omega) hu _ _ _ _ ⟨.bl _,H,I,rfl,?_⟩
  rw[Dy hl] at q
  exact q
end
def al5{cl:List (Str×Addr)}{x:Str}(h:x∈cl.map (·.1)):∃c,cl.lookup x=some c:=by
 induction cl with
 |nil=>simp at h
 |cons p r ih=>
  obtain⟨n,a⟩:=p
  rw[cU]
  cases e:x==n with
  |true=>exact⟨a,rfl⟩
  |false=>
   refine ih ?_
   rcases List.mem_cons.mp h with q|q
   .rw[q] at e;simp at e
   .exact q
section
variable {X:Cx}{e:Expr}{te:TE}{lo hi:Option Expr}{tl th:TO}{pos p2:Pos}
def Wr{ys:List Str}:∀{us},Vals (ys.map V.str) us->StrsAre us ys:=by
 induction ys with
 |nil=>intro us r;rw[eU] at r;cases r;exact .nil
 |cons y ys ih=>
  intro us r
  rw[a7] at r
  cases r with
  |cons r1 r2=>
   obtain⟨t,e⟩:=r1
   subst e
   exact .cons y t (ih r2)
def a08:MtR X "str.join" (λx xs H Q=>∃z p ys,x=.str z/\xs=[.ref p]/\SqL X.K H p (ys.map V.str)/\(ys.map (·.length)).sum+ys.length*z.length<=16777216/\Q (.str (Txt.join z ys)) H):=by
 intro ξ s σ H x xs v us Q I rx rs h
 obtain⟨z,p,ys,rfl,rfl,hq,hz,q⟩:=h
 obtain⟨t,rfl⟩:=rx
 obtain⟨u,rfl,ru⟩:=rs.one
 cases ru
 obtain⟨χ,rv,pl,_⟩:=I.list hq
 exact bA (af _) (PyProof.Rows.join_list pl.isList (Wr rv) hz λt' k htk=>⟨.str _,H,I.tok k htk,⟨_,rfl⟩,q⟩)
end
section
variable {κ:Type} [DecidableEq κ]
def Bg(kvs:List (κ×V))(k:κ):Option V:=(kvs.find? λkv=>decide (kv.1=k)).map (·.2)
def Bt(kvs:List (κ×V))(k:κ)(v:V):List (κ×V):=
 if(kvs.any λkv=>decide (kv.1=k))=true then kvs.map (λkv=>if kv.1=k then(kv.1,v) else kv) else kvs++[(k,v)]
def B1{p:κ×V}{r:List (κ×V)}{k:κ}(e:p.1=k):Bg (p::r) k=some p.2:=by simp[Bg,fE,e]
def Bx{p:κ×V}{r:List (κ×V)}{k:κ}(e:¬ p.1=k):Bg (p::r) k=Bg r k:=by simp[Bg,fE,e]
theorem Ie(k:κ):∀kvs,(kvs.any λkv=>decide (kv.1=k))=(Bg kvs k).isSome
 |[]=>rfl
 | p::r=>by
  rw[fP]
  by_cases e:p.1=k
  .simp only[B1 e,decide_eq_true e,Bool.true_or,Option.isSome_some]
  .rw[Bx e,decide_eq_false e,jf];exact Ie k r
theorem Ty(k j:κ)(y:V):∀kvs,Bg (kvs.map λkv=>if kv.1=k then(kv.1,y) else kv) j=(Bg kvs j).map λx=>if j=k then y else x
 |[]=>rfl
 | p::r=>by
  have ih:=Ty k j y r
  rw[a7]
  by_cases h:p.1=k
  .rw[if_pos h]
   by_cases e:p.1=j
   .rw[B1 (p:=(p.1,y)) e,B1 e,cB,if_pos (e.symm.trans h)]
   .rw[Bx (p:=(p.1,y)) e,Bx e,ih]
  .rw[if_neg h]
   by_cases e:p.1=j
   .rw[B1 e,B1 e,cB,if_neg (λz=>h (e.trans z))]
   .rw[Bx e,Bx e,ih]
theorem Oi(k j:κ)(y:V):∀kvs,Bg kvs k=none->Bg (kvs++[(k,y)]) j=if j=k then some y else Bg kvs j
 | [],_=>by
  by_cases e:k=j
  .rw[if_pos e.symm];exact B1 e
  .rw[if_neg (λz=>e z.symm)];exact Bx e
 | p::r,hn=>by
  rw[List.cons_append]
  have hk:¬ p.1=k:=λz=>by rw[B1 z] at hn;cases hn
  rw[Bx hk] at hn
  have ih:=Oi k j y r hn
  by_cases e:p.1=j
  .rw[B1 e,B1 e,if_neg (λz=>hk (e.trans z))]
  .rw[Bx e,Bx e,ih]
def F2(kvs:List (κ×V))(k j:κ)(y:V):Bg (Bt kvs k y) j=if j=k then some y else Bg kvs j:=by
 unfold Bt
 by_cases a:(kvs.any λkv=>decide (kv.1=k))=true
 .rw[if_pos a,Ty]
  rw[Ie] at a
  by_cases e:j=k
  .obtain⟨x,hx⟩:=Option.isSome_iff_exists.mp a
   rw[if_pos e,e,hx,cB,if_pos rfl]
  .rw[if_neg e]
   cases Bg kvs j with
   |none=>rfl
   |some x=>rw[cB,if_neg e]
 .rw[if_neg a]
  refine Oi k j y kvs ?_
  rw[Ie] at a
  cases q:Bg kvs k with
  |none=>rfl
  |some x=>rw[q] at a;exact(a rfl).elim
def De(kvs:List (κ×V))(k:κ)(v:V):(Bt kvs k v).length<=kvs.length+1:=by
 unfold Bt
 split
 .rw[ae];omega
 .rw[aG,aP,List.length_nil];omega
def Er{kvs:List (κ×V)}{k:κ}(v:V)(h:Bg kvs k=none):Bt kvs k v=kvs++[(k,v)]:=by
 unfold Bt
 rw[Ie,h]
 exact if_neg (by decide)
def RelO.isSome_eq{o:Option V}{u:Option am}(r:RelO o u):o.isSome=u.isSome:=by
 cases o with
 | none=>cases u with
  |none=>rfl
  |some _=>exact(r).elim
 | some _=>cases u with
  |none=>exact(r).elim
  |some _=>rfl
theorem RelO.getD{o:Option V}{u:Option am}{d:V}{d':am}(r:RelO o u)(rd:RelV d d'):RelV (o.getD d) (u.getD d'):=by
 cases o with
 | none=>cases u with
  |none=>exact rd
  |some _=>exact(r).elim
 | some _=>cases u with
  |none=>exact(r).elim
  |some _=>exact r
def KV.val{kvs:List (κ×V)}{vs:List (κ×am)}(r:KV kvs vs)(k:κ):RelO (Bg kvs k) (ix vs k):=by
 induction r with
 |nil=>exact aZ
 |@cons p q ps qs h t ih=>
  obtain⟨h1,h2⟩:=h
  by_cases e:p.1=k
  .have e':=h1.symm.trans e
   have b:ix (q::qs) k=some q.2:=by simp[ix,fE,e']
   rw[B1 e,b];exact h2
  .have e':¬ q.1=k:=λz=>e (h1.trans z)
   have b:ix (q::qs) k=ix qs k:=by simp[ix,fE,e']
   rw[Bx e,b];exact ih
theorem KV.any{kvs:List (κ×V)}{vs:List (κ×am)}(r:KV kvs vs)(k:κ):(kvs.any λkv=>decide (kv.1=k))=vs.any λkv=>decide (kv.1=k):=by
 induction r with
 |nil=>rfl
 |cons h t ih=>rw[fP,fP,ih,h.1]
def KV.repl{kvs:List (κ×V)}{vs:List (κ×am)}(r:KV kvs vs)(k:κ){y:V}{u:am}(ry:RelV y u) :
  KV (kvs.map λkv=>if kv.1=k then(kv.1,y) else kv) (vs.map λkv=>if kv.1=k then(kv.1,u) else kv):=by
 induction r with
 |nil=>exact .nil
 |@cons p q ps qs h t ih=>
  rw[a7,a7]
  refine .cons ?_ ih
  obtain⟨h1,h2⟩:=h
  by_cases e:p.1=k
  .rw[if_pos e,if_pos (h1.symm.trans e)];exact⟨h1,ry⟩
  .rw[if_neg e,if_neg (λz=>e (h1.trans z))];exact⟨h1,h2⟩
def KV.put{kvs:List (κ×V)}{vs:List (κ×am)}(r:KV kvs vs)(k:κ){y:V}{u:am}(ry:RelV y u):KV (Bt kvs k y) (stored vs k u):=by
 unfold Bt stored
 rw[r.any k]
 by_cases e:(vs.any λkv=>decide (kv.1=k))=true
 .rw[if_pos e,if_pos e];exact r.repl k ry
 .rw[if_neg e,if_neg e];exact Paired.snoc r ⟨rfl,ry⟩
def KV.keys{kvs:List (κ×V)}{vs:List (κ×am)}(r:KV kvs vs):kvs.map (·.1)=vs.map (·.1):=by
 induction r with
 |nil=>rfl
 |cons h t ih=>rw[a7,a7,ih,h.1]
theorem KV.length{kvs:List (κ×V)}{vs:List (κ×am)}(r:KV kvs vs):kvs.length=vs.length:=gH r
end
def Hj{P:a_}{w:bB}{k:Key}{u:am}(r:RelV (kV k) u):(Bd P w).is k u=true:=by
 cases k with
 |inl i=>obtain⟨t,e⟩:=(r);subst e;exact Si P w i t
 |inr x=>obtain⟨t,e⟩:=(r);subst e;exact Sj P w x t
section
variable {P:a_}{w:bB}{H:Hp}{h:Heap}{a:Addr}
def ba0{u:HO}(ok:HOk P w H h)(e:Rd H a u):ObjOk P w H h a u:=e.ok ok
def Cm{kvs:List (Key×V)}(ok:HOk P w H h)(e:Rd H a (.dK kvs)):kvs.length<=sizeLine/\(a==c8)=false/\∃vs,KV kvs vs/\h.DictOf (Bd P w) a vs:=
 ba0 ok e
def aj0{kvs:List (Key×V)}(ok:HOk P w H h)(e:H a=some (.dK kvs)):kvs.length<=sizeLine/\(a==c8)=false/\∃vs,KV kvs vs/\h.DictOf (Bd P w) a vs:=Cm ok (.inl e)
def Ju(ok:HOk P w H h)(x:TK):∀{v} {u},TkAt H x v->RelV v u->TkIs P w h x u:=by
 refine TK.rec (motive_1:=λx=>∀{v} {u},TkAt H x v->RelV v u->TkIs P w h x u) (motive_2:=λl=>∀{vs} {us},Au H l vs->Vals vs us->TksAre P w h l us) ?_ ?_ ?_ ?_ x
 .intro k v u q r
  subst q
  exact Hj r
 .intro l ih v u q r
  obtain⟨a,xs,rfl,e,i⟩:=q
  cases r
  obtain⟨_,χ,r,t⟩:=(ok a _ e)
  exact⟨a,χ.toArray,rfl,t,by simpa using ih i r⟩
 .intro vs us q r
  subst q
  cases r
  rfl
 .intro x l h1 h2 vs us q r
  obtain⟨v,r',rfl,q1,q2⟩:=q
  cases r with
  |cons r1 r2=>exact⟨_,_,rfl,h1 q1 r1,h2 q2 r2⟩
end
section
variable {P:a_}{w:bB}{A:bv}{E:am->av->Prop}{s:av}{d:Addr}{o:Obj}{es:Array d9}{ep:Nat}{ks:List TK}{k:TK}{u:am}
def Om{M:Model}{α:Type}{c:Prop} [Decidable c]{x y:Sem α}{Q:α->av->Prop}(h1:c->aY M A x Q E s)(h2:¬ c->aY M A y Q E s):aY M A (if c then x else y) Q E s:=by
 split
 .exact h1 (by assumption)
 .exact h2 (by assumption)
def au7{Q:Bool->av->Prop}{st:List am}(dk:Ap k<=8)(hk:TkIs P w s.heap k u)(hs:∀v∈st,∃x,Ap x<=8/\TkIs P w s.heap x v)(h:Q false s):aY (model P w) A (tableMayTell u st) Q E s:=by
 unfold tableMayTell
 split
 .exact ar h
 refine ag (Tv k dk hk ?_)
 rw[if_neg (by decide)]
 refine ag (gg _ (λl r s'=>s'=s/\r=(none,())/\∀v∈l,v∈st) _ ?_ ?_ _ _ ⟨rfl,rfl,λ_ h=>h⟩)
 .rintro v l r s' ⟨rfl,rfl,hl⟩
  obtain⟨x,dx,hx⟩:=hs v (hl v aD)
  refine ag (Tv x dx hx ?_)
  rw[if_neg (by decide)]
  exact ar ⟨rfl,rfl,λz hz=>hl z (aA _ hz)⟩
 .rintro r s' ⟨rfl,rfl,_⟩
  exact ar h
def a65{Q:Option Nat->av->Prop}(hu:A.units+8<cLine)(dk:Ap k<=8)(hk:TkIs P w s.heap k u)(ho:s.heap.get? d=some o)(hd:o.data=.dict es ep)(hz:es.size=ks.length)(nd:ks.Nodup)(he:∀(j:Nat)(e:d9),es[j]?=some e -> ∃x,ks[j]?=some x/\Ap x<=8/\TkIs P w s.heap x e.key/\e.hash=Br w x)(h0:k∉ks->Q none s)(h1:∀j,ks[j]?=some k->Q (some j) s):aY (model P w) A (dictFind d u (Br w k)) Q E s:=by
 have hp:∀j,ks[j]?=some k->j∈iT es.size (λi=>es[i]?.map (·.hash)) (Br w k):=λj hj=>by
  have hl:j<es.size:=hz▸(List.getElem?_eq_some_iff.mp hj).1
  obtain⟨x,e1,_,_,e2⟩:=he j _ (ba hl)
  rw[hj] at e1
  cases e1
  exact List.mem_filter.mpr ⟨List.mem_range.mpr hl,by show(lE _ es[j]? == _)=true;rw[ba hl,cB,e2];exact beq_self_eq_true _⟩
 have hq:∀j∈iT es.size (λi=>es[i]?.map (·.hash)) (Br w k),∃e x,es[j]?=some e/\ks[j]?=some x/\Ap x<=8/\TkIs P w s.heap x e.key/\e.hash=Br w k:=λj hj=>by
  obtain⟨hl,hh⟩:=List.mem_filter.mp hj
  have hl:=List.mem_range.mp hl
  obtain⟨x,e1,e2,e3,_⟩:=he j _ (ba hl)
  have hh:(lE (·.hash) es[j]? == some (Br w k))=true:=hh
  rw[ba hl,cB,beq_iff_eq] at hh
  exact⟨_,x,ba hl,e1,e2,e3,aJ hh⟩
 have np:(iT es.size (λi=>es[i]?.map (·.hash)) (Br w k)).Nodup:=List.nodup_range.filter _
 have hn:∀(e:d9)(x:TK),e.hash=Br w k->(e.hash==Br w k)=true:=λe x h=>by rw[h];exact beq_self_eq_true _
 unfold dictFind
 try with_reducible refine bz ?_
 refine ag (eK ho hd ?_)
 dsimp only
 generalize iT es.size (λi=>es[i]?.map (·.hash)) (Br w k)=pl at hp hq np ⊢
 have none_:(∀j∈pl,ks[j]? ≠ some k)->Q none s:=λq=>h0 λhm=>by
  obtain⟨j,hj⟩:=List.mem_iff_getElem?.mp hm
  exact q j (hp j hj) hj
 have walk:aY (model P w) A (dictWalkPlain d u (Br w k) es pl) Q E s:=by
  refine ag (gg _ (λl b s'=>s'=s/\b=(none,())/\∃dn,pl=dn++l/\∀j∈dn,ks[j]? ≠ some k) _ ?_ ?_ _ _ ⟨rfl,rfl,[],rfl,λ_ h=>by cases h⟩)
  .rintro i l b s' ⟨rfl,rfl,dn,el,no⟩
   obtain⟨e,x,e1,e2,e3,e4,e5⟩:=hq i (by rw[el];exact aE _ aD)
   rw[e1]
   dsimp only
   rw[if_pos (hn e x e5)]
   refine ag (cR ho hd (ag (Y5 x (by omega) e4 hk _ _ _ _ (ag (cR ho hd ?_)))))
   rw[if_neg (by simp)]
   by_cases hx:x=k
   .rw[decide_eq_true hx]
    exact ag (gv (ar (ar (h1 i (hx▸e2)))))
   .rw[decide_eq_false hx]
    exact ag (gv (ar ⟨rfl,rfl,dn++[i],by rw[el,cE];rfl,λj hj=>(List.mem_append.mp hj).elim (no j) λh=>by rw[List.mem_singleton.mp h,e2];exact λz=>hx (aJ z)⟩))
  .rintro b s' ⟨rfl,rfl,dn,el,no⟩
   rw[b5] at el
   exact ar (none_ (el▸no))
 have hst:∀v∈pl.filterMap (λi=>es[i]?.map (·.key)),∃x,Ap x<=8/\TkIs P w s.heap x v:=λv hv=>by
  obtain⟨i,hi,ei⟩:=List.mem_filterMap.mp hv
  obtain⟨e,x,e1,e2,e3,e4,e5⟩:=hq i hi
  rw[e1] at ei
  cases ei
  exact⟨x,e3,e4⟩
 have hc:∀{a:Addr},¬ ((bC a::pl.filterMap (λi=>es[i]?.map (·.key))).all carriedByValue)=true:=λh=>by simp[carriedByValue] at h
 have he':∀a,u=.ref a -> ¬ (es.any λe=>e.key==bC a&&e.hash != Br w k)=true:=λa ea h=>by
  obtain⟨i,hi,h⟩:=Array.any_eq_true.mp h
  rw[aU,beq_iff_eq,bne_iff_ne] at h
  obtain⟨x,_,_,e3,e4⟩:=he i _ (ba hi)
  rw[h.1,<- ea] at e3
  exact h.2 (by rw[e4,TkIs.inj _ e3 hk])
 have fbv:∀(x:Str)(t:Tok),u=.str x t->aY (model P w) A (foundByValue d u es x) Q E s:=λx t eu=>by
  have key:∀(j:Nat)(e:d9)(y:TK),es[j]?=some e->ks[j]?=some y->TkIs P w s.heap y e.key->(e.key.isStr x=true↔y=k):=λj e y _ _ h=>by
   cases k with
   |tup l=>unfold TkIs at hk;obtain⟨a,_,z,_⟩:=hk;rw[eu] at z;cases z
   |at_ kk=>
    unfold TkIs at hk
    rw[<- (Bd P w).strs kk x t e.key (eu▸hk)]
    exact⟨λq=>TkIs.inj _ h (by unfold TkIs;exact q),λq=>by rw[q] at h;unfold TkIs at h;exact h⟩
  unfold foundByValue
  cases hf:es.findIdx? λe=>e.key.isStr x with
  |none=>
   refine ar (h0 λhm=>?_)
   obtain⟨j,hj⟩:=List.mem_iff_getElem?.mp hm
   have hl:j<es.size:=hz▸(List.getElem?_eq_some_iff.mp hj).1
   obtain⟨y,e1,_,e3,_⟩:=he j _ (ba hl)
   rw[hj] at e1
   cases e1
   have:=Array.findIdx?_eq_none_iff.mp hf es[j] (Array.getElem_mem hl)
   rw[(key j _ _ (ba hl) hj e3).mpr rfl] at this
   cases this
  |some i=>
   obtain⟨hl,hi,_⟩:=Array.findIdx?_eq_some_iff_getElem.mp hf
   obtain⟨y,e1,e2,e3,_⟩:=he i _ (ba hl)
   have ey:=(key i _ _ (ba hl) e1 e3).mp hi
   simp only[ba hl]
   refine ag (cR ho hd (ag (Y5 y (by omega) e3 hk _ _ _ _ (ag (cR ho hd ?_)))))
   rw[if_neg (by simp),decide_eq_true ey]
   exact ag (gv (ar (h1 i (ey▸e1))))
 have sh:(∃a,u=.ref a)\/(∃i t,u=.int i t) \/ ∃x t,u=.str x t:=by
  cases k with
  |tup l=>unfold TkIs at hk;obtain⟨a,_,z,_⟩:=hk;exact .inl ⟨a,z⟩
  |at_ kk=>unfold TkIs at hk;rcases A3 hk with⟨i,t,_,e⟩|⟨x,t,_,e⟩ <;> subst e;exact .inr (.inl ⟨i,t,rfl⟩);exact .inr (.inr ⟨x,t,rfl⟩)
 rcases sh with⟨a,rfl⟩|⟨i,t,rfl⟩|⟨x,t,rfl⟩
 refine Om (λh=>absurd h hc) λ_=>Om (λh=>absurd h (he' a rfl)) λ_=>?_
 rotate_left
 refine Om (λ_=>walk) λ_=>?_
 rotate_left
 refine Om (λ_=>fbv x t rfl) λ_=>Om (λ_=>walk) λ_=>?_
 all_goals
  refine Om (λ_=>ag (ar ?_)) λ_=>ag (au7 dk hk hst ?_)
 all_goals
  rw[if_neg (by simp)]
  refine ag (gg _ (λl b s'=>s'=s/\∃dn hit,b=(none,hit)/\pl=dn++l/\((hit=none/\∀j∈dn,ks[j]? ≠ some k) \/ ∃j,hit=some j/\j∈dn/\ks[j]?=some k)) _ ?_ ?_ _ _ ⟨rfl,[],none,rfl,rfl,.inl ⟨rfl,λ_ h=>by cases h⟩⟩)
  .rintro i l b s' ⟨rfl,dn,hit,rfl,el,no⟩
   obtain⟨e,x,e1,e2,e3,e4,e5⟩:=hq i (by rw[el];exact aE _ aD)
   rw[e1]
   dsimp only
   rw[if_pos (hn e x e5)]
   refine ag (cR ho hd (ag (Y5 x (by omega) e4 hk _ _ _ _ (ag (cR ho hd ?_)))))
   rw[if_neg (by simp)]
   have ea:pl=(dn++[i])++l:=by rw[el,cE];rfl
   by_cases hx:x=k
   .rw[decide_eq_true hx,if_pos rfl]
    rw[hx] at e2
    have hno:hit=none:=by
     rcases no with⟨h,_⟩|⟨j,_,hj,ej⟩
     .exact h
     .have:j=i:=(i5 (List.getElem?_eq_some_iff.mp ej).1 nd).mp (ej.trans e2.symm)
      exact absurd this ((List.nodup_append.mp (el▸np)).2.2 j hj i aD)
    subst hno
    rw[if_neg (by decide)]
    refine ag (gv ?_)
    split
    .exact ar (ar (h1 i e2))
    .exact ar ⟨rfl,_,_,rfl,ea,.inr ⟨i,rfl,by simp,e2⟩⟩
   .rw[decide_eq_false hx,if_neg (by decide)]
    refine ag (gv ?_)
    rw[if_neg (by simp)]
    refine ar ⟨rfl,_,_,rfl,ea,no.imp (λh=>⟨h.1,λj hj=>(List.mem_append.mp hj).elim (h.2 j) λh=>by rw[List.mem_singleton.mp h,e2];exact λz=>hx (aJ z)⟩) fun⟨j,a,b,c⟩=>⟨j,a,bo _ b,c⟩⟩
  .rintro b s' ⟨rfl,dn,hit,rfl,el,no⟩
   rw[b5] at el
   rcases no with⟨rfl,h⟩|⟨j,rfl,_,h⟩
   .exact ar (none_ (el▸h))
   .exact ar (h1 j h)
end
def Za{l:List (TK×V)}{k:TK}(h:k∉l.map (·.1)):Bg l k=none:=by
 unfold Bg
 rw[List.find?_eq_none.mpr λx hx z=>h (List.mem_map.mpr ⟨x,hx,of_decide_eq_true z⟩)]
 rfl
theorem Y9:∀{l:List (TK×V)}{j:Nat}{k:TK}{v:V},(l.map (·.1)).Nodup->l[j]?=some (k,v)->Bg l k=some v
 |p::l,0,k,v,_,h=>by cases h;exact B1 rfl
 | p::l,j+1,k,v,nd,h=>by
  rw[a7,bG] at nd
  rw[Bx λz=>nd.1 (z▸List.mem_map.mpr ⟨(k,v),ah h,rfl⟩)]
  exact Y9 nd.2 h
section
variable {X:Cx}{ξ:List (Addr×Obj)}{σ:St}{H:Hp}{s:av}{a:Addr}{kvs:List (TK×V)}{k:TK}{y v:V}{u r:am}{A:bv}{E:am->av->Prop}
def Nu(I:Inv X ξ σ H s)(e:Rd H a (.dT kvs)):kvs.length<=sizeLine/\(a==c8)=false/\∃o es ep,s.heap.get? a=some o/\o.ExactDict/\o.data=.dict es ep/\KT X.w H kvs es/\s.TypeIs (.ref a) "dict" :=
 let⟨z,y,o,es,ep,h1,h2,h3,r⟩:=(show ObjOk X.prog X.w H s.heap a (.dT kvs) from ba0 I.hok e);⟨z,y,o,es,ep,h1,h2,h3,r,o,h1,h2.1⟩
def Y6{es:Array d9}{o:Obj}{ep:Nat}{Q:Option Nat->av->Prop}(hu:A.units+8<cLine)(I:Inv X ξ σ H s)(h1:s.heap.get? a=some o)(h3:o.data=.dict es ep)(r:KT X.w H kvs es)(hk:Ap k<=8/\TkAt H k y)(ry:RelV y u)(h0:k∉kvs.map (·.1)->Q none s)(hs:∀j v,kvs[j]?=some (k,v)->Q (some j) s):aY (model X.prog X.w) A (dictFind a u (Br X.w k)) Q E s:=by
 refine a65 hu hk.1 (Ju I.hok k hk.2 ry) h1 h3 (ks:=kvs.map (·.1)) (by rw[ae];exact r.1) r.2.1 (λj e h=>?_) h0 λj h=>?_
 .obtain⟨x,v,z,a1,a2,a3,a4,a5,_⟩:=r.2.2 j e h
  exact⟨x,by rw[ao,a1];rfl,a2,Ju I.hok x a3 a4,a5⟩
 .rw[ao] at h
  obtain⟨⟨x,v⟩,h',rfl⟩:=Option.map_eq_some_iff.mp h
  exact hs j v h'
def Wt{Q:Option am->av->Prop}(hu:A.units+8<cLine)(I:Inv X ξ σ H s)(e:Rd H a (.dT kvs))(hk:Ap k<=8/\TkAt H k y)(ry:RelV y u)(h:∀z t,RelO (Bg kvs k) z->Inv X ξ σ H {s with toks:=t}->Q z {s with toks:=t}):aY (model X.prog X.w) A (mn a u) Q E s:=by
 obtain⟨_,_,o,es,ep,h1,_,h3,r,_⟩:=Nu I e
 unfold mn
 try with_reducible refine bz ?_
 refine ag (Oh k (by have:=hk.1;omega) (Ju I.hok k hk.2 ry) (ag (Y6 hu (I.tok (s.toks+Dd k)) h1 h3 r hk ry (λq=>ar (h none _ (by rw[Za q];exact aZ) (I.tok _))) λj v q=>?_)))
 refine ag (eK h1 h3 ?_)
 have hl:j<es.size:=r.1▸(List.getElem?_eq_some_iff.mp q).1
 obtain⟨x,v',z,a1,_,_,_,_,rv⟩:=r.2.2 j _ (ba hl)
 rw[q] at a1
 cases a1
 rw[ba hl]
 exact ar (h _ _ (by rw[Y9 r.2.1 q];exact rv) (I.tok _))
end
def ad3(H:Hp)(a:Addr)(y:V)(r:Option V):Prop:=∃kvs k,Rd H a (.dK kvs)/\y=kV k/\r=Bg kvs k
def DGet(H:Hp)(a:Addr)(y:V)(r:Option V):Prop:=
 (∃kvs k,Rd H a (.dK kvs)/\y=kV k/\r=Bg kvs k) \/ ∃kvs k,Rd H a (.dT kvs)/\(Ap k<=8/\TkAt H k y)/\r=Bg kvs k
def DPut(H:Hp)(a:Addr)(y v:V)(H':Hp):Prop:=
 (∃kvs k,H a=some (.dK kvs)/\y=kV k/\kvs.length<sizeLine/\H'=upd H a (.dK (Bt kvs k v))) \/
 ∃kvs k,H a=some (.dT kvs)/\(Ap k<=8/\TkAt H k y)/\kvs.length<sizeLine/\H'=upd H a (.dT (Bt kvs k v))
theorem DGet.k{H:Hp}{a:Addr}{kvs:List (Key×V)}{k:Key}(e:H a=some (.dK kvs)):DGet H a (kV k) (Bg kvs k):=.inl ⟨kvs,k,.inl e,rfl,rfl⟩
def DGet.t{H:Hp}{a:Addr}{y:V}{kvs:List (TK×V)}{k:TK}(e:H a=some (.dT kvs))(eb:(Ap k<=8/\TkAt H k y)):DGet H a y (Bg kvs k):=.inr ⟨kvs,k,.inl e,eb,rfl⟩
theorem DPut.k{H:Hp}{a:Addr}{kvs:List (Key×V)}{k:Key}{v:V}(e:H a=some (.dK kvs))(hl:kvs.length<sizeLine):DPut H a (kV k) v (upd H a (.dK (Bt kvs k v))):=.inl ⟨kvs,k,e,rfl,hl,rfl⟩
def DPut.t{H:Hp}{a:Addr}{y:V}{kvs:List (TK×V)}{k:TK}{v:V}(e:H a=some (.dT kvs))(eb:(Ap k<=8/\TkAt H k y))(hl:kvs.length<sizeLine) :
  DPut H a y v (upd H a (.dT (Bt kvs k v))):=.inr ⟨kvs,k,e,eb,hl,rfl⟩
section
variable {X:Cx}{ξ:List (Addr×Obj)}{σ:St}{H:Hp}{s:av}{a:Addr}{y v:V}{u r:am}{o:Option V}{A:bv}{E:am->av->Prop}
def Inv.big(I:Inv X ξ σ H s):c8<s.heap.objs.size:=by
 have h:=(I.mod.glob.keeps I.bk).lt
 exact lK (by decide) h
def Zo{Q:am->av->Prop}(hu:A.units+9<cLine)(I:Inv X ξ σ H s)(g:DGet H a y (some v))(ry:RelV y u)(h:∀w' s',Inv X ξ σ H s'->RelV v w'->Q w' s') :
  aY (model X.prog X.w) A (l7 (.ref a) u) Q E s:=by
 rcases g with⟨kvs,k,e,ey,l⟩|⟨kvs,k,e,eb,l⟩
 .subst ey
  obtain⟨z,hd,vs,rel,dd⟩:=Cm I.hok e
  obtain⟨w',hw,rw'⟩:=RelO.some_of (by rw[l];exact rel.val k)
  exact wpAny_getItem_of (Hj ry) dd.mapOf hw (h w' _ (I.tok _) rw')
 .obtain⟨_,_,o,_,_,_,_,_,_,T⟩:=Nu I e
  unfold l7
  try with_reducible refine bz ?_
  refine ag (je T (by decide) (ag (cF (name:=fM "__getitem__") T slot_dict_getitem (cq slot_dict_getitem T entry_dict_getitem ?_ (args_dict_getitem _ _)))))
  refine ag (m:=mn a u) (Wt (A:=A.in1) (show A.units+1+8<cLine by omega) I e eb ry λz t q I2=>?_)
  rw[<- l] at q
  obtain⟨w',rfl,rw'⟩:=q.some_of
  exact ar ⟨w',rfl,ar (h w' _ I2 rw')⟩
def b84{Q:am->av->Prop}(I:Inv X ξ σ H s)(g:ad3 H a y o)(ry:RelV y u)(h:∀s',Inv X ξ σ H s'->Q (.bool o.isSome) s') :
  aY (model X.prog X.w) A (cy .In u (.ref a)) Q E s:=by
 obtain⟨kvs,k,e,ey,l⟩:=g
 subst ey
 obtain⟨z,hd,vs,rel,dd⟩:=Cm I.hok e
 refine wpAny_in_of (Hj ry) hd dd.mapOf ?_
 rw[<- (rel.val k).isSome_eq,<- l]
 exact h _ (I.tok _)
def ay8{Q:am->av->Prop}(I:Inv X ξ σ H s)(g:ad3 H a y o)(ry:RelV y u)(h:∀s',Inv X ξ σ H s'->Q (.bool (!o.isSome)) s') :
  aY (model X.prog X.w) A (cy .NotIn u (.ref a)) Q E s:=by
 obtain⟨kvs,k,e,ey,l⟩:=g
 subst ey
 obtain⟨z,hd,vs,rel,dd⟩:=Cm I.hok e
 refine wpAny_notIn_of (Hj ry) hd dd.mapOf ?_
 rw[<- (rel.val k).isSome_eq,<- l]
 exact h _ (I.tok _)
def G5{h':Heap}{t':Nat}{ob:HO}(I:Inv X ξ σ H s)(mu:Mut (H a))(hs:bP a s.heap h')(he:∃q,h'.get? a=some q)(new:ObjOk X.prog X.w (upd H a ob) h' a ob)(ht:s.toks<=t':=by trivial) :
  Inv X ξ σ (upd H a ob) {s with heap:=h',toks:=t'}:=
 I.write mu (.inl rfl) (λb q hb z=>(hs.2 b hb).trans z) he new
def Pa{P:a_}{w:bB}{H':Hp}{h':Heap}{kvs:List (Key×V)}{vs:List (Key×am)}(z:kvs.length<=sizeLine)(hd:(a==c8)=false)(rel:KV kvs vs)(dd:h'.DictOf (Bd P w) a vs) :
  ObjOk P w H' h' a (.dK kvs):=⟨z,hd,vs,rel,dd⟩
def KT.add{w:bB}{kvs:List (TK×V)}{es:Array d9}{k:TK}(q:KT w H kvs es)(no:k∉kvs.map (·.1))(hk:Ap k<=8/\TkAt H k y)(ry:RelV y u)(rv:RelV v r):KT w H (Bt kvs k v) (es.push ⟨Br w k,u,r⟩):=by
 rw[Er v (Za no)]
 refine⟨by rw[Array.size_push,q.1,aG];rfl,by rw[aw];exact List.nodup_append.mpr ⟨q.2.1,by simp,λx hx z hz e=>no ((show z=k by simpa using hz)▸e▸hx)⟩,λj e h=>?_⟩
 rw[Array.getElem?_push] at h
 split at h
 .rename_i ej
  cases h
  exact⟨k,v,y,by rw[ej,q.1];simp,hk.1,hk.2,ry,rfl,rv⟩
 .obtain⟨x,v',z,a1,t⟩:=q.2.2 j e h
  exact⟨x,v',z,by rw[bE (List.getElem?_eq_some_iff.mp a1).1];exact a1,t⟩
def KT.new{w:bB}{kvs:List (TK×V)}{es:Array d9}{k:TK}{j:Nat}{v0:V}(q:KT w H kvs es)(hj:kvs[j]?=some (k,v0))(rv:RelV v r):KT w H (Bt kvs k v) (es.modify j λe=>{e with val:=r}):=by
 have ep:Bt kvs k v=kvs.map λp=>if p.1=k then(p.1,v) else p:=by
  unfold Bt
  rw[if_pos (List.any_eq_true.mpr ⟨_,ah hj,decide_eq_true rfl⟩)]
 have ek:(Bt kvs k v).map (·.1)=kvs.map (·.1):=by
  rw[ep,au]
  exact bu λp _=>by show(if _ then _ else _:TK×V).1=_;split <;> rfl
 refine⟨by rw[Array.size_modify,q.1,ep,ae],by rw[ek];exact q.2.1,λi e h=>?_⟩
 rw[Array.getElem?_modify] at h
 rw[ep,ao]
 split at h
 .rename_i e0
  subst e0
  obtain⟨e0,h',rfl⟩:=Option.map_eq_some_iff.mp h
  obtain⟨x,v',z,a1,a2,a3,a4,a5,_⟩:=q.2.2 j e0 h'
  rw[hj] at a1
  cases a1
  exact⟨k,v,z,by rw[hj,cB,if_pos rfl],a2,a3,a4,a5,rv⟩
 .rename_i ne
  obtain⟨x,v',z,a1,t⟩:=q.2.2 i e h
  refine⟨x,v',z,?_,t⟩
  rw[a1,cB,if_neg λe=>ne ?_]
  have g:∀{n:Nat}{p:TK×V},kvs[n]?=some p->(kvs.map (·.1))[n]?=some p.1:=λh=>by rw[ao,h];rfl
  have e:x=k:=e
  subst e
  exact(i5 (List.getElem?_eq_some_iff.mp (g hj)).1 q.2.1).mp ((g hj).trans (g a1).symm)
def Zp{H':Hp}{Q:Unit->av->Prop}(hu:A.units+9<cLine)(I:Inv X ξ σ H s)(g:DPut H a y v H')(ry:RelV y u)(rv:RelV v r)(h:∀s',Inv X ξ σ H' s'->Q () s') :
  aY (model X.prog X.w) A (mw (.ref a) u r) Q E s:=by
 rcases g with⟨kvs,k,e,ey,l,eH⟩|⟨kvs,k,e,eb,l,eH⟩
 .subst ey eH
  obtain⟨z,hd,vs,rel,dd⟩:=aj0 I.hok e
  have hz:vs.length<=sizeLine:=by rw[<- rel.length];exact z
  have hl:(Bt kvs k v).length<=sizeLine:=by have:=De kvs k v;omega
  refine wpAny_setItem_pairs (Hj ry) dd λh' dd' hs=>h _ ?_
  have he:∃q,h'.get? a=some q:=let⟨q,_,_,hq,_⟩:=dd';⟨q,hq⟩
  exact G5 I (by rw[e];exact aZ) hs he (Pa hl hd (rel.put k rv) dd')
 .subst eH
  obtain⟨z,hd,o,es,ep,h1,h2,h3,q,T⟩:=Nu I (.inl e)
  have hl:(Bt kvs k v).length<=sizeLine:=by have:=De kvs k v;omega
  have kt:∀{es},KT X.w H (Bt kvs k v) es->KT X.w (upd H a (.dT (Bt kvs k v))) (Bt kvs k v) es:=λq=>q.keeps λc ys ec=>by rw[Ad (bw2 ec e (λz=>nomatch z))];exact ec
  have mu:Mut (H a):=by rw[e];exact aZ
  unfold mw
  try with_reducible refine bz ?_
  refine ag (je T (by decide) (ag (cF (name:=fM "__setitem__") T slot_dict_setitem (cq slot_dict_setitem T entry_dict_setitem ?_ (args_dict_setitem _ _ _)))))
  refine ag (j2 T ?_)
  refine ag (m:=dictSet a u r) ?_
  unfold dictSet dictSetHashed
  try with_reducible refine bz ?_
  refine ag (Oh k (by have:=eb.1;show A.units+1+Ap k<cLine;omega) (Ju I.hok k eb.2 ry) ?_)
  try with_reducible refine bz ?_
  refine ag (Y6 (A:=A.in1) (show A.units+1+8<cLine by omega) (I.tok (s.toks+Dd k)) h1 h3 q eb ry (λno=>?_) λj v0 hj=>?_)
  .refine ag (gv (wpAny_updateDictKeys h1 h3 (hz:=by rw[q.1];omega) (ar ⟨.none,rfl,ar (h _ (G5 (I.tok _) mu (bI ..) ⟨_,dU _ h1 (gj (hJ h3 _))⟩ ⟨hl,hd,_,_,ep+1,dU _ h1 (gj (hJ h3 _)),h2.mapDictKeys _,hJ h3 _,kt (q.add no eb ry rv)⟩))⟩)))
  .refine ag (gv (ag (wpAny_updateDict h1 h3 (wpAny_point (ar ⟨.none,rfl,ar (h _ (G5 (I.tok _) mu (bI ..) ⟨_,dU _ h1 (gj (jz h3 _))⟩ ⟨hl,hd,_,_,ep,dU _ h1 (gj (jz h3 _)),h2.mapDict _,jz h3 _,kt (q.new hj rv)⟩))⟩)))))
end
section
variable {X:Cx}{ξ:List (Addr×Obj)}{σ:St}{H:Hp}{s:av}{a:Addr}{kvs:List (Key×V)}{k:Key}{u:am}{A:bv}{E:am->av->Prop}
def bu1{Q:am->av->Prop}(I:Inv X ξ σ H s)(e:Rd H a (.dK kvs))(h:∀t s',Inv X ξ σ H s'->Q (.int kvs.length t) s'):aY (model X.prog X.w) A (call (.builtin "len") [.ref a]) Q E s:=by
 obtain⟨z,hd,vs,rel,dd⟩:=Cm I.hok e
 refine call_len_dict hd dd (by rw[<- rel.length];rw[b_] at z;omega) ?_
 rw[<- rel.length]
 exact h _ _ (I.tok _)
end
def Ru{X:Cx}{ξ:List (Addr×Obj)}{σ:St}{H:Hp}{s:av}{a:Addr}{y:V}{o:Option V}(I:Inv X ξ σ H s)(g:DGet H a y o):s.TypeIs (.ref a) "dict" := by
 rcases g with⟨kvs,k,e,_,_⟩|⟨kvs,k,e,_,_⟩
 .obtain⟨_,_,vs,_,dd⟩:=Cm I.hok e
  exact dd.typeIs
 .obtain⟨_,_,_,_,_,_,_,_,_,T⟩:=Nu I e
  exact T
def Rx{P:a_}{w:bB}{H:Hp}(h:Heap)(hb:c8<h.objs.size):ObjOk P w H (h.push {cls:=.type "dict", data:=.dict #[]}) h.objs.size (.dK []):=
 ⟨bw _,beq_eq_false_iff_ne.mpr (cj (aQ hb)),[],.nil,Heap.DictOf.new h⟩
def aj1{P:a_}{w:bB}{H:Hp}(h:Heap)(hb:c8<h.objs.size):ObjOk P w H (h.push {cls:=.type "dict", data:=.dict #[]}) h.objs.size (.dT []):=
 ⟨bw _,beq_eq_false_iff_ne.mpr (cj (aQ hb)),_,#[],0,aK _ rfl,⟨rfl,rfl,rfl⟩,rfl,rfl,f_,λj e h=>by simp at h⟩
section
variable {X:Cx}{ξ:List (Addr×Obj)}{σ:St}{H:Hp}{s:av}{a:Addr}{y d:V}{u r:am}{o:Option V}{A:bv}{E:am->av->Prop}
def bd1{Q:am->av->Prop}(hu:A.units+9<cLine)(I:Inv X ξ σ H s)(g:DGet H a y o)(ry:RelV y u)(h:∀w' s',Inv X ξ σ H s'->RelV (o.getD .non) w'->Q w' s') :
  aY (model X.prog X.w) A (call (.builtin "dict.get") [.ref a,u]) Q E s:=by
 rcases g with⟨kvs,k,e,ey,l⟩|⟨kvs,k,e,eb,l⟩
 .subst ey
  obtain⟨z,hd,vs,rel,dd⟩:=Cm I.hok e
  refine iJ dY dd.typeIs fv (jj _ _) (meets_dict_get (Bd X.prog X.w) a (Hj ry) hd) ⟨_,dd.mapOf,h _ _ (I.tok _) ?_⟩
  rw[l]
  exact(rel.val k).getD rfl
 .obtain⟨_,hd,o,_,_,_,_,_,_,T⟩:=Nu I e
  refine cq dY T fv ?_ (jj _ _)
  refine ag (m:=mn a u) (Wt (A:=A.in1) (show A.units+1+8<cLine by omega) I e eb ry λz t q I2=>?_)
  have q:=(l▸q).getD (show RelV .non .none from rfl)
  cases z with
  |some v=>exact ar ⟨_,rfl,h _ _ I2 q⟩
  |none=>exact ag (m:=kI a u) (lB hd (ar ⟨_,rfl,h _ _ I2 q⟩))
def bd2{Q:am->av->Prop}(hu:A.units+9<cLine)(I:Inv X ξ σ H s)(g:DGet H a y o)(ry:RelV y u)(rd:RelV d r)(h:∀w' s',Inv X ξ σ H s'->RelV (o.getD d) w'->Q w' s') :
  aY (model X.prog X.w) A (call (.builtin "dict.get") [.ref a,u,r]) Q E s:=by
 rcases g with⟨kvs,k,e,ey,l⟩|⟨kvs,k,e,eb,l⟩
 .subst ey
  obtain⟨z,hd,vs,rel,dd⟩:=Cm I.hok e
  refine iJ dY dd.typeIs fv (jk _ _ _) (meets_dict_get_default (Bd X.prog X.w) a (Hj ry) hd r) ⟨_,dd.mapOf,h _ _ (I.tok _) ?_⟩
  rw[l]
  exact(rel.val k).getD rd
 .obtain⟨_,hd,o,_,_,_,_,_,_,T⟩:=Nu I e
  refine cq dY T fv ?_ (jk _ _ _)
  refine ag (m:=mn a u) (Wt (A:=A.in1) (show A.units+1+8<cLine by omega) I e eb ry λz t q I2=>?_)
  have q:=(l▸q).getD (rd)
  cases z with
  |some v=>exact ar ⟨_,rfl,h _ _ I2 q⟩
  |none=>exact ag (m:=kI a u) (lB hd (ar ⟨_,rfl,h _ _ I2 q⟩))
end
abbrev EK:=Addr->Hp->Prop
abbrev DE:=St->Hp->VK->EK->Prop
abbrev DT:=St->Hp->(Bool->Hp->Prop)->EK->Prop
abbrev DA:=St->Hp->(List V->Hp->Prop)->EK->Prop
structure Outs where
 nx:St->Hp->Prop
 rt:VK
 bk:St->Hp->Prop
 ct:St->Hp->Prop
 ex:St->EK
abbrev DS:=Outs->St->Hp->Prop
def Meets(_:Cx)(Ex:St->EK):Prop:=∀ σ a H,¬ Ex σ a H
def QE(X:Cx)(e:Expr)(t:DE):Prop:=∀Ex,Meets X Ex->PE X e (λσ H Q=>t σ H Q (Ex σ))
def QT(X:Cx)(e:Expr)(t:DT):Prop:=∀Ex,Meets X Ex->PT X e (λσ H Q=>t σ H Q (Ex σ))
def QW(X:Cx)(e:Expr)(t:DT):Prop:=∀Ex,Meets X Ex->PW X e (λσ H Q=>t σ H Q (Ex σ))
def QA(X:Cx)(es:List Expr)(t:DA):Prop:=∀Ex,Meets X Ex->PA X es (λσ H Q=>t σ H Q (Ex σ))
def bz3(Ex:St->EK)(D:Rf):Outs:=⟨D.nx,D.rt,D.bk,D.ct,Ex⟩
def QS(X:Cx)(st:Stmt)(t:DS):Prop:=∀Ex,Meets X Ex->PS X st (λD σ H=>t (bz3 Ex D) σ H)
def QSs(X:Cx)(st:List Stmt)(t:DS):Prop:=∀Ex,Meets X Ex->PSs X st (λD σ H=>t (bz3 Ex D) σ H)
noncomputable def dNo:DE:=λ_ _ _ _=>False
noncomputable def Ab(i:Nat):DE:=λσ H Q _=>match σ[i]? with
 |some (some v)=>Q v H
 |_=>False
noncomputable def dC(v:V):DE:=λ_ H Q _=>Q v H
noncomputable def Ah(r:R2)(a b:DE):DE:=λσ H Q E=>a σ H (λx H1=>b σ H1 (λy H2=>r x y H2 Q) E) E
noncomputable def dUn(r:V->Hp->VK->Prop)(a:DE):DE:=λσ H Q E=>a σ H (λx H1=>r x H1 Q) E
noncomputable def Dv(r r':R2)(a b c:DE):DE:=λσ H Q E=>a σ H (λx H1=>b σ H1 (λy H2=>r x y H2 λz H3=>match z with
 |.bl k=>if k=true then c σ H3 (λw H4=>r' y w H4 Q) E else Q (.bl false) H3
 |_=>False) E) E
noncomputable def O7(a b:DT):DT:=λσ H Q E=>a σ H (λk H1=>if k=true then b σ H1 Q E else Q false H1) E
noncomputable def dOr(a b:DT):DT:=λσ H Q E=>a σ H (λk H1=>if k=true then Q true H1 else b σ H1 Q E) E
noncomputable def Fd(a:DT):DT:=λσ H Q E=>a σ H (λk H1=>Q (!k) H1) E
def au9(K:ac)(x:V)(H:Hp)(Q:Bool->Hp->Prop):Prop:=match x with
 |.bl k=>Q k H
 |.non=>Q false H
 |.int i=>Q (i != 0) H
 |.str y=>y.length<=sizeLine/\Q ((y.length:Int) != 0) H
 |.ref p=>∃k,bt7 K (.ref p) H k/\Q k H
 |_=>False
noncomputable def Nt(K:ac)(a b:DE):DE:=λσ H Q E=>a σ H (λx H1=>au9 K x H1 λk H2=>if k=true then b σ H2 Q E else Q x H2) E
noncomputable def bu0(K:ac)(a b:DE):DE:=λσ H Q E=>a σ H (λx H1=>au9 K x H1 λk H2=>if k=true then Q x H2 else b σ H2 Q E) E
noncomputable def ai4(K:ac)(a:DE):DE:=λσ H Q E=>a σ H (λx H1=>au9 K x H1 λk H2=>Q (.bl (!k)) H2) E
noncomputable def Dw(K:ac)(a:DE):DT:=λσ H Q E=>a σ H (λx H1=>au9 K x H1 Q) E
noncomputable def Bb(a:DE):DT:=λσ H Q E=>a σ H (λx H1=>match x with
 |.bl k=>Q k H1
 |_=>False) E
noncomputable def Ag:DA:=λ_ H Q _=>Q [] H
noncomputable def Ac(a:DE)(r:DA):DA:=λσ H Q E=>a σ H (λx H1=>r σ H1 (λxs H2=>Q (x::xs) H2) E) E
noncomputable def C4(t:DA):DE:=λσ H Q E=>t σ H (λxs H1=>xs.length<=sizeLine/\∀p,H1 p=none->Q (.ref p) (upd H1 p (.tup xs))) E
noncomputable def B9(t:DA):DE:=λσ H Q E=>t σ H (λxs H1=>xs.length<=sizeLine/\∀p,H1 p=none->Q (.ref p) (upd H1 p (.lst xs))) E
noncomputable def dFn(r:List V->Hp->VK->EK->Prop)(t:DA):DE:=λσ H Q E=>t σ H (λvs H1=>r vs H1 Q E) E
noncomputable def dMt(r:V->Hp->(Hp->(List V->Hp->Prop)->Prop)->VK->Prop)(o:DE)(t:DA):DE:=λσ H Q E=>o σ H (λx H1=>r x H1 (λH2 R=>t σ H2 R E) Q) E
noncomputable def Af:DS:=λD σ H=>D.nx σ H
noncomputable def A8:DS:=λ_ _ _=>False
def Outs.thn(D:Outs)(f:St->Hp->Prop):Outs:={D with nx:=f}
def Outs.lp(D:Outs)(P:St->Hp->Prop):Outs:={D with nx:=P,ct:=P,bk:=D.nx}
noncomputable def Ae(t u:DS):DS:=λD σ H=>t (D.thn (u D)) σ H
noncomputable def Ar(e:DE):DS:=λD σ H=>e σ H D.rt (D.ex σ)
noncomputable def a75:DS:=λD _ H=>D.rt .non H
noncomputable def C0(e:DE):DS:=λD σ H=>e σ H (λ_ H1=>D.nx σ H1) (D.ex σ)
noncomputable def dIf(c:DT)(t u:DS):DS:=λD σ H=>c σ H (λb H1=>if b=true then t D σ H1 else u D σ H1) (D.ex σ)
noncomputable def Ao(i:Nat)(e:DE):DS:=λD σ H=>e σ H (λv H1=>D.nx (σ.set i (some v)) H1) (D.ex σ)
abbrev DG:=TG
noncomputable def Cz(e:DE)(g:DG):DS:=λD σ H=>e σ H (λv H1=>g v σ H1 D.nx) (D.ex σ)
abbrev DI:=St->Hp->(It->Hp->Prop)->EK->Prop
noncomputable def Uq(c:DT)(tb:DS):DS:=λD σ H=>∃W:Nat->St->Hp->Prop,(∃m,W m σ H)/\∀m σ H,W m σ H ->
 c σ H (λb H1=>if b=true then ∃N,(∀ σ' H',N σ' H' -> ∃m',m'<m/\W m' σ' H')/\tb (D.lp N) σ H1 else D.nx σ H1) (D.ex σ)
def Rg(J:It)(g:DG)(tb:DS)(D:Outs)(σ:St)(H:Hp):Prop:=∃W:Nat->Nat->St->Hp->Prop,(∃m,W 0 m σ H)/\∀i m σ H,W i m σ H ->
 (J.stop i H/\D.nx σ H)\/(J.go i H/\∃N,(∀ σ' H',N σ' H' -> ∃m',m'<m/\W (i+1) m' σ' H')/\∀x H',J.yld i H x H'->g x σ H' (λσ2 H2=>tb (D.lp N) σ2 H2))
def Thaw(H0 H:Hp)(P:Hp->Prop):Prop:=P H \/ ∃p o kvs,H0 p=some (.dK kvs)/\H p=some (.frz o (.dK kvs))/\P (upd H p (.dK kvs))
def Outs.thw(D:Outs)(H:Hp):Outs:={D with nx:=λσ' H'=>Thaw H H' (D.nx σ')}
noncomputable def By(wi:DI)(g:DG)(tb:DS):DS:=λD σ H=>wi σ H (λJ H1=>Rg J g tb (D.thw H) σ H1) (D.ex σ)
def Fc(J:It)(g:DG)(tc:DT)(te:DE)(D:Addr)(R:Hp->Prop)(σ:St)(H:Hp)(E:EK):Prop:=
 ∃W:Nat->Nat->St->Hp->Prop,(∃m,W 0 m σ H)/\∀i m σ' H',W i m σ' H' ->
  (J.stop i H'/\R H')\/(J.go i H'/\∃N:St->Hp->Prop,(∀ σ2 H2,N σ2 H2 -> ∃m',m'<m/\W (i+1) m' σ2 H2)/\∀x H2,J.yld i H' x H2->g x σ' H2 (λσ3 H3=>tc σ3 H3 (λb H4=>if b=true then
    te σ3 H4 (λv H5=>∃ys,H5 D=some (.lst ys)/\ys.length<sizeLine/\N σ3 (upd H5 D (.lst (ys++[v])))) E
   else N σ3 H4) E))
noncomputable def Be(srcs:List (Option Nat))(wi:DI)(g:DG)(tc:DT)(te:DE):DE:=λσ H Q E=>wi σ H (λJ H1=>∀D,H1 D=none->Fc J g tc te D (λH'=>Q (.ref D) H') (Ul srcs σ) (upd H1 D (.lst [])) E) E
noncomputable def Bv:DT:=λ_ H Q _=>Q true H
noncomputable def gdN(i:Nat):DG:=λv σ H Q=>Q (σ.set i (some v)) H
open PySem.W
inductive TyX (K:ac) (H:Hp) (x:V) (t:am):Prop where
 |of (h:TyOf K H x t)
 |sqT {a:Addr}{xs:List V} (ex:x=.ref a) (e:SqT K H a xs) (et:t=.type "tuple")
 |sqL {a:Addr}{xs:List V} (ex:x=.ref a) (e:SqL K H a xs) (et:t=.type "list")
section
variable {X:Cx}{ξ:List (Addr×Obj)}{σ:St}{H:Hp}{s:av}{A:bv}{E:am->av->Prop}
def U3{Q:am->av->Prop}{c:am}{b:Bool}{x:V}{u t:am}(I:Inv X ξ σ H s)(rx:RelV x u)(ty:TyX X.K H x t)(e:ga X.K t c=some b)(h:∀tk,Q (.bool b) {s with toks:=tk}) :
  aY (model X.prog X.w) A (call (.builtin "isinstance") [u,c]) Q E s:=by
 cases ty with
 |of ty=>exact Zz I rx ty e h
 |@sqT a xs ex q et=>
  subst ex et
  cases(rx)
  obtain⟨_,_,⟨o,h1,h2,_⟩,_⟩:=I.tuple q
  exact dI PySem.W.kitx_tuple I.kIn ⟨o,h1,h2⟩ e (λz=>nomatch z) h
 |@sqL a xs ex q et=>
  subst ex et
  cases(rx)
  obtain⟨_,_,⟨o,_,h1,h2,_⟩,_⟩:=I.list q
  exact dI PySem.W.kitx_list I.kIn ⟨o,h1,h2⟩ e (λz=>nomatch z) h
end
end L2
namespace L2
open PySem PySem.Spec PyProof.Rows
def Ite(K:ac)(l:Addr):It:=
  ⟨λi H=>∃xs x,SqL K H l xs/\xs[i]?=some x,
   λi H v H'=>∃T x,H T=none/\v=.ref T/\(∀xs,SqL K H l xs->xs[i]?=some x)/\H'=upd H T (.tup [.int i,x]),
   λi H=>∃xs,SqL K H l xs/\xs.length<=i⟩
def ac6{P:a_}{w:bB}{K:ac}{elts:List Expr}{kt:Nat}{pt:Pos}{e it l:Addr}(ne:e≠it) :
  Kv P w K (.Tuple elts kt pt) (Ite K l) [e,it] e (λi h=>(∃old,IsEnum h e it (i:Int) old)/\h.IsListIter it l i) where
 mem:=by simp
 obj:=λi h st b hb=>by
  obtain⟨⟨old,he⟩,⟨o1,e1,c1,d1⟩⟩:=st
  have hb:b=e\/b=it:=by simpa using hb
  rcases hb with rfl|rfl
  .exact⟨_,he,λv q=>nomatch q⟩
  .exact⟨o1,e1,λv q=>by rw[d1] at q;cases q⟩
 keep:=λi h h' st k=>by
  obtain⟨⟨old,he⟩,h1⟩:=st
  exact⟨⟨old,k e (by simp) _ he⟩,h1.at λo q=>k it (by simp) o q⟩
 item:=by
  intro X hP hw hK hc i ξ s σ H E I hf st hg
  subst hP hw hK
  obtain⟨xs,x,q1,hx⟩:=hg
  obtain⟨its1,r1,p1,z1⟩:=I.list q1
  obtain⟨u,hu,ru⟩:=r1.get hx
  obtain⟨⟨old,he⟩,h1⟩:=st
  refine wpAny_pyNext_enum_item he h1 p1.isList (by simpa using hu) ne λh' a1 a2 a3 a4 hk=>?_
  refine⟨_,rfl,iF a1 λh'' hz' hs'=>?_⟩
  have hT:=I.hok.fresh (af s.heap.objs.size)
  have up':∀b o,b∉[e,it]->s.heap.get? b=some o->h''.get? b=some o:=λb o hb q=>by
   have b1:b≠e:=by rintro rfl;exact hb (by simp)
   have b2:b≠it:=by rintro rfl;exact hb (by simp)
   exact hs'.extBut b o b1 (hk b o b1 b2 q)
  have nT:∀{b o},s.heap.get? b=some o->b≠s.heap.objs.size:=λq=>aQ (aO q)
  have Tnew:=hs'.extBut _ _ (cj (nT he)) a3
  have I1:Inv X ξ σ (upd H s.heap.objs.size (.tup [.int i,x])) {s with heap:=h'',toks:=s.toks+1}:=
   I.turnedN (λb hb=>hf b hb) up' (af _) ⟨by show 2<=sizeLine;decide,[.int i s.toks,u],.cons ⟨_,rfl⟩ (.cons ru .nil),⟨_,Tnew,rfl,_,rfl⟩⟩
  refine⟨.ref s.heap.objs.size,_,I1,rfl,⟨s.heap.objs.size,x,hT,rfl,λxs' h'=>by rw[I.list_inj h' q1];exact hx,rfl⟩,⟨⟨_,hz'⟩,a2.at λo q=>hs'.extBut _ o (cj ne) q⟩,λb hb=>?_⟩
  have q:=(hf b hb).1
  rw[Ad ?_]
  .exact q
  .have hb:b=e\/b=it:=by simpa using hb
   rcases hb with rfl|rfl
   .exact nT he
   .obtain⟨_,q,_⟩:=h1;exact nT q
 done:=by
  intro X hP hw hK hc i ξ s σ H E I hf st hg
  subst hP hw hK
  obtain⟨xs,q1,hx⟩:=hg
  obtain⟨its1,r1,p1,z1⟩:=I.list q1
  have e1:=r1.length
  obtain⟨⟨old,he⟩,h1⟩:=st
  refine wpAny_pyNext_enum_end (I.ok.hd hc) he h1 p1.isList (by simp;omega) λh' hk=>⟨rfl,?_⟩
  refine I.turnedL (λb hb=>hf b hb) λb o hb q=>?_
  have b2:b≠it:=by rintro rfl;exact hb (by simp)
  exact hk b o b2 q
 self:=λA i s Q E st h=>let⟨_,he⟩:=st.1;gZ he h
def Itz(K:ac)(l1 l2:Addr):It:=
  ⟨λi H=>∃xs ys x y,SqL K H l1 xs/\SqL K H l2 ys/\xs[i]?=some x/\ys[i]?=some y,
   λi H v H'=>∃T x y,H T=none/\v=.ref T/\(∀xs,SqL K H l1 xs->xs[i]?=some x)/\(∀ys,SqL K H l2 ys->ys[i]?=some y)/\H'=upd H T (.tup [x,y]),
   λi H=>∃xs ys,SqL K H l1 xs/\SqL K H l2 ys/\(xs.length<=i\/ys.length<=i)⟩
def av2{P:a_}{w:bB}{K:ac}{elts:List Expr}{kt:Nat}{pt:Pos}{z TI TO i1 i2 l1 l2:Addr}(D:ZipApart z TI TO i1 i2 l1 l2) :
  Kv P w K (.Tuple elts kt pt) (Itz K l1 l2) [z,TI,TO,i1,i2] z
   (λi h=>IsZip h z TI TO .none/\IsPair h TI (.ref i1) (.ref i2)/\(∃a b,IsPair h TO a b)/\h.IsListIter i1 l1 i/\h.IsListIter i2 l2 i) where
 mem:=by simp
 obj:=λi h st b hb=>by
  obtain⟨hz,hTI,⟨a,c,hTO⟩,⟨o1,e1,c1,d1⟩,⟨o2,e2,c2,d2⟩⟩:=st
  have hb:b=z\/b=TI\/b=TO\/b=i1\/b=i2:=by simpa using hb
  rcases hb with rfl|rfl|rfl|rfl|rfl
  .exact⟨_,hz,λv q=>nomatch q⟩
  .exact⟨_,hTI,λv q=>nomatch q⟩
  .exact⟨_,hTO,λv q=>nomatch q⟩
  .exact⟨o1,e1,λv q=>by rw[d1] at q;cases q⟩
  .exact⟨o2,e2,λv q=>by rw[d2] at q;cases q⟩
 keep:=λi h h' st k=>by
  obtain⟨hz,hTI,⟨a,c,hTO⟩,h1,h2⟩:=st
  exact⟨k z (by simp) _ hz,k TI (by simp) _ hTI,⟨a,c,k TO (by simp) _ hTO⟩,h1.at λo e=>k i1 (by simp) o e,h2.at λo e=>k i2 (by simp) o e⟩
 item:=by
  intro X hP hw hK hc i ξ s σ H E I hf st hg
  subst hP hw hK
  obtain⟨xs,ys,x,y,q1,q2,hx,hy⟩:=hg
  obtain⟨its1,r1,p1,z1⟩:=I.list q1
  obtain⟨its2,r2,p2,z2⟩:=I.list q2
  obtain⟨u,hu,ru⟩:=r1.get hx
  obtain⟨v,hv,rv⟩:=r2.get hy
  obtain⟨hz,hTI,⟨a,c,hTO⟩,h1,h2⟩:=st
  refine wpAny_pyNext_zip_item D hz hTI hTO h1 h2 p1.isList p2.isList (x:=u) (y:=v) (by simpa using hu) (by simpa using hv) λh' a1 a2 a3 a4 a5 a6 hk=>?_
  refine⟨_,rfl,wpAny_letOwnedTupleGo_zip a1 λh'' hz' hs'=>?_⟩
  have hT:=I.hok.fresh (af s.heap.objs.size)
  have up':∀b o,b∉[z,TO,i1,i2]->s.heap.get? b=some o->h''.get? b=some o:=λb o hb e=>by
   have b1:b≠z:=by rintro rfl;exact hb (by simp)
   have b2:b≠TO:=by rintro rfl;exact hb (by simp)
   have b3:b≠i1:=by rintro rfl;exact hb (by simp)
   have b4:b≠i2:=by rintro rfl;exact hb (by simp)
   exact hs'.extBut b o b1 (hk b o b1 b2 b3 b4 e)
  have nT:∀{b o},s.heap.get? b=some o->b≠s.heap.objs.size:=λe=>aQ (aO e)
  have Tnew:h''.get? s.heap.objs.size=some {cls:=.type "tuple", data:=.seq #[u,v]}:=hs'.extBut _ _ (cj (nT hz)) a5
  have I1:Inv X ξ σ (upd H s.heap.objs.size (.tup [x,y])) {s with heap:=h''}:=
   I.turnedN (t':=s.toks) (ch:=[z,TO,i1,i2]) (λb hb=>hf b (by
    have hb:b=z\/b=TO\/b=i1\/b=i2:=by simpa using hb
    rcases hb with rfl|rfl|rfl|rfl <;> simp)) up' (af _) ⟨by show 2<=sizeLine;decide,[u,v],.cons ru (.cons rv .nil),⟨_,Tnew,rfl,_,rfl⟩⟩
  refine⟨.ref s.heap.objs.size,_,I1,rfl,⟨s.heap.objs.size,x,y,hT,rfl,λxs' h'=>by rw[I.list_inj h' q1];exact hx,λys' h'=>by rw[I.list_inj h' q2];exact hy,rfl⟩,
   ⟨hz',hs'.extBut _ _ D.TIz (hk _ _ D.TIz D.TITO D.TIi1 D.TIi2 hTI),⟨_,_,hs'.extBut _ _ D.TOz a2⟩,a3.at λo e=>hs'.extBut _ o D.i1z e,a4.at λo e=>hs'.extBut _ o D.i2z e⟩,λb hb=>?_⟩
  have q:=(hf b hb).1
  rw[Ad ?_]
  .exact q
  .have hb:b=z\/b=TI\/b=TO\/b=i1\/b=i2:=by simpa using hb
   rcases hb with rfl|rfl|rfl|rfl|rfl
   .exact nT hz
   .exact nT hTI
   .exact nT hTO
   .obtain⟨_,e,_⟩:=h1;exact nT e
   .obtain⟨_,e,_⟩:=h2;exact nT e
 done:=by
  intro X hP hw hK hc i ξ s σ H E I hf st hg
  subst hP hw hK
  obtain⟨xs,ys,q1,q2,hx⟩:=hg
  obtain⟨its1,r1,p1,z1⟩:=I.list q1
  obtain⟨its2,r2,p2,z2⟩:=I.list q2
  have e1:=r1.length
  have e2:=r2.length
  obtain⟨hz,hTI,⟨a,c,hTO⟩,h1,h2⟩:=st
  have hend:its1.toArray[i]?=none\/its2.toArray[i]?=none:=by
   rcases hx with hx|hx
   .exact .inl (by simp;omega)
   .exact .inr (by simp;omega)
  refine wpAny_pyNext_zip_end (I.ok.hd hc) D hz hTI hTO h1 h2 p1.isList p2.isList hend λh' hk=>⟨rfl,?_⟩
  refine I.turnedL (t':=s.toks) (ch:=[z,TO,i1,i2]) (λb hb=>hf b (by
    have hb:b=z\/b=TO\/b=i1\/b=i2:=by simpa using hb
    rcases hb with rfl|rfl|rfl|rfl <;> simp)) λb o hb e=>?_
  have b1:b≠z:=by rintro rfl;exact hb (by simp)
  have b2:b≠TO:=by rintro rfl;exact hb (by simp)
  have b3:b≠i1:=by rintro rfl;exact hb (by simp)
  have b4:b≠i2:=by rintro rfl;exact hb (by simp)
  exact hk b o b1 b2 b3 b4 e
 self:=λA i s Q E st h=>wpAny_pyIter_zip st.1 h
def bs9{K:ac}{l1 l2:Addr}{xs ys:List V}{H:Hp}{i:Nat}(h1:SqL K H l1 xs)(h2:SqL K H l2 ys)(hi:i<min xs.length ys.length):(Itz K l1 l2).go i H:=
 ⟨xs,ys,xs[i]'(by omega),ys[i]'(by omega),h1,h2,by simp,by simp⟩
section
variable {X:Cx}{ξ:List (Addr×Obj)}{σ σ0:St}{H H0:Hp}{s s0:av}{p:Addr}{kvs:List (Key×V)}{o:Obj}
def Ze(o:Obj)(ep:Nat):Prop:=∃es,o.data=.dict es ep
def Inv.froze(I:Inv X ξ σ H s)(h:H p=some (.dK kvs)):∃ob ep,s.heap.get? p=some ob/\Ze ob ep/\Inv X ξ σ (upd H p (.frz ob (.dK kvs))) s:=by
 have K:=I.hok p _ h
 obtain⟨z,y,vs,r,ob,es,ep,e,c,d,q⟩:=id K
 exact⟨ob,ep,e,⟨es,d⟩,(I.write (x:=p) (e:=p) (t':=s.toks) (h':=s.heap) (by rw[h];trivial) (.inl rfl) (λb u _ q=>q) ⟨ob,e⟩ ⟨e,K⟩)⟩
def Inv.thaw(I0:Inv X ξ σ0 H0 s0)(h0:H0 p=some (.dK kvs))(I:Inv X ξ σ H s)(h:H p=some (.frz o (.dK kvs))):Inv X ξ σ (upd H p (.dK kvs)) s:=by
 have ne:∀b,H b=none->b≠p:=λb e z=>by rw[z,h] at e;cases e
 have ntup:∀b xs,H b=some (.tup xs)->b≠p:=λb xs e z=>by rw[z,h] at e;cases e
 have nown:∀b c,H b=some (.own c)->b≠p:=λb c e z=>by rw[z,h] at e;cases e
 refine⟨I.ok,I.os,I.bare,⟨I.base.keep,I.base.slot,λb ob e n hx=>?_,I.base.there,λb xs e=>?_,λb ob u e=>?_,λb ps e=>?_⟩,I.loc,I.cell,?_,λx c e=>?_,λq hq=>?_,λb u e=>?_,I.len⟩
 .have q:=I.base.free b ob e n hx
  rw[Ad (ne b q)];exact q
 .have q:=I.base.tups b xs e
  rw[Ad (ntup b xs q)];exact q
 .have q:=I.base.frzs b ob u e
  have n:b≠p:=λz=>by
   have q0:=I0.base.frzs b ob u e
   rw[z,h0] at q0;cases q0
  rw[Ad n];exact q
 .obtain⟨more,q⟩:=I.base.tbls b ps e
  have n:b≠p:=λz=>by rw[z,h] at q;cases q
  exact⟨more,by rw[Ad n];exact q⟩
 .rw[Ad (ne _ I.free)];exact I.free
 .have q:=I.freeC x c e
  rw[Ad (ne _ q)];exact q
 .obtain⟨a,b,c⟩:=I.pin q hq
  exact⟨a,by rw[Ad (ne _ b)];exact b,c⟩
 .by_cases z:b=p
  .subst z
   rw[Aa] at e
   cases e
   exact(I.hok b _ h).2
  .rw[Ad z] at e
   exact(I.hok b u e).stay (λ_ _ _ q=>q) (λc q=>by rw[Ad (nown c b q)];exact q) λc xs q=>by rw[Ad (ntup c xs q)];exact q
def Thaw.inv{P:Hp->Prop}(I0:Inv X ξ σ0 H0 s0)(I:Inv X ξ σ H s)(t:Thaw H0 H P):∃H',Inv X ξ σ H' s/\P H':=by
 rcases t with t|⟨p,o,kvs,h0,h,t⟩
 .exact⟨H,I,t⟩
 .exact⟨_,I0.thaw h0 I h,t⟩
def Inv.kdict(I:Inv X ξ σ H s)(h:H p=some (.frz o (.dK kvs))){ep:Nat}(he:Ze o ep):∃vs,KV kvs vs/\s.heap.DictAt (Bd X.prog X.w) p vs ep/\(p==c8)=false:=by
 obtain⟨e1,z,y,vs,r,ob,es,ep',e,c,d,q⟩:=I.hok p _ h
 obtain⟨es',d'⟩:=he
 rw[e1] at e
 cases e
 have d2:=d
 rw[d'] at d2
 cases d2
 exact⟨vs,r,⟨o,_,e1,c,d,q⟩,y⟩
end
def Itd(p:Addr)(o:Obj)(kvs:List (Key×V)):It:=
 ⟨λi H=>H p=some (.frz o (.dK kvs))/\i<kvs.length,λi H x H'=>H'=H/\∃k v,kvs[i]?=some (k,v)/\x=kV k,λi H=>H p=some (.frz o (.dK kvs))/\kvs.length<=i⟩
theorem al1:∀{kvs} {vs}{i:Nat}{k:Key}{v:V},KV kvs vs->kvs[i]?=some (k,v) -> ∃u,vs[i]?=some (k,u)/\RelV v u
 | _,_,0,k,v,.cons (b:=q) r _,e=>by
  simp only[eZ,gW] at e
  subst e
  exact⟨q.2,congrArg some (lO r.1.symm rfl),r.2⟩
 | _,_,i+1,k,v,.cons r t,e=>by
  simp only[bN] at e ⊢
  exact al1 t e
def ak9{P:a_}{w:bB}{k:Key}{u:am}(h:(Bd P w).is k u=true):RelV (kV k) u:=by
 cases k with
 |inl i=>obtain⟨t,rfl⟩:=Value.isInt_shape (h);exact⟨t,rfl⟩
 |inr z=>obtain⟨t,rfl⟩:=kQ (h);exact⟨t,rfl⟩
def ac5{P:a_}{w:bB}{K:ac}{tg:Expr}(p it:Addr)(o:Obj)(kvs:List (Key×V)){ep:Nat}(he:Ze o ep):Kv P w K tg (Itd p o kvs) [it] it (λi h=>h.IsKeyIter it p i kvs.length ep) where
 mem:=by simp
 obj:=λi h st b hb=>by
  have e:b=it:=by simpa using hb
  subst e
  obtain⟨o,e,c,d⟩:=st
  exact⟨o,e,λv z=>by rw[d] at z;cases z⟩
 keep:=λi h h' st k=>st.at λo e=>k it (by simp) o e
 item:=by
  intro X hP hw hK hc i ξ s σ H E I hf st hg
  subst hP hw hK
  obtain⟨hH,hi⟩:=hg
  obtain⟨vs,rel,hd,hm⟩:=I.kdict hH he
  obtain⟨f0,f1,f2,f3,f4,f5⟩:=hf it (by simp)
  obtain⟨⟨k,v⟩,hx⟩:∃q,kvs[i]?=some q:=⟨kvs[i],by simp[hi]⟩
  obtain⟨u,hu,_⟩:=al1 rel hx
  have hl:=rel.length
  rw[hl] at st
  refine jH st hd hu λkey h' hk st' sb=>?_
  have I1:=I.turned (λb o hb e=>sb.extBut b o hb e) f0 f1 f3 f4 f5
  obtain⟨o1,e,c,d⟩:=id st'
  exact⟨key,rfl,La e c d (by decide) ⟨kV k,H,I1,ak9 hk,⟨rfl,k,v,hx,rfl⟩,by rw[hl];exact st',λb hb=>(hf b hb).1⟩⟩
 done:=by
  intro X hP hw hK hc i ξ s σ H E I hf st hg
  subst hP hw hK
  obtain⟨hH,hi⟩:=hg
  obtain⟨vs,rel,hd,hm⟩:=I.kdict hH he
  obtain⟨f0,f1,f2,f3,f4,f5⟩:=hf it (by simp)
  have hl:=rel.length
  rw[hl] at st
  exact wpAny_pyNext_dict_end (I.ok.hd hc) st hd (by simp;omega) λh' eb=>⟨rfl,I.turned (λb o hb e=>eb b o hb e) f0 f1 f3 f4 f5⟩
 self:=λ_ _ _ _ _ st h=>kj st h
def az0{X:Cx}{tg:Expr}{ξ:List (Addr×Obj)}{σ:St}{H:Hp}{s:av}{R:It->Hp->Prop}{E:am->av->Prop}{p:Addr}{o:Obj}{kvs:List (Key×V)}(I:Inv X ξ σ H s)(h:H p=some (.frz o (.dK kvs)))(q:R (Itd p o kvs) H):aY (model X.prog X.w) X.A (l9 (.ref p)) (PIE X ξ σ tg R) E s:=by
 have he:∃ep,Ze o ep:=by
  obtain⟨e1,z,y,vs,r,ob,es,ep,e,c,d,_⟩:=I.hok p _ h
  rw[e1] at e;cases e
  exact⟨ep,es,d⟩
 obtain⟨ep,he⟩:=he
 obtain⟨vs,rel,hd,hm⟩:=I.kdict h he
 refine fV hm hd ?_
 refine⟨s.heap.objs.size,[s.heap.objs.size],_,_,H,rfl,I.kept λb o e=>ai _ e,ac5 p _ o kvs he,⟨_,aK _ rfl,rfl,by rw[rel.length];rfl⟩,λb hb=>?_,q⟩
 have e:b=s.heap.objs.size:=by simpa using hb
 subst e
 exact I.fpOk (af _) (I.hok.fresh (af _))
section
variable {prog:a_}{w:bB}{A:bv}{E:am->av->Prop}{s:av}{d it:Addr}{ob:Obj}{es:Array d9}{ep i:Nat}
def az3{Q:am->av->Prop}(nm:(d==c8)=false)(g:s.heap.get? d=some ob)(c:ob.ExactDict)(e:ob.data=.dict es ep)(q:Q (.ref s.heap.objs.size) {s with heap:=s.heap.push {cls:=.type "dict_keyiterator", data:=.fields #[.ref d,.int 0 0,.int es.size 0,.int ep 0]}}):aY (model prog w) A (l9 (.ref d)) Q E s:=by
 have T:s.TypeIs (.ref d) "dict" := ⟨ob,g,c.1⟩
 refine wpAny_pyIter_slot T F.slot_dict_iter (cq F.slot_dict_iter T F.entry_dict_iter ?_ (F.args_dict_iter_1 _))
 refine ag ?_
 refine ag (j2 T (ar ?_))
 show aY _ _ (jI d >>= _) _ _ s
 unfold jI
 rw[if_neg (by rw[nm];exact aM)]
 refine ag (ar (ag (eK g e (ag (cR g e ?_)))))
 refine ag (cG (ar ⟨_,rfl,"dict_keyiterator", _,⟨_,aK _ rfl,rfl⟩,F.slot_dict_keyiterator_next.lookup,?_⟩))
 simpa [hO] using q
def az2{Q:Option am->av->Prop}(t:s.heap.IsKeyIter it d i es.size ep)(g:s.heap.get? d=some ob)(e:ob.data=.dict es ep)(hi:i<es.size)(q:∀h',h'.IsKeyIter it d (i+1) es.size ep->bP it s.heap h'->Q (some es[i].key) {s with heap:=h'}):aY (model prog w) A (l_ (.ref it)) Q E s:=by
 obtain⟨o,ho,hc,hd⟩:=id t
 refine ag (jw (cF t.typeIs bY (cq bY t.typeIs fj ?_ (eQ _))))
 refine ag (ar (ag (ag ?_)))
 first|refine ag (cr t.typeIs (ar ?_))|refine ag (cP t.typeIs (ar ?_))
 refine ag (iV ho hd ?_)
 show aY _ _ (if(bC d==bT)=true then _ else _) _ _ s
 rw[if_neg (show ¬ ((bC d==bT)=true) from aM)]
 refine ag (ar (ag (eK g e ?_)))
 rw[if_neg (by simp)]
 refine ag (ar (ag (cR g e ?_)))
 rw[if_neg (by simp)]
 refine ar ?_
 simp only[show ¬ ((i:Int)<0) from by omega,if_false,bb,ba hi]
 refine ag ?_
 first|refine ag (cr t.typeIs (ar ?_))|refine ag (cP t.typeIs (ar ?_))
 refine ag (j1 t.typeIs ?_)
 show aY _ _ (setField (.ref it) 1 (hO ((i:Int)+1)) >>= _) _ _ s
 refine ag (kG ho hd (by simp) ?_)
 have t':(s.heap.update it (Obj.mapFields (·.setIfInBounds 1 (hO ((i:Int)+1))))).IsKeyIter it d (i+1) es.size ep:=
  ⟨_,dU _ ho (Obj.isFreed_of_fields (k9 hd _)),(Obj.cls_mapFields ..).trans hc,by rw[k9 hd];simp[hO]⟩
 refine ag (bz (ag (j1 (s:={s with heap:=s.heap.update it (Obj.mapFields (·.setIfInBounds 1 (hO ((i:Int)+1))))}) t'.typeIs ?_)))
 show aY _ _ (pure es[i].key) _ _ _
 exact ar (ar ⟨_,rfl,ar (q _ t' (bI ..))⟩)
def bd9{Q:Option am->av->Prop}(hh:A.handled=none)(t:s.heap.IsKeyIter it d i es.size ep)(g:s.heap.get? d=some ob)(e:ob.data=.dict es ep)(hi:es.size<=i)(q:∀h',lS it s.heap h'->Q none {s with heap:=h'}):aY (model prog w) A (l_ (.ref it)) Q E s:=by
 obtain⟨o,ho,hc,hd⟩:=id t
 refine ag (jw (cF t.typeIs bY (cq bY t.typeIs fj ?_ (eQ _))))
 refine ag (ar (ag (ag ?_)))
 first|refine ag (cr t.typeIs (ar ?_))|refine ag (cP t.typeIs (ar ?_))
 refine ag (iV ho hd ?_)
 show aY _ _ (if(bC d==bT)=true then _ else _) _ _ s
 rw[if_neg (show ¬ ((bC d==bT)=true) from aM)]
 refine ag (ar (ag (eK g e ?_)))
 rw[if_neg (by simp)]
 refine ag (ar (ag (cR g e ?_)))
 rw[if_neg (by simp)]
 refine ar ?_
 simp only[by omega,if_false,bb,jE hi]
 refine ag ?_
 first|refine ag (cr t.typeIs (ar ?_))|refine ag (cP t.typeIs (ar ?_))
 show aY _ _ (setField (.ref it) 0 .none >>= _) _ _ s
 refine ag (kG ho hd (by simp) ?_)
 show aY _ _ (newExc (.type "StopIteration") [] >>= _) _ _ _
 refine ag ?_
 simp only[newExc,newTuple]
 refine ag (cG ?_ (by size_fits))
 refine ag (m:=kC _ _) (wpAny_of_eq (a:=bT) (by first|rfl|(simp only[kC];rfl)) ?_)
 refine cG ?_ (by size_fits)
 simp only[raiseNew]
 refine ag (wpAny_handled ?_)
 rw[show A.in1.handled=none from hh]
 refine ag (ar (wpAny_throw ?_))
 refine ag (jD (T := "StopIteration") (b:=true) ⟨_,aK _ rfl,rfl⟩ isSubtype_stop ?_)
 exact ar (q _ (((bI ..).extBut.push _).push _))
end
section
variable {X:Cx}{ξ:List (Addr×Obj)}{σ:St}{H:Hp}{s:av}{p:Addr}{kvs:List (TK×V)}{o:Obj}
def Inv.frozeT(I:Inv X ξ σ H s)(h:H p=some (.dT kvs)):∃ob,Inv X ξ σ (upd H p (.frz ob (.dT kvs))) s:=by
 have K:=I.hok p _ h
 obtain⟨z,y,ob,es,ep,e,c,d,q⟩:=id K
 exact⟨ob,I.write (by rw[h];trivial) (.inl rfl) (λb u _ q=>q) ⟨ob,e⟩ ⟨e,K.stay (λ_ _ _ q=>q) (λc q=>by rw[Ad λz=>by rw[z,h] at q;cases q];exact q) λc xs q=>by rw[Ad λz=>by rw[z,h] at q;cases q];exact q⟩⟩
def Inv.tdict(I:Inv X ξ σ H s)(h:H p=some (.frz o (.dT kvs))):∃es ep,s.heap.get? p=some o/\o.ExactDict/\o.data=.dict es ep/\(p==c8)=false/\KT X.w H kvs es:=by
 obtain⟨e1,z,y,ob,es,ep,e,c,d,q⟩:=I.hok p _ h
 rw[e1] at e
 cases e
 exact⟨es,ep,e1,c,d,y,q⟩
end
def ay0(p:Addr)(o:Obj)(kvs:List (TK×V)):It:=
 ⟨λi H=>H p=some (.frz o (.dT kvs))/\i<kvs.length,λi H x H'=>H'=H/\∃k v,kvs[i]?=some (k,v)/\Ap k<=8/\TkAt H k x,λi H=>H p=some (.frz o (.dT kvs))/\kvs.length<=i⟩
def a66{P:a_}{w:bB}{K:ac}{tg:Expr}(p it:Addr)(o:Obj)(kvs:List (TK×V)){es:Array d9}{ep:Nat}(he:o.data=.dict es ep):Kv P w K tg (ay0 p o kvs) [it] it (λi h=>h.IsKeyIter it p i es.size ep) where
 mem:=by simp
 obj:=λi h st b hb=>by
  have e:b=it:=by simpa using hb
  subst e
  obtain⟨o,e,c,d⟩:=st
  exact⟨o,e,λv z=>by rw[d] at z;cases z⟩
 keep:=λi h h' st k=>st.at λo e=>k it (by simp) o e
 item:=by
  intro X hP hw hK hc i ξ s σ H E I hf st hg
  subst hP hw hK
  obtain⟨hH,hi⟩:=hg
  obtain⟨es',ep',g,c,d,_,hl,_,hk⟩:=I.tdict hH
  rw[he] at d
  cases d
  obtain⟨f0,f1,f2,f3,f4,f5⟩:=hf it (by simp)
  have hi':i<es.size:=by omega
  obtain⟨k,v,u,e1,e2,e3,e4,_⟩:=hk i _ (ba hi')
  refine az2 st g he hi' λh' st' sb=>?_
  have I1:=I.turned (λb o hb e=>sb.extBut b o hb e) f0 f1 f3 f4 f5
  obtain⟨o1,e,c,d⟩:=id st'
  exact⟨_,rfl,La e c d (by decide) ⟨u,H,I1,e4,⟨rfl,k,v,e1,e2,e3⟩,st',λb hb=>(hf b hb).1⟩⟩
 done:=by
  intro X hP hw hK hc i ξ s σ H E I hf st hg
  subst hP hw hK
  obtain⟨hH,hi⟩:=hg
  obtain⟨es',ep',g,c,d,_,hl,_,hk⟩:=I.tdict hH
  rw[he] at d
  cases d
  obtain⟨f0,f1,f2,f3,f4,f5⟩:=hf it (by simp)
  exact bd9 (I.ok.hd hc) st g he (by omega) λh' eb=>⟨rfl,I.turned (λb o hb e=>eb b o hb e) f0 f1 f3 f4 f5⟩
 self:=λ_ _ _ _ _ st h=>kj st h
def bu2{X:Cx}{tg:Expr}{ξ:List (Addr×Obj)}{σ:St}{H:Hp}{s:av}{R:It->Hp->Prop}{E:am->av->Prop}{p:Addr}{kvs:List (TK×V)}(I:Inv X ξ σ H s)(h:H p=some (.dT kvs))(q:∀o,R (ay0 p o kvs) (upd H p (.frz o (.dT kvs)))):aY (model X.prog X.w) X.A (l9 (.ref p)) (PIE X ξ σ tg R) E s:=by
 obtain⟨o,I1⟩:=I.frozeT h
 obtain⟨es,ep,g,c,d,nm,_⟩:=I1.tdict Aa
 refine az3 nm g c d ?_
 refine⟨s.heap.objs.size,[s.heap.objs.size],_,_,_,rfl,I1.kept λb o e=>ai _ e,a66 p _ o kvs d,⟨_,aK _ rfl,rfl,rfl⟩,λb hb=>?_,q o⟩
 have e:b=s.heap.objs.size:=by simpa using hb
 subst e
 exact I1.fpOk (af _) (I1.hok.fresh (af _))
end L2
namespace PySem
def Sem.wp_never{α:Type}(M:Model)(Γ:Ctx):∀(t:Sem α) p s,Sem.wp M Γ t (λ_ _ _=>False) (λ_ _ _=>False) p s->False:=by
 intro t
 induction t with
 |pure a=>intro p s h;exact h
 |raise e=>intro p s h;exact h
 |unsupported w=>intro p s h;exact h
 |finish e=>intro p s h;exact h
 |rule tag k ih=>intro p s h;exact ih () p s h
 |«at» q k ih=>intro p s h;exact ih () q s h
 |load a part k ih=>intro p s h;obtain⟨o,_,h⟩:=h;exact ih o p s h
 |update a part f k ih=>intro p s h;exact ih () p _ h.2
 |alloc o k ih=>intro p s h;exact ih _ p _ h
 |loadIfAlive a k ih=>intro p s h;exact ih _ p s h
 |point l k ih=>intro p s h;exact ih () p s h
 |register a k ih=>intro p s h;exact h
 |fresh k ih=>intro p s h;exact ih _ p _ h
 |ask k ih=>intro p s h;exact ih _ p s h
 |choose src n k ih=>intro p s h;exact ih _ p _ h.2
 |os q l k ih=>intro p s h;exact ih _ p _ h
 |call c hd g l k ih=>intro p s h;obtain⟨r,s',_,h⟩:=h;exact ih r p s' h
 |handled own k ih=>intro p s h;exact ih _ p s h
 |newGen c k ih=>intro p s h;exact ih _ p _ h
 |genState g k ih=>intro p s h;obtain⟨st,_,h⟩:=h;exact ih _ p s h
 |resume g r l k ih=>intro p s h;obtain⟨res,s',_,h⟩:=h;exact ih res p s' h
 |yield v g l k ih=>intro p s h;exact h
 |stack k ih=>intro p s h;exact ih _ p s h
 |fork c k ih=>intro p s h;exact h
 |thread k ih=>intro p s h;first|exact ih _ p s h|exact h
 |await a tk d l k ih=>intro p s h;first|exact h|exact ih _ p s h
section
variable {prog:a_}{w:bB}{A:bv}{E:am->av->Prop}{s:av}
def aa0{v:am}{P:am->av->Prop}(h:aY (model prog w) A (l_ v) (λr s'=>∃u,r=some u/\P u s') (λ_ _=>False) s):aY (model prog w) A (c_ v) P E s:=by
 intro Γ p hΓ
 have h:=h Γ p hΓ
 unfold l_ Sem.attempt at h
 unfold c_
 rw[lM,Sem.wp_tryCatch,Sem.wp_bind] at h
 rw[lM]
 refine Sem.wp_mono _ _ _ (λo p' s' q=>?_) (λe p' s' q=>?_) p s h
 .cases o with
  |none=>exact(q).elim
  |some u=>
   obtain⟨u',e,q⟩:=q
   cases e
   exact q
 .refine (Sem.wp_never (model prog w) Γ (isInstance e (.type "StopIteration")) p' s' ?_).elim
  have q:Sem.wp (model prog w) Γ (isInstance e (.type "StopIteration") >>= λb=>if b=true then pure none else throw e) (λr _ s'=>∃u,r=some u/\P u s') (λ_ _ _=>False) p' s':=q
  rw[lM] at q
  refine Sem.wp_mono _ _ _ (λb p2 s2 q=>?_) (λ_ _ _ z=>z) p' s' q
  cases b with
  |true=>obtain⟨u,z,_⟩:=q;cases z
  |false=>exact q
variable {κ:Type} [DecidableEq κ] {knd:KeyKind prog w κ}{d it:Addr}{ep i:Nat}{kvs:List (κ×am)}
def Fa{Q:am->av->Prop}(hh:A.handled=none)(hit:s.heap.IsKeyIter it d i kvs.length ep)(hm:s.heap.DictAt knd d kvs ep)(hx:kvs[i]?=none)(hE:∀h' x,lS it s.heap h'->(∃o,h'.get? x=some o/\o.cls=.type "StopIteration")->E (.ref x) {s with heap:=h'}):aY (model prog w) A (c_ (.ref it)) Q E s:=by
 have ⟨oi,ei,ci,di⟩:=hit
 have ⟨od,es,ed,_,dd,_,pr,_⟩:=hm
 have size:es.size=kvs.length:=pr.length▸(by simp)
 have past:es.size<=i:=by rw[size];simpa using hx
 have own:Builtin.Dict_items.ownsTuple "dict_keyiterator"=false:=by decide
 have nx:¬ ((i:Int)<0):=by omega
 have noNone:¬ ((bC d==bT)=true):=aM
 refine ag (cF hit.typeIs bY (cq bY hit.typeIs fj ?_ (eQ _)))
 refine ag (ar (ag (ag ?_)))
 first|refine ag (cr hit.typeIs (ar (ag (iV ei di ?_))))|refine ag (cP hit.typeIs (ar (ag (iV ei di ?_))))
 show aY _ _ (if(bC d==bT)=true then _ else _) _ _ s
 rw[if_neg noNone]
 refine ag (ar (ag (eK ed dd ?_)))
 rw[if_neg (show ¬ _ by rw[size];simp)]
 refine ag (ar (ag (cR ed dd ?_)))
 rw[if_neg (show ¬ _ by simp)]
 refine ar ?_
 simp only[nx,if_false,bb,jE past]
 refine ag ?_
 first|refine ag (cr hit.typeIs (ar ?_))|refine ag (cP hit.typeIs (ar ?_))
 show aY _ _ (setField (.ref it) 0 .none >>= λ_=>newExc (.type "StopIteration") [] >>= _) _ _ s
 refine ag (kG ei di (by simp) (ag ?_))
 refine ag (cG (ag (wpAny_of_eq (by first|rfl|(simp only[kC];rfl)) (cG ?_ (by size_fits)))) (by size_fits))
 refine ag (wpAny_handled ?_)
 rw[hh]
 exact ag (ar (wpAny_throw (hE _ _ (((bI ..).extBut.push _).push _) ⟨_,aK _ rfl,rfl⟩)))
def Ip{k:κ}{v:am}{Q:am->av->Prop}(hit:s.heap.IsKeyIter it d i kvs.length ep)(hm:s.heap.DictAt knd d kvs ep)(hx:kvs[i]?=some (k,v))(hQ:∀key h',knd.is k key=true->h'.IsKeyIter it d (i+1) kvs.length ep->bP it s.heap h'->Q key {s with heap:=h'}):aY (model prog w) A (c_ (.ref it)) Q E s:=
 aa0 (jH hit hm hx λkey h' a b c=>⟨key,rfl,hQ key h' a b c⟩)
def bd5(hh:A.handled=none)(ne:d≠it):Draws prog w A it [it,d] kvs.length (λi v=>∃k x,kvs[i]?=some (k,x)/\knd.is k v=true) (λi h=>h.IsKeyIter it d i kvs.length ep/\h.DictAt knd d kvs ep) where
 live:=λ_ _ h=>let⟨o,e,_⟩:=h.1;⟨o,e⟩
 frame:=λ_ _ _ h k=>⟨h.1.at λo q=>k it (by simp) o q,h.2.at' λo q=>k d (by simp) o q⟩
 item:=λi s Q E hi h hQ=>Ip h.1 h.2 (ak hi) λkey h' a b c=>hQ key h' s.toks ⟨_,_,ak hi,a⟩ ⟨b,h.2.at' λo q=>c.extBut d o ne q⟩ c
 done:=λs Q E h hE=>Fa hh h.1 h.2 (dq (af _)) hE
def Ja{e:Addr}{old:am}{Q:Option am->av->Prop}(hh:A.handled=none)(he:IsEnum s.heap e it i old)(hit:s.heap.IsKeyIter it d i kvs.length ep)(hm:s.heap.DictAt knd d kvs ep)(hx:kvs[i]?=none)(hQ:∀h',lS it s.heap h'->Q none {s with heap:=h'}):aY (model prog w) A (l_ (.ref e)) Q E s:=by
 have ty:s.TypeIs (.ref e) "enumerate" := ⟨_,he,rfl⟩
 refine ag (jw (cF ty jJ (cq jJ ty F.entry_enumerate_next ?_ (F.args_enumerate_next_1 _))))
 show aY _ _ (field (.ref e) 2 >>= λz=>c_ z >>= _) _ _ _
 exact ag (kX he rfl (x:=.ref it) rfl (ag (Fa hh hit hm hx λh' x hk ⟨o,ho,hc⟩=>(ag (jD (T := "StopIteration") (b:=true) ⟨o,ho,hc⟩ isSubtype_stop (ar (hQ _ hk)))))))
def Uh{Q:am->av->Prop}(hd:(d==c8)=false)(hm:s.heap.DictAt knd d kvs ep)(h:∀h',IsEnum h' (s.heap.objs.size+1) s.heap.objs.size 0 .none->h'.IsKeyIter s.heap.objs.size d 0 kvs.length ep->(∀b o,s.heap.get? b=some o->h'.get? b=some o)->Q (.ref (s.heap.objs.size+1)) {s with heap:=h'}) :
  aY (model prog w) A (call (.type "enumerate") [.ref d]) Q E s:=by
 have g:MeetsIn prog w (aX.«enumerate.__new__» ⟨[.type "enumerate", .ref d],[]⟩) (λ_ R s=>s.heap.DictAt knd d kvs ep /\
   R (.ok (.ret (.ref (s.heap.objs.size+1)))) {s with heap:=(s.heap.push {cls:=.type "dict_keyiterator", data:=.fields #[.ref d,.int 0 0,.int kvs.length 0,.int ep 0]}).push {cls:=.type "enumerate", data:=.fields #[.none,.bool false,.ref s.heap.objs.size,hO 0,.none,.none]}}):=by
  refine .of_wp λA R s h=>?_
  obtain⟨hp,g,d',tk,os⟩:=s
  obtain⟨hm,h⟩:=h
  have hsub:=sub_enumerate
  obtain⟨o,es,ho,hcl,hdat,q⟩:=id hm
  have hz:(hp.push {cls:=.type "dict_keyiterator", data:=.fields #[.ref d,.int 0 0,.int kvs.length 0,.int ep 0]}).objs.size=hp.objs.size+1:=d6 ..
  wp_walk using fV hd hm
  refine wpAny_stack_any λst=>ar ?_
  have h2:R (.ok (.ret (.ref (hp.push {cls:=.type "dict_keyiterator", data:=.fields #[.ref d,.int 0 0,.int kvs.length 0,.int ep 0]}).objs.size))) ⟨(hp.push {cls:=.type "dict_keyiterator", data:=.fields #[.ref d,.int 0 0,.int kvs.length 0,.int ep 0]}).push {cls:=.type "enumerate", data:=.fields #[.none,.bool false,.ref hp.objs.size,hO 0,.none,.none]},g,d',tk,os⟩:=by rw[hz];exact h
  split
  .rename_i c _ _ _ _ _
   cases(c==ja "enumerate")
   .wp_walk using fV hd hm
    exact⟨_,rfl,h2⟩
   .wp_walk using fV hd hm
    exact⟨_,rfl,h2⟩
  .wp_walk using fV hd hm
   exact⟨_,rfl,h2⟩
 refine callType_newIn F.called_enumerate (by decide) (F.typeCall_enumerate_1 _) (F.newCall_enumerate_1 _) (λobj=>F.args_object_init_2 obj _) F.entry_enumerate_new g ⟨hm,?_⟩
 have hz:(s.heap.push {cls:=.type "dict_keyiterator", data:=.fields #[.ref d,.int 0 0,.int kvs.length 0,.int ep 0]}).objs.size=s.heap.objs.size+1:=d6 ..
 have he:IsEnum ((s.heap.push {cls:=.type "dict_keyiterator", data:=.fields #[.ref d,.int 0 0,.int kvs.length 0,.int ep 0]}).push {cls:=.type "enumerate", data:=.fields #[.none,.bool false,.ref s.heap.objs.size,hO 0,.none,.none]}) (s.heap.objs.size+1) s.heap.objs.size 0 .none:=hz▸aK _ rfl
 exact⟨⟨_,he,rfl⟩,h _ he ⟨_,ai _ (aK _ rfl),rfl,rfl⟩ λb o x=>ai _ (ai _ x)⟩
end
end PySem
namespace L2
open PySem PySem.Spec PyProof.Rows
def ax9(p:Addr)(o:Obj)(kvs:List (Key×V)):It:=
  ⟨λi H=>H p=some (.frz o (.dK kvs))/\i<kvs.length,
   λi H x H'=>∃T k v,H T=none/\x=.ref T/\kvs[i]?=some (k,v)/\H'=upd H T (.tup [.int i,kV k]),
   λi H=>H p=some (.frz o (.dK kvs))/\kvs.length<=i⟩
def Wv{P:a_}{w:bB}{K:ac}{elts:List Expr}{kt:Nat}{pt:Pos}{e it p:Addr}{o:Obj}{kvs:List (Key×V)}{ep:Nat}(ne:e≠it)(he:Ze o ep) :
  Kv P w K (.Tuple elts kt pt) (ax9 p o kvs) [e,it] e (λi h=>(∃old,IsEnum h e it (i:Int) old)/\h.IsKeyIter it p i kvs.length ep) where
 mem:=by simp
 obj:=λi h st b hb=>by
  obtain⟨⟨old,he⟩,⟨o1,e1,c1,d1⟩⟩:=st
  rcases List.mem_cons.mp hb with rfl|hb
  .exact⟨_,he,λv q=>nomatch q⟩
  .rw[List.mem_singleton.mp hb];exact⟨o1,e1,λv q=>by rw[d1] at q;cases q⟩
 keep:=λi h h' st k=>let⟨⟨old,he⟩,h1⟩:=st;⟨⟨old,k e (by simp) _ he⟩,h1.at λo q=>k it (by simp) o q⟩
 item:=by
  intro X hP hw hK hc i ξ s σ H E I hf st hg
  subst hP hw hK
  obtain⟨hH,hi⟩:=hg
  obtain⟨vs,rel,hd,hm⟩:=I.kdict hH he
  obtain⟨⟨k,v⟩,hx⟩:∃q,kvs[i]?=some q:=⟨kvs[i],by simp[hi]⟩
  obtain⟨u,hu,_⟩:=al1 rel hx
  have hl:=rel.length
  obtain⟨⟨old,en⟩,h1⟩:=st
  rw[hl] at h1
  have np:=Ai hH (hf e (by simp)).1
  have ni:=Ai hH (hf it (by simp)).1
  refine bA (af _) (wpAny_pyNext_enum_itemD (bd5 (by simp[I.ok.hd hc]) ni) en ⟨h1,hd⟩ (by omega) ne (by simp[ne,np.symm]) λkey h' tk ⟨k',x',hx',hk⟩ a1 ⟨a2,_⟩ a3 _ hk' htk=>?_)
  rw[hu] at hx'
  cases hx'
  refine⟨_,rfl,iF a1 λh'' hz' hs'=>?_⟩
  have hT:=I.hok.fresh (af s.heap.objs.size)
  have nT:∀{b ob},s.heap.get? b=some ob->b≠s.heap.objs.size:=λq=>aQ (aO q)
  have up:∀b ob,b∉[e,it]->s.heap.get? b=some ob->h''.get? b=some ob:=λb ob hb q=>by
   have b1:b≠e:=by rintro rfl;exact hb (by simp)
   have b2:b≠it:=by rintro rfl;exact hb (by simp)
   exact hs'.extBut b ob b1 (hk' b ob b1 b2 q)
  have Tnew:=hs'.extBut _ _ (cj (nT en)) a3
  have I1:Inv X ξ σ (upd H s.heap.objs.size (.tup [.int i,kV k])) {s with heap:=h'',toks:=tk+1}:=
   I.turnedN (λb hb=>hf b hb) up (af _) ⟨by show 2<=sizeLine;decide,[.int i tk,key],.cons ⟨_,rfl⟩ (.cons (ak9 hk) .nil),⟨_,Tnew,rfl,_,rfl⟩⟩
  refine⟨.ref s.heap.objs.size,_,I1,rfl,⟨s.heap.objs.size,k,v,hT,rfl,hx,rfl⟩,⟨⟨_,hz'⟩,by rw[hl];exact a2.at λo q=>hs'.extBut _ o (cj ne) q⟩,λb hb=>?_⟩
  have q:=(hf b hb).1
  rw[Ad ?_]
  .exact q
  .rcases List.mem_cons.mp hb with rfl|hb
   .exact nT en
   .rw[List.mem_singleton.mp hb];obtain⟨_,q,_⟩:=h1;exact nT q
 done:=by
  intro X hP hw hK hc i ξ s σ H E I hf st hg
  subst hP hw hK
  obtain⟨hH,hi⟩:=hg
  obtain⟨vs,rel,hd,hm⟩:=I.kdict hH he
  have hl:=rel.length
  obtain⟨⟨old,en⟩,h1⟩:=st
  rw[hl] at h1
  refine Ja (I.ok.hd hc) en h1 hd (by simp;omega) λh' hk=>⟨rfl,?_⟩
  refine I.turnedL (λb hb=>hf b hb) λb o hb q=>hk b o (by rintro rfl;exact hb (by simp)) q
 self:=λA i s Q E st h=>let⟨_,he⟩:=st.1;gZ he h
def aj3{X:Cx}{elts:List Expr}{kt:Nat}{pt:Pos}{ξ:List (Addr×Obj)}{σ:St}{H:Hp}{s:av}{R:It->Hp->Prop}{E:am->av->Prop}{p:Addr}{o:Obj}{kvs:List (Key×V)}(I:Inv X ξ σ H s)(h:H p=some (.frz o (.dK kvs)))(q:R (ax9 p o kvs) H):aY (model X.prog X.w) X.A (call (.type "enumerate") [.ref p]) (λv s1=>aY (model X.prog X.w) X.A (l9 v) (PIE X ξ σ (.Tuple elts kt pt) R) E s1) E s:=by
 have he:∃ep,Ze o ep:=by
  obtain⟨e1,z,y,vs,r,ob,es,ep,e,c,d,_⟩:=I.hok p _ h
  rw[e1] at e;cases e
  exact⟨ep,es,d⟩
 obtain⟨ep,he⟩:=he
 obtain⟨vs,rel,hd,hm⟩:=I.kdict h he
 refine Uh hm hd λh' en hit hk=>gZ en ?_
 refine⟨_,_,_,_,H,rfl,I.kept hk,Wv (Nat.succ_ne_self _) he,⟨⟨_,en⟩,by rw[rel.length];exact hit⟩,λb hb=>?_,q⟩
 have hb:b=s.heap.objs.size+1\/b=s.heap.objs.size:=by simpa using hb
 have le:=hb.elim (λe=>e▸bn _ 1) λe=>e▸af _
 exact I.fpOk le (I.hok.fresh le)
end L2
namespace PySem
open PyProof.Rows
section
variable {κ:Type} [DecidableEq κ]
def Ff(xs:List κ):List κ:=xs.foldl (λσ k=>if σ.any (λj=>decide (j=k)) then σ else σ++[k]) []
def N8(xs:List κ)(k:κ):Ff (xs++[k])=if(Ff xs).any (λj=>decide (j=k)) then Ff xs else Ff xs++[k]:=by
 unfold Ff
 rw[fQ]
 rfl
def al7(xs:List κ)(k j:κ):(Ff (xs++[k])).any (λi=>decide (i=j))=((Ff xs).any (λi=>decide (i=j))||decide (j=k)):=by
 rw[N8]
 by_cases h:(Ff xs).any (λi=>decide (i=k))=true
 .rw[if_pos h]
  by_cases e:j=k
  .subst e;rw[h];rfl
  .simp[e]
 .rw[if_neg h,List.any_append]
  congr 1
  simp[eq_comm]
def Sh(xs:List κ):(Ff xs).length<=xs.length:=by
 have:∀(ys acc:List κ),(ys.foldl (λσ k=>if σ.any (λj=>decide (j=k)) then σ else σ++[k]) acc).length<=acc.length+ys.length:=by
  intro ys
  induction ys with
  |nil=>intro acc;exact af _
  |cons y ys ih=>
   intro acc
   refine aT (ih _) ?_
   rw[aP]
   dsimp only
   split
   .omega
   .rw[aG,bW];omega
 exact aT (this xs []) (by simp)
end
section
variable {prog:a_}{w:bB}{A:bv}{R:Result->av->Prop}{I:Addr}{fp wr:List Addr}{G:Array mh->Array mh->Prop}{P:Nat->am->Prop}{St:Nat->av->Prop}{κ:Type} [DecidableEq κ] {knd:KeyKind prog w κ}{ks:List κ}
abbrev Gb(knd:KeyKind prog w κ)(h:Heap)(S:Addr)(ks:List κ):Prop:=h.SetOf knd S (λk=>(Ff ks).any (λj=>decide (j=k))) (Ff ks).length
def Nv{h h':Heap}{S:Addr}(x:Gb knd h S ks)(k:∀o,h.get? S=some o->h'.get? S=some o):Gb knd h' S ks:=
 let⟨o,es,ep,t,ho,r⟩:=x;⟨o,es,ep,t,k o ho,r⟩
def Tl(W:WalksS prog w A.in1 I fp wr G ks.length P St)(S:Addr)(out:S∉fp)(hv:∀i v,P i v -> ∃k,ks[i]?=some k/\knd.is k v=true/\v.scannable=true)(few:ks.length+1<scanBound)(left:Nat) :
  ∀i s,i+left=ks.length->St i s->Gb knd s.heap S (ks.take i)->(∀s',Moved (S::wr) G s s'->Gb knd s'.heap S ks->R (.ok (.ret .none)) s') ->
   jX (model prog w) A (.builtin "set.update.loop" ⟨[.ref S,.ref I],[]⟩) R s:=by
 have outw:S∉wr:=λz=>out (W.sub _ z)
 have into:∀b∈wr,b∈S::wr:=λb z=>.tail _ z
 induction left with
 |zero=>
  intro i s hi st fl hR
  have ei:=hi
  subst ei
  rw[aI] at fl
  refine dy jh (fY gw _ ▸ ?_)
  exact ag (W.done s _ _ st λs' mv=>ar (hR s' (mv.mono into) (Nv fl λo e=>mv.heap S o outw e)))
 |succ left ih=>
  intro i s hi st fl hR
  have lt:i<ks.length:=by omega
  refine dy jh (fY gw _ ▸ ?_)
  refine ag (W.item i s _ _ lt st λv s1 pv st1 mv=>?_)
  obtain⟨k,ek,ik,sk⟩:=hv i v pv
  have fl1:=Nv fl λo e=>mv.heap S o outw e
  have tk:ks.take (i+1)=ks.take i++[k]:=by rw[List.take_succ,ek];rfl
  refine ag (bz ?_)
  refine bz (ag (knd.pyHash ik ?_))
  have room:(Ff (ks.take i)).length+1<scanBound:=by
   have:=Sh (ks.take i)
   rw[aF] at this
   omega
  refine wpAny_setAddHashed_of ik sk fl1 room λh' sb fl2=>?_
  have fl3:Gb knd h' S (ks.take (i+1)):=by
   have eS:=funext λj=>(al7 (ks.take i) k j).symm
   have en:(if(Ff (ks.take i)).any (λm=>decide (m=k))=true then(Ff (ks.take i)).length else(Ff (ks.take i)).length+1)=(Ff (ks.take i++[k])).length:=by
    rw[N8];split <;> simp
   rw[tk]
   show h'.SetOf knd S _ _
   rw[<- eS,<- en]
   exact fl2
  refine ar ⟨lx gw _,ih (i+1) _ (by omega) (W.frame _ s1 _ _ st1 (fe _) λb hb o e=>?_) fl3 λs2 mv2 fl4=>?_⟩
  .exact (sb.2 b λz=>out (z▸hb)).trans e
  .exact hR s2 (Moved.trans W.gtrans ((mv.mono into).then_heap (fe _) λb o hb e=>(sb.2 b λz=>hb (z▸aD)).trans e) mv2) fl4
end
section
variable {prog:a_}{w:bB}{A:bv}{E:am->av->Prop}{s:av}{κ:Type} [DecidableEq κ] {knd:KeyKind prog w κ}{ks:List κ}
abbrev Da(led:Bool):Obj:={cls:=.type "set", dict:=none,data:=.set #[] 0 (.fresh 0 0 led)}
def Tm{l:Addr}{ψ:Array am}{Q:am->av->Prop}(hh:A.handled=none)(hl:s.heap.IsList l ψ)(hv:∀(i:Nat)(v:am),ψ[i]?=some v -> ∃k,ks[i]?=some k/\knd.is k v=true/\v.scannable=true)(hs:ψ.size=ks.length)(few:ks.length+1<scanBound)(h:∀(h':Heap)(tk:Nat),Gb knd h' s.heap.objs.size ks->(∀b o,b<s.heap.objs.size->s.heap.get? b=some o->h'.get? b=some o)->Q (.ref s.heap.objs.size) {s with heap:=h',toks:=tk}) :
  aY (model prog w) A (call (.type "set") [.ref l]) Q E s:=by
 obtain⟨c,tl,hmro⟩:=F.called_set.mro
 have m1:=F.called_set.made
 have m2:=F.called_set.sub
 have m3:=F.called_set.notType
 have m4:=F.called_set.canCreate
 have m5:=F.typeCall_set_1 (.ref l)
 refine jc (codeAny_of_tree (ar ⟨iI _ (by decide +kernel),dy F.entry_type_call ?_⟩))
 rw[Around.under_plain (weight_type_call_type "set" [.ref l] []) rfl]
 repeat (any_goals (first|assumption|wp_step))
 refine fO (code_set_new_1 (.ref l) (E:=E) (Q₁:=λobj s₁=>∃led:Bool,obj=.ref s.heap.objs.size/\s₁={s with heap:=s.heap.push (Da led)}) λled=>⟨led,rfl,rfl⟩) λr s₁ hr=>?_
 cases r with
 |error e=>exact hr
 |ok fl=>
  cases fl with
  |ret obj=>
   obtain⟨led,rfl,rfl⟩:=hr
   have new:(s.heap.push (Da led)).get? s.heap.objs.size=some (Da led):=aK _ rfl
   have ty:Shared.TypeIs {s with heap:=s.heap.push (Da led)} (.ref s.heap.objs.size) "set" := ⟨_,new,rfl⟩
   have m6:=F.called_set.init.lookup
   have m7:=F.called_set.init.bind (.ref s.heap.objs.size)
   repeat (any_goals (first|assumption|wp_step))
   refine fO (codeAny_call_builtin (R:=wants (λr s₂=>r=.none/\∃h' tk,s₂={s with heap:=h',toks:=tk}/\Gb knd h' s.heap.objs.size ks/\(∀b o,b<s.heap.objs.size->s.heap.get? b=some o->h'.get? b=some o)) E) F.called_set.init.plain F.entry_set_init (check_set_init_1 ty ?_)) λr2 s2 hr2=>?_
   .obtain⟨⟨oc,odict,od,osl⟩,ol,hc,n,hd⟩:=hl
    subst hc;subst hd
    have lt:=aO ol
    have ol2:(s.heap.push (Da led)).get? l=some {cls:=.type "list", dict:=odict,data:=.seq ψ n,slots:=osl}:=ai _ ol
    have m8:=F.sub_list_set
    have m9:=F.sub_list_frozenset
    have m10:(ja "list" == ja "dict")=false:=by decide
    have isl:(s.heap.push (Da led)).IsList l ψ:=⟨_,ol2,rfl,n,rfl⟩
    have size:(s.heap.push (Da led)).objs.size=s.heap.objs.size+1:=d6 ..
    unfold aX.«set.__init__» noKeywords Builtin.Frozenset.updateFrom
    generalize hPI:l9=PI
    wp_walk
    subst hPI
    refine jd isl (ag (kE ?_))
    have quiet:A.in1.in1.in1.handled=none:=by simp[hh]
    have ne1:l≠(s.heap.push (Da led)).objs.size:=size▸aQ (gU lt)
    have out:s.heap.objs.size∉[(s.heap.push (Da led)).objs.size,l]:=by
     simp only[size,aB,cf,or_false,not_or]
     exact⟨aQ (dB _),eV lt⟩
    have W:=(Walks.list (prog:=prog) (w:=w) quiet (s.heap.push (Da led)).objs.size l ne1 ψ).toS
    rw[hs] at W
    refine Tl (ks:=ks) W s.heap.objs.size out hv few ks.length 0 _ (du _) ⟨⟨_,aK _ rfl,rfl,rfl⟩,isl.push _⟩ ?_ λs' mv fl=>?_
    .exact (setObjOf_fresh (knd:=knd) led).setOf (ai _ new) (by unfold scanBound;omega)
    .obtain⟨h',g',d',tk',os'⟩:=s'
     have e1:g'=s.gens:=mv.gens
     have e2:d'=s.drawn:=mv.drawn
     have e3:os'=s.os:=mv.os
     subst e1;subst e2;subst e3
     refine(show aY _ _ _ _ _ _ from ar (show aY _ _ (ret bT) _ _ _ from ar ⟨rfl,h',tk',rfl,fl,λb o hb e=>?_⟩))
     refine mv.heap b o ?_ (ai _ (ai _ e))
     simp only[size,aB,cf,or_false,not_or]
     exact⟨aQ hb,aQ (gU hb)⟩
   .cases r2 with
    |error e=>exact hr2
    |ok f2=>
     cases f2 with
     |ret r=>
      obtain⟨rfl,h',tk,rfl,fl,kept⟩:=hr2
      repeat (any_goals (first|assumption|wp_step))
      exact h _ _ fl kept
     |_=>exact hr2.elim
  |_=>exact hr.elim
end
end PySem
namespace L2
open PySem PySem.Spec PyProof.Rows
section
variable {X:Cx}{e:Expr}{de:DE}{p p2 pos pos2:Pos}
def Ko(K:ac):V->Hp->VK->Prop:=λx H Q=>match x with
 |.ref l=>∃ys,SqL K H l (ys.map V.str)/\ys.length<30/\Q (.int (Ff ys).length) H
 |_=>False
theorem Y3:∀{ys:List Str}{us:List am}{i:Nat}{v:am},Vals (ys.map V.str) us->us[i]?=some v -> ∃k t,ys[i]?=some k/\v=.str k t
 |[],_,i,v,r,e=>by rw[eU] at r;cases r;simp at e
 | y::ys,_,i,v,r,e=>by
  rw[a7] at r
  cases r with
  |cons r1 r2=>
   obtain⟨t,rfl⟩:=r1
   cases i with
   |zero=>simp only[eZ,gW] at e;exact⟨y,t,rfl,e.symm⟩
   |succ i=>simp only[bN] at e ⊢;exact Y3 r2 e
def a01{ξ:List (Addr×Obj)}{σ:St}{H:Hp}{s:av}{x:V}{u:am}{Q:VK}(hc:X.calm=true)(I:Inv X ξ σ H s)(rx:RelV x u)(h:Ko X.K x H Q) :
  aY (model X.prog X.w) X.A (call (.type "set") [u]) (λv s1=>aY (model X.prog X.w) X.A (call (.builtin "len") [v]) (EP X ξ σ Q) X.xe s1) X.xe s:=by
 cases x with
 |ref l=>
  cases rx
  obtain⟨ys,hq,few,q⟩:=h
  obtain⟨χ,rv,pl,hz⟩:=I.list hq
  have hl:χ.length=ys.length:=by rw[<- rv.length,ae]
  refine bA (af _) (Tm (knd:=PySem.strKind X.prog X.w) (I.ok.hd hc) pl.isList (λi v e=>?_) (hl) (by unfold scanBound;omega) λh' tk fl kept htk=>?_)
  .obtain⟨k,t,ek,rfl⟩:=Y3 rv (by simpa using e)
   exact⟨k,ek,by show jp k (.str k t)=true;simp[jp],rfl⟩
  .have I1:=I.kept (t':=tk) λb o e=>kept b o (aO e) e
   obtain⟨o,es,ep,t,ho,hex,hd,hel,hmem,hb,hf,hn⟩:=fl
   refine call_len_set ho hex hd hf ?_ ?_
   .have:=Sh ys
    rw[hn];omega
   .rw[hn]
    exact⟨.int _,H,I1.tok _,⟨_,rfl⟩,q⟩
 |_=>exact(h).elim
end
section
variable {X:Cx}
def a95(K:ac):R2:=λx y H Q=>∃a b ys,x=.ref a/\y=.ref b/\SqT K H a []/\SqT K H b ys/\Q (.ref b) H
def a15:OpR X (dL .Add) (a95 X.K):=by
 intro ξ s σ H x y v u Q I rx ry h
 obtain⟨a,b,ys,rfl,rfl,ha,hb,q⟩:=h
 cases rx
 cases ry
 obtain⟨χ,r1,p1,_⟩:=I.tuple ha
 obtain⟨its2,r2,p2,_⟩:=I.tuple hb
 cases r1
 obtain⟨⟨c1,d1,da1,s1⟩,ho,hc,n,hd⟩:=p1
 obtain⟨⟨c2,d2,da2,s2⟩,ho2,hc2,n2,hd2⟩:=p2
 subst hc hd hc2 hd2
 exact lN ⟨_,ho,rfl⟩ ⟨_,ho2,rfl⟩ jA ly gQ gI (gu _ _)
   (tuple_addW0 a b _ _ n n2 d1 d2 s1 s2 rfl) ⟨ho,ho2,⟨.ref b,H,I,rfl,q⟩⟩
def Hi(hu:X.A.units+64<cLine):IxR X (λx y H Q=>∃a v,x=.ref a/\DGet H a y (some v)/\Q v H):=by
 intro value slice ξ s σ H x y v u Q I rx ry h hs
 obtain⟨a,w',rfl,g,q⟩:=h
 cases rx
 exact tail_any (Ru I g) PySem.F.slot_dict_getitem.lookup (Zo (by omega) I g ry λw1 s' I' r'=>⟨w',H,I',r',q⟩) hs
end
section
variable {X:Cx}{ξ:List (Addr×Obj)}{σ:St}{H:Hp}{s:av}{Q:VK}
theorem Zb:∀{ys}{us:List am},ys.length=us.length->(∀(i:Nat) y u,ys[i]?=some y->us[i]?=some u->RelV y u)->Vals ys us
 |[],[],_,_=>.nil
 |y::ys,u::us,hl,h=>.cons (h 0 y u rfl rfl) (Zb (by simpa using hl) λi y u e1 e2=>h (i+1) y u (by rw[bN];exact e1) (by rw[bN];exact e2))
 |[],_::_,hl,_=>by simp at hl
 |_::_,[],hl,_=>by simp at hl
def Ls:V->Hp->VK->Prop:=λx H Q=>match x with
 |.int n=>n<=1000 /\ -(2^62)<=n/\∀D,H D=none->Q (.ref D) (upd H D (.lst ((aV n.toNat).map λi:Nat=>V.int (i:Int))))
 |_=>False
def al3{n:Int}{t:Tok}(hc:X.calm=true)(I:Inv X ξ σ H s)(hn:n<=1000)(h0:-(2^62)<=n)(q:∀D,H D=none->Q (.ref D) (upd H D (.lst ((aV n.toNat).map λi:Nat=>V.int (i:Int))))) :
  aY (model X.prog X.w) X.A (call (.type "range") [.int n t]) (λv s1=>aY (model X.prog X.w) X.A (call (.type "list") [v]) (EP X ξ σ Q) X.xe s1) X.xe s:=by
 refine call_range_1 ?_
 have zv:(s.heap.push {cls:=.type "range", data:=.fields #[.int 0 s.toks,.int n t,.int 1 (s.toks+1)]}).objs.size=s.heap.objs.size+1:=d6 ..
 have hr:IsRange (s.heap.push {cls:=.type "range", data:=.fields #[.int 0 s.toks,.int n t,.int 1 (s.toks+1)]}) s.heap.objs.size 0 n 1 s.toks t (s.toks+1):=IsRange.new ..
 have on1:∀b o,s.heap.get? b=some o->(s.heap.push {cls:=.type "range", data:=.fields #[.int 0 s.toks,.int n t,.int 1 (s.toks+1)]}).get? b=some o:=λb o q=>ai _ q
 generalize s.heap.push {cls:=.type "range", data:=.fields #[.int 0 s.toks,.int n t,.int 1 (s.toks+1)]}=h1 at zv hr on1 ⊢
 refine bA (show s.toks<=s.toks+1+1 by omega) (call_list_range (I.ok.hd hc) hr (small_one (by omega) (by omega) (by omega) (by omega)) (rangeSize_nat _ _) (by omega) λh' tk acc c k e it htk=>?_)
 rw[zv] at e ⊢
 rw[Int.sub_zero] at it
 refine⟨.ref (s.heap.objs.size+1),_,I.laid (λb o q=>k b o (on1 b o q)) (fe _) (show ObjOk X.prog X.w _ h' _ (.lst ((aV n.toNat).map λi:Nat=>V.int (i:Int))) from⟨?_,acc.toList,c,Zb ?_ λi y u e1 e2=>?_,by simpa using e⟩),rfl,q _ (I.hok.fresh (fe _))⟩
 .rw[ae,bg]
  exact aT (show n.toNat<=1000 by omega) (by decide)
 .rw[ae,bg,cb,it.1]
 .rw[cA] at e2
  obtain⟨tt,ev⟩:=it.2 i u e2
  have hi:i<n.toNat:=by
   have:=(Array.getElem?_eq_some_iff.mp e2).1
   rw[it.1] at this
   exact this
  rw[ao,e_ hi] at e1
  cases e1
  exact⟨tt,by rw[ev];congr 1;omega⟩
end
inductive Dt where
 |at_ (v:V)
 |lst (l:List Dt)
 |tup (l:List Dt)
mutual
def deq:Dt->Dt->Bool
 |.at_ v,.at_ w=>eqV v w
 |.lst xs,.lst ys=>Fe xs ys
 |.tup xs,.tup ys=>Fe xs ys
 |_,_=>false
def Fe:List Dt->List Dt->Bool
 |[],[]=>true
 |x::xs,y::ys=>deq x y&&Fe xs ys
 |_,_=>false
end
mutual
def dep:Dt->Nat
 |.at_ _=>0
 |.lst l=>Ge l+1
 |.tup l=>Ge l+1
def Ge:List Dt->Nat
 |[]=>0
 |x::xs=>Nat.max (dep x) (Ge xs)
end
mutual
def At(K:ac)(H:Hp):Dt->V->Prop
 |.at_ v,x=>x=v/\B7 v=true
 |.lst ds,x=>∃a xs,x=.ref a/\SqL K H a xs/\AtL K H ds xs
 |.tup ds,x=>∃a xs,x=.ref a/\SqT K H a xs/\AtL K H ds xs
def AtL(K:ac)(H:Hp):List Dt->List V->Prop
 |[],xs=>xs=[]
 |d::ds,xs=>∃y ys,xs=y::ys/\At K H d y/\AtL K H ds ys
end
theorem AtL.length{K:ac}{H:Hp}:∀{ds:List Dt}{xs:List V},AtL K H ds xs->xs.length=ds.length
 |[],xs,h=>by unfold AtL at h;subst h;rfl
 | d::ds,xs,h=>by
  unfold AtL at h
  obtain⟨y,ys,rfl,_,h2⟩:=h
  rw[aP,aP,AtL.length h2]
def aj5{v:V}(h:B7 v=true):eqV v v=true:=by
 cases v <;> first|rfl|(exact beq_self_eq_true _)|exact absurd (show false=true from h) aM
mutual
theorem K4{K:ac}{H:Hp}:∀{d:Dt}{x:V},At K H d x->deq d d=true
 |.at_ v,x,h=>by unfold At at h;unfold deq;exact aj5 h.2
 |.lst l,x,h=>by unfold At at h;obtain⟨a,xs,_,_,h⟩:=h;unfold deq;exact Ii h
 |.tup l,x,h=>by unfold At at h;obtain⟨a,xs,_,_,h⟩:=h;unfold deq;exact Ii h
theorem Ii{K:ac}{H:Hp}:∀{ds:List Dt}{xs:List V},AtL K H ds xs->Fe ds ds=true
 |[],xs,h=>by unfold Fe;rfl
 | d::ds,xs,h=>by
  unfold AtL at h
  obtain⟨y,ys,rfl,h1,h2⟩:=h
  unfold Fe
  rw[K4 h1,Ii h2]
  rfl
end
theorem Fh:∀{xs ys:List Dt},xs.length≠ys.length->Fe xs ys=false
 |[],[],h=>absurd rfl h
 |[],_::_,_=>by unfold Fe;rfl
 |_::_,[],_=>by unfold Fe;rfl
 | x::xs,y::ys,h=>by
  unfold Fe
  rw[Fh (xs:=xs) (ys:=ys) (λe=>h (by rw[aP,aP,e])),g4]
theorem Dx(z:Dt):∀{xs ys:List Dt},xs.length=ys.length->Fe xs ys=(aV xs.length).all λj=>deq (xs.getD j z) (ys.getD j z)
 |[],[],_=>by unfold Fe;rfl
 |[],_::_,h=>by simp at h
 |_::_,[],h=>by simp at h
 | x::xs,y::ys,h=>by
  unfold Fe
  rw[aP,List.range_succ_eq_map,bV,gn,Dx z (xs:=xs) (ys:=ys) (by simpa using h)]
  rfl
section
variable {X:Cx}{ξ:List (Addr×Obj)}{σ:St}{H:Hp}{s:av}
def Su{a:Addr}{xs ys:List V}(I:Inv X ξ σ H s)(h:SqL X.K H a xs)(h':SqT X.K H a ys):False:=by
 obtain⟨χ,r,⟨o,n,e,c,_,d⟩,_⟩:=I.list h
 obtain⟨its',r',⟨o',e',c',n',d'⟩,_⟩:=I.tuple h'
 rw[e] at e';cases e'
 rw[c] at c'
 injection c' with c'
 exact absurd c' (by decide)
mutual
theorem Ub(I:Inv X ξ σ H s):∀{d d':Dt}{x:V},At X.K H d x->At X.K H d' x->d=d'
 |.at_ v,.at_ w,x,h,h'=>by unfold At at h h';rw[<- h.1,<- h'.1]
 | .at_ v,.lst l,x,h,h'=>by
  unfold At at h h'
  obtain⟨a,xs,rfl,_⟩:=h'
  rw[<- h.1] at h
  exact absurd (show false=true from h.2) aM
 | .at_ v,.tup l,x,h,h'=>by
  unfold At at h h'
  obtain⟨a,xs,rfl,_⟩:=h'
  rw[<- h.1] at h
  exact absurd (show false=true from h.2) aM
 | .lst l,.at_ v,x,h,h'=>by
  unfold At at h h'
  obtain⟨a,xs,rfl,_⟩:=h
  rw[<- h'.1] at h'
  exact absurd (show false=true from h'.2) aM
 | .tup l,.at_ v,x,h,h'=>by
  unfold At at h h'
  obtain⟨a,xs,rfl,_⟩:=h
  rw[<- h'.1] at h'
  exact absurd (show false=true from h'.2) aM
 | .lst l,.lst l',x,h,h'=>by
  unfold At at h h'
  obtain⟨a,xs,rfl,q,h⟩:=h
  obtain⟨a',xs',e,q',h'⟩:=h'
  cases e
  rw[I.list_inj q q'] at h
  rw[Ot I h h']
 | .tup l,.tup l',x,h,h'=>by
  unfold At at h h'
  obtain⟨a,xs,rfl,q,h⟩:=h
  obtain⟨a',xs',e,q',h'⟩:=h'
  cases e
  rw[I.tuple_inj q q'] at h
  rw[Ot I h h']
 | .lst l,.tup l',x,h,h'=>by
  unfold At at h h'
  obtain⟨a,xs,rfl,q,h⟩:=h
  obtain⟨a',xs',e,q',h'⟩:=h'
  cases e
  exact(Su I q q').elim
 | .tup l,.lst l',x,h,h'=>by
  unfold At at h h'
  obtain⟨a,xs,rfl,q,h⟩:=h
  obtain⟨a',xs',e,q',h'⟩:=h'
  cases e
  exact(Su I q' q).elim
theorem Ot(I:Inv X ξ σ H s):∀{ds ds':List Dt}{xs:List V},AtL X.K H ds xs->AtL X.K H ds' xs->ds=ds'
 |[],[],_,_,_=>rfl
 |[],_::_,_,h,h'=>by unfold AtL at h h';obtain⟨y,ys,e,_⟩:=h';rw[h] at e;cases e
 |_::_,[],_,h,h'=>by unfold AtL at h h';obtain⟨y,ys,e,_⟩:=h;rw[h'] at e;cases e
 | d::ds,d'::ds',xs,h,h'=>by
  unfold AtL at h h'
  obtain⟨y,ys,rfl,h1,h2⟩:=h
  obtain⟨y',ys',e,h1',h2'⟩:=h'
  cases e
  rw[Ub I h1 h1',Ot I h2 h2']
end
def Nx{A:bv}{v:V}{u:am}{a:Addr}{χ:Array am}(f:B7 v=true)(r:RelV v u)(hl:s.heap.IsList a χ)(hu:A.units<cLine):bx A s u (.ref a) false/\bx A s (.ref a) u false:=by
 cases v with
 |non=>cases r;exact⟨.none_list hl hu,.list_none hl hu⟩
 |bl b=>cases r;exact⟨.bool_list b hl hu,.list_bool b hl hu⟩
 |int i=>obtain⟨t,rfl⟩:=r;exact⟨.int_list i t hl hu,.list_int i t hl hu⟩
 |str i=>obtain⟨t,rfl⟩:=r;exact⟨.str_list i t hl hu,.list_str i t hl hu⟩
 |_=>exact absurd (show false=true from f) aM
def K8{A:bv}{v:V}{u:am}{a:Addr}{χ:Array am}(f:B7 v=true)(r:RelV v u)(hl:s.heap.IsTuple a χ)(hu:A.units<cLine):bx A s u (.ref a) false/\bx A s (.ref a) u false:=by
 cases v with
 |non=>cases r;exact⟨.none_tuple hl hu,.tuple_none hl hu⟩
 |bl b=>cases r;exact⟨.bool_tuple b hl hu,.tuple_bool b hl hu⟩
 |int i=>obtain⟨t,rfl⟩:=r;exact⟨.int_tuple i t hl hu,.tuple_int i t hl hu⟩
 |str i=>obtain⟨t,rfl⟩:=r;exact⟨.str_tuple i t hl hu,.tuple_str i t hl hu⟩
 |_=>exact absurd (show false=true from f) aM
mutual
theorem bd8(I:Inv X ξ σ H s):∀(d d':Dt)(A:bv)(x y:V)(u v:am),At X.K H d x->At X.K H d' y->RelV x u->RelV y v->A.units+dep d<cLine->bx A s u v (deq d d')
 | .at_ p,.at_ q,A,x,y,u,v,h,h',r,r',hu=>by
  unfold At at h h';unfold deq
  obtain⟨rfl,f⟩:=h
  obtain⟨rfl,f'⟩:=h'
  exact Pd r r' f f'
 | .at_ p,.lst l,A,x,y,u,v,h,h',r,r',hu=>by
  unfold At at h h';unfold deq
  obtain⟨rfl,f⟩:=h
  obtain⟨a,xs,rfl,q,_⟩:=h'
  obtain⟨χ,_,pl,_⟩:=I.list q
  cases r'
  exact(Nx f r pl.isList (by omega)).1
 | .at_ p,.tup l,A,x,y,u,v,h,h',r,r',hu=>by
  unfold At at h h';unfold deq
  obtain⟨rfl,f⟩:=h
  obtain⟨a,xs,rfl,q,_⟩:=h'
  obtain⟨χ,_,pl,_⟩:=I.tuple q
  cases r'
  exact(K8 f r pl (by omega)).1
 | .lst l,.at_ p,A,x,y,u,v,h,h',r,r',hu=>by
  unfold At at h h';unfold deq
  obtain⟨rfl,f⟩:=h'
  obtain⟨a,xs,rfl,q,_⟩:=h
  obtain⟨χ,_,pl,_⟩:=I.list q
  cases r
  exact(Nx f r' pl.isList (by omega)).2
 | .tup l,.at_ p,A,x,y,u,v,h,h',r,r',hu=>by
  unfold At at h h';unfold deq
  obtain⟨rfl,f⟩:=h'
  obtain⟨a,xs,rfl,q,_⟩:=h
  obtain⟨χ,_,pl,_⟩:=I.tuple q
  cases r
  exact(K8 f r' pl (by omega)).2
 | .lst l,.tup l',A,x,y,u,v,h,h',r,r',hu=>by
  unfold At at h h';unfold deq
  obtain⟨a,xs,rfl,q,_⟩:=h
  obtain⟨b,ys,rfl,q',_⟩:=h'
  obtain⟨χ,_,pl,_⟩:=I.list q
  obtain⟨its',_,pl',_⟩:=I.tuple q'
  cases r;cases r'
  exact .list_tuple pl.isList pl' (by omega)
 | .tup l,.lst l',A,x,y,u,v,h,h',r,r',hu=>by
  unfold At at h h';unfold deq
  obtain⟨a,xs,rfl,q,_⟩:=h
  obtain⟨b,ys,rfl,q',_⟩:=h'
  obtain⟨χ,_,pl,_⟩:=I.tuple q
  obtain⟨its',_,pl',_⟩:=I.list q'
  cases r;cases r'
  exact .tuple_list pl pl'.isList (by omega)
 | .lst l,.lst l',A,x,y,u,v,h,h',r,r',hu=>by
  by_cases e:x=y
  .subst e
   have:=Ub I h h'
   rw[<- this,K4 h]
   have hx:∃a,x=.ref a:=by unfold At at h;obtain⟨a,_,e,_⟩:=h;exact⟨a,e⟩
   obtain⟨a,rfl⟩:=hx
   cases r;cases r'
   exact .same _
  .unfold At at h h';unfold deq
   unfold dep at hu
   obtain⟨a,xs,rfl,q,h⟩:=h
   obtain⟨b,ys,rfl,q',h'⟩:=h'
   obtain⟨χ,ri,pl,_⟩:=I.list q
   obtain⟨its',ri',pl',_⟩:=I.list q'
   cases r;cases r'
   have ne:a≠b:=λz=>e (by rw[z])
   have e1:=h.length
   have e2:=h'.length
   have e3:=ri.length
   have e4:=ri'.length
   refine .of_refs ne ?_
   by_cases hl:l.length=l'.length
   .rw[Dx (.lst []) hl]
    have hsz:χ.toArray.size=l.length:=by simp;omega
    rw[<- hsz]
    exact .lists pl.isList pl'.isList (by simp;omega) (by omega) λj h1 h2=>by
     have:=G7 I l l' A.in1 xs ys χ its' h h' ri ri' (by show A.units+1+Ge l<cLine;omega) j (by simpa using h1) (by simpa using h2)
     simpa using this
   .rw[Fh hl]
    exact .lists_lengths pl.isList pl'.isList (by simp;omega) (by omega)
 | .tup l,.tup l',A,x,y,u,v,h,h',r,r',hu=>by
  by_cases e:x=y
  .subst e
   have:=Ub I h h'
   rw[<- this,K4 h]
   have hx:∃a,x=.ref a:=by unfold At at h;obtain⟨a,_,e,_⟩:=h;exact⟨a,e⟩
   obtain⟨a,rfl⟩:=hx
   cases r;cases r'
   exact .same _
  .unfold At at h h';unfold deq
   unfold dep at hu
   obtain⟨a,xs,rfl,q,h⟩:=h
   obtain⟨b,ys,rfl,q',h'⟩:=h'
   obtain⟨χ,ri,pl,_⟩:=I.tuple q
   obtain⟨its',ri',pl',_⟩:=I.tuple q'
   cases r;cases r'
   have ne:a≠b:=λz=>e (by rw[z])
   have e1:=h.length
   have e2:=h'.length
   have e3:=ri.length
   have e4:=ri'.length
   refine .of_refs ne ?_
   have T:=i_ (A:=A) (s:=s) (e:=λj=>deq (l.getD j (.lst [])) (l'.getD j (.lst []))) pl pl' (by omega) λj h1 h2=>by
     have:=G7 I l l' A.in1 xs ys χ its' h h' ri ri' (by show A.units+1+Ge l<cLine;omega) j (by simpa using h1) (by simpa using h2)
     simpa using this
   by_cases hl:l.length=l'.length
   .rw[Dx (.lst []) hl]
    have hsz:χ.toArray.size=l.length:=by simp;omega
    have hsz':its'.toArray.size=l.length:=by simp;omega
    rw[hsz,hsz',lL,beq_self_eq_true,hV] at T
    exact T
   .rw[Fh hl]
    have hne:(χ.toArray.size==its'.toArray.size)=false:=by
     rw[beq_eq_false_iff_ne];simp;omega
    rw[hne,g4] at T
    exact T
theorem G7(I:Inv X ξ σ H s):∀(ds ds':List Dt)(A:bv)(xs ys:List V)(us vs:List am),AtL X.K H ds xs->AtL X.K H ds' ys->Vals xs us->Vals ys vs->A.units+Ge ds<cLine ->
  ∀(j:Nat)(h1:j<us.length)(h2:j<vs.length),bx A s us[j] vs[j] (deq (ds.getD j (.lst [])) (ds'.getD j (.lst [])))
 | [],_,A,xs,ys,us,vs,h,h',r,r',hu=>λj h1 h2=>by
  unfold AtL at h
  subst h
  cases r
  cases h1
 | _::_,[],A,xs,ys,us,vs,h,h',r,r',hu=>λj h1 h2=>by
  unfold AtL at h'
  subst h'
  cases r'
  cases h2
 | d::ds,d'::ds',A,xs,ys,us,vs,h,h',r,r',hu=>λj h1 h2=>by
  unfold AtL at h h'
  obtain⟨y,ys,rfl,q1,q2⟩:=h
  obtain⟨z,zs,rfl,q1',q2'⟩:=h'
  cases r with
  |cons r1 r2=>
   cases r' with
   |cons r1' r2'=>
    unfold Ge at hu
    have m1:dep d<=Nat.max (dep d) (Ge ds):=Nat.le_max_left _ _
    have m2:Ge ds<=Nat.max (dep d) (Ge ds):=Nat.le_max_right _ _
    cases j with
    |zero=>exact bd8 I d d' A _ _ _ _ q1 q1' r1 r1' (by omega)
    |succ j=>exact G7 I ds ds' A _ _ _ _ q2 q2' r2 r2' (by omega) j (by simpa using h1) (by simpa using h2)
end
def F5{K:ac}{d:Dt}{a:Addr}(h:At K H d (.ref a)):(∃l xs,d=.lst l/\SqL K H a xs/\AtL K H l xs)\/(∃l xs,d=.tup l/\SqT K H a xs/\AtL K H l xs):=by
 cases d with
 |at_ v=>
  unfold At at h
  rw[<- h.1] at h
  exact absurd (show false=true from h.2) aM
 |lst l=>unfold At at h;obtain⟨b,xs,e,q,h⟩:=h;cases e;exact .inl ⟨l,xs,rfl,q,h⟩
 |tup l=>unfold At at h;obtain⟨b,xs,e,q,h⟩:=h;cases e;exact .inr ⟨l,xs,rfl,q,h⟩
def Ss{K:ac}{d:Dt}{x:V}(h:At K H d x)(f:∀a,x≠.ref a):d=.at_ x/\B7 x=true:=by
 cases d with
 |at_ v=>unfold At at h;rw[h.1];exact⟨rfl,h.2⟩
 |lst l=>unfold At at h;obtain⟨b,xs,e,_⟩:=h;exact absurd e (f b)
 |tup l=>unfold At at h;obtain⟨b,xs,e,_⟩:=h;exact absurd e (f b)
def b99(I:Inv X ξ σ H s){A:bv}{d d':Dt}{a b:Addr}(h:At X.K H d (.ref a))(h':At X.K H d' (.ref b))(hu:A.units+dep d<cLine):gY A s (.ref a) (.ref b) (deq d d')/\fK A s (.ref a) (.ref b) (!deq d d'):=by
 rcases F5 h with⟨l,xs,rfl,q,h⟩|⟨l,xs,rfl,q,h⟩
 .rcases F5 h' with⟨l',ys,rfl,q',h'⟩|⟨l',ys,rfl,q',h'⟩
  .unfold deq
   unfold dep at hu
   obtain⟨χ,ri,pl,_⟩:=I.list q
   obtain⟨its',ri',pl',_⟩:=I.list q'
   have e1:=h.length
   have e2:=h'.length
   have e3:=ri.length
   have e4:=ri'.length
   have it:∀j (h1:j<χ.toArray.size) (h2:j<its'.toArray.size),bx A.in1 s χ.toArray[j] its'.toArray[j] (deq (l.getD j (.lst [])) (l'.getD j (.lst []))):=λj h1 h2=>by
    have:=G7 I l l' A.in1 xs ys χ its' h h' ri ri' (by show A.units+1+Ge l<cLine;omega) j (by simpa using h1) (by simpa using h2)
    simpa using this
   by_cases hl:l.length=l'.length
   .rw[Dx (.lst []) hl]
    have hsz:χ.toArray.size=l.length:=by simp;omega
    rw[<- hsz]
    exact⟨.lists pl.isList pl'.isList (by simp;omega) (by omega) it,.lists pl.isList pl'.isList (by simp;omega) (by omega) it⟩
   .rw[Fh hl]
    exact⟨.lists_lengths pl.isList pl'.isList (by simp;omega) (by omega),.lists_lengths pl.isList pl'.isList (by simp;omega) (by omega)⟩
  .unfold deq
   obtain⟨χ,ri,pl,_⟩:=I.list q
   obtain⟨its',ri',pl',_⟩:=I.tuple q'
   exact⟨.list_tuple pl.isList pl' (by omega),.list_tuple pl.isList pl' (by omega)⟩
 .rcases F5 h' with⟨l',ys,rfl,q',h'⟩|⟨l',ys,rfl,q',h'⟩
  .unfold deq
   obtain⟨χ,ri,pl,_⟩:=I.tuple q
   obtain⟨its',ri',pl',_⟩:=I.list q'
   exact⟨.tuple_list pl pl'.isList (by omega),.tuple_list pl pl'.isList (by omega)⟩
  .unfold deq
   unfold dep at hu
   obtain⟨χ,ri,pl,_⟩:=I.tuple q
   obtain⟨its',ri',pl',_⟩:=I.tuple q'
   have e1:=h.length
   have e2:=h'.length
   have e3:=ri.length
   have e4:=ri'.length
   have it:∀j (h1:j<χ.toArray.size) (h2:j<its'.toArray.size),bx A.in1 s χ.toArray[j] its'.toArray[j] (deq (l.getD j (.lst [])) (l'.getD j (.lst []))):=λj h1 h2=>by
    have:=G7 I l l' A.in1 xs ys χ its' h h' ri ri' (by show A.units+1+Ge l<cLine;omega) j (by simpa using h1) (by simpa using h2)
    simpa using this
   have T:=i_ pl pl' (by omega) it
   have T':=SeqAt.RcNeAt.tuples pl pl' (by omega) it
   by_cases hl:l.length=l'.length
   .rw[Dx (.lst []) hl]
    have hsz:χ.toArray.size=l.length:=by simp;omega
    have hsz':its'.toArray.size=l.length:=by simp;omega
    rw[hsz,hsz',lL,beq_self_eq_true,hV] at T T'
    exact⟨T,T'⟩
   .rw[Fh hl]
    have hne:(χ.toArray.size==its'.toArray.size)=false:=by
     rw[beq_eq_false_iff_ne];simp;omega
    rw[hne,g4] at T T'
    exact⟨T,T'⟩
def Yt(I:Inv X ξ σ H s){A:bv}{d:Dt}{a:Addr}{v:V}{u:am}(h:At X.K H d (.ref a))(f:B7 v=true)(r:RelV v u)(hu:A.units<cLine) :
  gY A s (.ref a) u false/\fK A s (.ref a) u true/\gY A s u (.ref a) false/\fK A s u (.ref a) true:=by
 rcases F5 h with⟨l,xs,rfl,q,h⟩|⟨l,xs,rfl,q,h⟩
 .obtain⟨χ,ri,pl,_⟩:=I.list q
  cases v with
  |non=>cases r;exact⟨.list_none pl.isList hu,.list_none pl.isList hu,.none_list pl.isList hu,.none_list pl.isList hu⟩
  |bl b=>cases r;exact⟨.list_bool b pl.isList hu,.list_bool b pl.isList hu,.bool_list b pl.isList hu,.bool_list b pl.isList hu⟩
  |int b=>obtain⟨t,rfl⟩:=r;exact⟨.list_int b t pl.isList hu,.list_int b t pl.isList hu,.int_list b t pl.isList hu,.int_list b t pl.isList hu⟩
  |str b=>obtain⟨t,rfl⟩:=r;exact⟨.list_str b t pl.isList hu,.list_str b t pl.isList hu,.str_list b t pl.isList hu,.str_list b t pl.isList hu⟩
  |_=>exact absurd (show false=true from f) aM
 .obtain⟨χ,ri,pl,_⟩:=I.tuple q
  cases v with
  |non=>cases r;exact⟨.tuple_none pl hu,.tuple_none pl hu,.none_tuple pl hu,.none_tuple pl hu⟩
  |bl b=>cases r;exact⟨.tuple_bool b pl hu,.tuple_bool b pl hu,.bool_tuple b pl hu,.bool_tuple b pl hu⟩
  |int b=>obtain⟨t,rfl⟩:=r;exact⟨.tuple_int b t pl hu,.tuple_int b t pl hu,.int_tuple b t pl hu,.int_tuple b t pl hu⟩
  |str b=>obtain⟨t,rfl⟩:=r;exact⟨.tuple_str b t pl hu,.tuple_str b t pl hu,.str_tuple b t pl hu,.str_tuple b t pl hu⟩
  |_=>exact absurd (show false=true from f) aM
def aq6(K:ac)(neg:Bool):R2:=λx y H Q=>∃d d',At K H d x/\At K H d' y/\dep d<=40/\Q (.bl (if neg then !deq d d' else deq d d')) H
def ar3(I:Inv X ξ σ H s){A:bv}{d d':Dt}{x y:V}{u v:am}(h:At X.K H d x)(h':At X.K H d' y)(r:RelV x u)(r':RelV y v)(hr:(∃a,x=.ref a) \/ ∃b,y=.ref b)(hu:A.units+dep d<cLine) :
  gY A s u v (deq d d')/\fK A s u v (!deq d d'):=by
 by_cases hx:∃a,x=.ref a
 .obtain⟨a,rfl⟩:=hx
  cases r
  by_cases hy:∃b,y=.ref b
  .obtain⟨b,rfl⟩:=hy
   cases r'
   exact b99 I h h' hu
  .obtain⟨rfl,f⟩:=Ss h' (λb e=>hy ⟨b,e⟩)
   obtain⟨q1,q2,_⟩:=Yt I h f r' (show A.units<cLine by omega)
   have e:deq d (.at_ y)=false:=by
    rcases F5 h with⟨l,xs,rfl,_⟩|⟨l,xs,rfl,_⟩ <;> (unfold deq;rfl)
   rw[e]
   exact⟨q1,q2⟩
 .have hy:∃b,y=.ref b:=hr.resolve_left hx
  obtain⟨b,rfl⟩:=hy
  cases r'
  obtain⟨rfl,f⟩:=Ss h (λb e=>hx ⟨b,e⟩)
  obtain⟨_,_,q1,q2⟩:=Yt I h' f r (show A.units<cLine by omega)
  have e:deq (.at_ x) d'=false:=by
   rcases F5 h' with⟨l,xs,rfl,_⟩|⟨l,xs,rfl,_⟩ <;> (unfold deq;rfl)
  rw[e]
  exact⟨q1,q2⟩
def Ve(hu:X.A.units+64<cLine){x y:V}{u v:am}{Q:VK}(I:Inv X ξ σ H s)(rx:RelV x u)(ry:RelV y v)(hr:(∃a,x=.ref a) \/ ∃b,y=.ref b)(h:aq6 X.K false x y H Q):aY (model X.prog X.w) X.A (cy .Eq u v) (EP X ξ σ Q) X.xe s:=by
 obtain⟨d,d',h1,h2,hd,q⟩:=h
 exact(ar3 I h1 h2 rx ry hr (A:=X.A) (by omega)).1 _ _ _ _ ⟨.bl _,H,I,rfl,q⟩
def Vf(hu:X.A.units+64<cLine){x y:V}{u v:am}{Q:VK}(I:Inv X ξ σ H s)(rx:RelV x u)(ry:RelV y v)(hr:(∃a,x=.ref a) \/ ∃b,y=.ref b)(h:aq6 X.K true x y H Q):aY (model X.prog X.w) X.A (cy .NotEq u v) (EP X ξ σ Q) X.xe s:=by
 obtain⟨d,d',h1,h2,hd,q⟩:=h
 exact(ar3 I h1 h2 rx ry hr (A:=X.A) (by omega)).2 _ _ _ _ ⟨.bl _,H,I,rfl,q⟩
end
open AutoSeq1 (wpAny_loadPart')
open MeetsSeq MeetsSeq2 MeetsSeq3 SeqRoads2
def br0(K:ac)(neg:Bool):R2:=λx y H Q=>match x,y with
 |.ref a,.ref b=>False\/(∃kvs,Rd H a (.dK kvs)/\Rd H b (.dK [])/\Q (.bl (if neg then !kvs.isEmpty else kvs.isEmpty)) H)\/(∃xs ys,SqL K H a xs/\SqL K H b ys/\xs.length≠ys.length/\Q (.bl neg) H)
 |_,_=>False
section
variable {X:Cx}{ξ:List (Addr×Obj)}{σ:St}{H:Hp}{s:av}
def bl8(hu:X.A.units+64<cLine){x y:V}{u v:am}{Q:VK}(I:Inv X ξ σ H s)(rx:RelV x u)(ry:RelV y v)(h:br0 X.K false x y H Q):aY (model X.prog X.w) X.A (cy .Eq u v) (EP X ξ σ Q) X.xe s:=by
 cases x <;> cases y <;> first|exact(h).elim|skip
 cases rx;cases ry
 rcases h with h|⟨kvs,h1,h2,q⟩|⟨xs,ys,h1,h2,len,q⟩
 .exact h.elim
 .obtain⟨_,z1,ka,r1,d1⟩:=Cm I.hok h1
  obtain⟨_,z2,kb,r2,d2⟩:=Cm I.hok h2
  cases r2
  refine kx (r:=true) z1 z2 d1 d2 (by omega) (λe=>?_) ?_
  .rw[List.length_eq_zero_iff.mp e];exact .nil
  .have e:(ka.length==([]:List (Key×am)).length&&true)=kvs.isEmpty:=by
    rw[hV,<- r1.length]
    cases kvs <;> rfl
   rw[e]
   exact⟨.bl _,H,I,rfl,q⟩
 .obtain⟨χ,ri,pl,_⟩:=I.list h1
  obtain⟨its',ri',pl',_⟩:=I.list h2
  have e3:=ri.length
  have e4:=ri'.length
  exact SeqAt.RcAt.lists_lengths pl.isList pl'.isList (by simp;omega) (by omega) _ _ _ _ ⟨.bl _,H,I,rfl,q⟩
def bm4(hu:X.A.units+64<cLine){x y:V}{u v:am}{Q:VK}(I:Inv X ξ σ H s)(rx:RelV x u)(ry:RelV y v)(h:br0 X.K true x y H Q):aY (model X.prog X.w) X.A (cy .NotEq u v) (EP X ξ σ Q) X.xe s:=by
 cases x <;> cases y <;> first|exact(h).elim|skip
 cases rx;cases ry
 rcases h with h|⟨kvs,h1,h2,q⟩|⟨xs,ys,h1,h2,len,q⟩
 .exact h.elim
 .obtain⟨_,z1,ka,r1,d1⟩:=Cm I.hok h1
  obtain⟨_,z2,kb,r2,d2⟩:=Cm I.hok h2
  cases r2
  refine PySem.W.keq_ne (r:=true) z1 z2 d1 d2 (by omega) (λe=>?_) ?_
  .rw[List.length_eq_zero_iff.mp e];exact .nil
  .have e:(!(ka.length==([]:List (Key×am)).length&&true)) = !kvs.isEmpty:=by
    rw[hV,<- r1.length]
    cases kvs <;> rfl
   rw[e]
   exact⟨.bl _,H,I,rfl,q⟩
 .obtain⟨χ,ri,pl,_⟩:=I.list h1
  obtain⟨its',ri',pl',_⟩:=I.list h2
  have e3:=ri.length
  have e4:=ri'.length
  exact iE pl.isList pl'.isList (by simp;omega) (by omega) _ _ _ _ ⟨.bl _,H,I,rfl,q⟩
end
end L2
namespace L2
open PySem PySem.Spec PyProof.Rows
section
variable {X:Cx}{ξ:List (Addr×Obj)}{σ:St}{H:Hp}{s:av}
def aq8:R2:=λx y H Q=>match x,y with
 |.str a,.int k=>∃z,(k=0/\z=cQ\/k=1/\z=a)/\Q (.str z) H
 |_,_=>False
def a17:OpR X (dL .Mult) aq8:=by
 intro ξ s σ H x y v u Q I rx ry h
 unfold aq8 at h
 split at h
 .rename_i a k
  obtain⟨t,rfl⟩:=rx
  obtain⟨t',rfl⟩:=ry
  obtain⟨z,⟨rfl,rfl⟩|⟨rfl,rfl⟩,q⟩:=h
  .refine PySem.P.mul_str rfl (λz _=>absurd (by decide) z) (λz _=>absurd (by decide) z) ?_
   rw[if_pos (by decide)]
   exact⟨by decide,.str _,H,I.tok _,⟨_,rfl⟩,q⟩
  .refine PySem.P.mul_str rfl (λ_ z=>by cases z) (λ_ z=>by cases z) ?_
   rw[if_neg (by decide)]
   exact⟨.str _,H,I,⟨_,rfl⟩,q⟩
 .exact h.elim
end
section
variable {X:Cx}{ξ:List (Addr×Obj)}{σ:St}{H:Hp}{s:av}
def Ho:List V->Hp->VK->Prop:=λxs H Q=>∃p kvs,xs=[.ref p]/\Rd H p (.dK kvs)/\∀q,H q=none->Q (.ref q) (upd H q (.dK kvs))
def Ug:Cf X (.type "dict") Ho:=by
 intro ξ s σ H xs us Q I r h
 obtain⟨p,kvs,rfl,e,q⟩:=h
 obtain⟨u,rfl,rx⟩:=Dn r
 cases rx
 obtain⟨z,hd,vs,rel,dd⟩:=Cm I.hok e
 refine kt_call_dict hd dd (by rw[<- rel.length];exact z) λh' hm hs=>?_
 have kp:∀b o',s.heap.get? b=some o'->h'.get? b=some o':=λb o' hb=>by
  have hlt:=aO hb
  rw[hs.2 b (aQ hlt)]
  exact ai _ hb
 exact⟨.ref s.heap.objs.size,_,I.laid kp (af _) (Pa z (by rw[beq_eq_false_iff_ne];exact cj (aQ I.big)) rel hm),rfl,q _ (I.hok.fresh (af _))⟩
def boot_dict:cO "dict"=some (.type "dict"):=by decide +kernel
end
open AutoSeq1 (wpAny_loadPart')
open MeetsSeq MeetsSeq2 MeetsSeq3 SeqRoads2
def bb8(P:a_)(w:bB)(A:bv)(s:av)(y x:am)(b:Bool):Prop:=∀(E:am->av->Prop)(Q:Bool->av->Prop),Q b s->aY (model P w) A (eqBool y x) Q E s
section
variable {P:a_}{w:bB}{l:Addr}{ψ:Array am}{n:Nat}{dd:Option Addr}{sl:Array (Option am)}{x:am}{e:am->Bool}
def Rr(k:Nat):∀i:Nat,ψ.size-i=k->MeetsIn P w (aX.«list.__contains__.loop» ⟨[.ref l,x,hO i],[]⟩)
   (λA R s=>s.heap.get? l=some {cls:=.type "list", dict:=dd,data:=.seq ψ n,slots:=sl}/\(∀y,y∈ψ->bb8 P w A.in1 s y x (e y))/\R (.ok (.ret (.bool ((ψ.toList.drop i).any e)))) s):=by
 induction k with
 |zero=>
  intro i hk A R s h
  obtain⟨hp,g,d,tk,os⟩:=s;obtain⟨hl,he,h⟩:=h
  wp_walk using eN hl
  have hi:ψ[((i:Nat):Int).toNat]?=none:=by simp;omega
  have hd:ψ.toList.drop i=[]:=by simp;omega
  rw[hd] at h
  rw[hi]
  wp_walk
  exact h
 |succ k ih=>
  intro i hk A R s h
  obtain⟨hp,g,d,tk,os⟩:=s;obtain⟨hl,he,h⟩:=h
  wp_walk using eN hl
  have hlt:i<ψ.size:=by omega
  have hi:ψ[((i:Nat):Int).toNat]?=some ψ[i]:=by simp[hlt]
  have hd:ψ.toList.drop i=ψ[i]::ψ.toList.drop (i+1):=by simp[List.drop_eq_getElem_cons,hlt]
  rw[hd,fP] at h
  rw[hi]
  refine ag (he _ (Array.getElem_mem hlt) _ _ ?_)
  cases hb:e ψ[i] with
  |true=>
   rw[hb] at h
   wp_walk
   exact h
  |false=>
   rw[hb] at h
   have hc:((i:Int)+1)=((i+1:Nat):Int):=by push_cast;rfl
   wp_walk
   exact⟨lx kW _,dy kU (by
    exact ih (i+1) (by omega) A R _ ⟨hl,he,by simpa using h⟩)⟩
def Pz{A:bv}{E:am->av->Prop}{s:av}{Q:am->av->Prop}(hl:s.heap.IsList l ψ)(he:∀y,y∈ψ->bb8 P w A.in1 s y x (e y))(h:Q (.bool (!ψ.any e)) s):aY (model P w) A (cy .NotIn x (.ref l)) Q E s:=by
 obtain⟨⟨cls,dd,data,sl⟩,ho,hc,n,hd⟩:=hl
 subst hc hd
 have g:MeetsIn P w (aX.«list.__contains__» ⟨[.ref l,x],[]⟩) (λA R s=>s.heap.get? l=some {cls:=.type "list", dict:=dd,data:=.seq ψ n,slots:=sl}/\(∀y,y∈ψ->bb8 P w A.in1 s y x (e y))/\R (.ok (.ret (.bool (ψ.any e)))) s):=by
  intro A R s h
  obtain⟨hp,g,d,tk,os⟩:=s;obtain⟨hl,he,h⟩:=h
  wp_walk using eN hl
  exact⟨lx kW _,dy kU (by
   exact Rr _ 0 rfl A R _ ⟨hl,he,by simpa using h⟩)⟩
 have hT:s.TypeIs (.ref l) "list" := ⟨_,ho,rfl⟩
 refine ag (wpAny_contains_slot hT j7 (bU (iJ j7 hT F.entry_list_contains (F.args_list_contains_2 _ _) g (Q:=λv s'=>∃b,v=.bool b/\Q (.bool (!b)) s') ⟨ho,he,_,rfl,h⟩) (λv s' hv=>?_) λ_ _ e=>e))
 obtain⟨b,rfl,hq⟩:=hv
 exact c9 (ar hq)
end
theorem T8{v:V}{u:am}(q:RelV v u):∀{xs} {us},Vals xs us -> ∀j,Vals (xs.set j v) (us.set j u)
 |_,_,.nil,_=>.nil
 |_,_,.cons _ t,0=>.cons q t
 |_,_,.cons r t,j+1=>.cons r (T8 q t j)
abbrev Mp:=List (Key×TK)
def Kt(H:Hp)(p:Addr)(m:Mp):Prop:=∃kvs,Rd H p (.dK kvs)/\eE (λ(e:Key×V) (q:Key×TK)=>e.1=q.1/\TkAt H q.2 e.2/\Ap q.2<=8) kvs m
def Mp.at(m:Mp)(k:Key):Option TK:=(m.find? λe=>decide (e.1=k)).map (·.2)
def EqM(m m':Mp):Prop:=m.length=m'.length/\∀e∈m,m'.at e.1=some e.2
def Ud{e:Key×TK}{m:Mp}{k:Key}(h:e.1=k):Mp.at (e::m) k=some e.2:=by simp[Mp.at,fE,h]
def Uc{e:Key×TK}{m:Mp}{k:Key}(h:¬ e.1=k):Mp.at (e::m) k=m.at k:=by simp[Mp.at,fE,h]
def EqM.refl{m:Mp}(nd:(m.map (·.1)).Nodup):EqM m m:=by
 refine⟨rfl,?_⟩
 induction m with
 |nil=>intro e h;cases h
 |cons a m ih=>
  obtain⟨na,nd⟩:=List.nodup_cons.mp nd
  intro e h
  rcases List.mem_cons.mp h with rfl|h
  .exact Ud rfl
  .rw[Uc λz=>na (List.mem_map.mpr ⟨e,h,z.symm⟩)];exact ih nd e h
section
variable {X:Cx}{ξ:List (Addr×Obj)}{σ:St}{H:Hp}{s:av}
theorem al9(I:Inv X ξ σ H s){k:Key}:∀{kvs:List (Key×V)}{kb:List (Key×am)}{m:Mp},KV kvs kb->eE (λ(e:Key×V) (q:Key×TK)=>e.1=q.1/\TkAt H q.2 e.2/\Ap q.2<=8) kvs m ->
  (m.at k=none/\ix kb k=none) \/ ∃x y,m.at k=some x/\ix kb k=some y/\TkIs X.prog X.w s.heap x y
 |_,_,_,.nil,.nil=>.inl ⟨rfl,rfl⟩
 | _,_,_,.cons (b:=q) r rs,.cons h hs=>by
  by_cases e:q.1=k
  .refine .inr ⟨_,_,Ud (h.1.symm.trans (r.1.trans e)),?_,Ju I.hok _ h.2.1 r.2⟩
   unfold ix
   rw[List.find?_cons_of_pos (by simpa using e)]
   rfl
  .rw[Uc λz=>e (r.1.symm.trans (h.1.trans z))]
   have:∀{l:List (Key×am)},ix (q::l) k=ix l k:=λ{l}=>by unfold ix;rw[List.find?_cons_of_neg (by simpa using e)]
   rw[this]
   exact al9 I rs hs
theorem Yc{A:bv}{kvs':List (Key×V)}{kb:List (Key×am)}{m':Mp}(I:Inv X ξ σ H s)(r':KV kvs' kb)(t':eE (λ(e:Key×V) (q:Key×TK)=>e.1=q.1/\TkAt H q.2 e.2/\Ap q.2<=8) kvs' m')(hu:A.units+8<cLine) :
  ∀{kvs:List (Key×V)}{ka:List (Key×am)}{m:Mp},KV kvs ka->eE (λ(e:Key×V) (q:Key×TK)=>e.1=q.1/\TkAt H q.2 e.2/\Ap q.2<=8) kvs m -> ∃r,PySem.W.KeqHits A s kb ka r/\(r=true ↔ ∀e∈m,m'.at e.1=some e.2)
 |_,_,_,.nil,.nil=>⟨true,.nil,λ_ e h=>(by cases h),λ_=>rfl⟩
 | _,_,_,.cons (b:=q) r rs,.cons (b:=p) h hs=>by
  obtain⟨c,hc,ic⟩:=Yc I r' t' hu rs hs
  have ek:=r.1.symm.trans h.1
  rcases al9 I r' t' with⟨n1,n2⟩|⟨x,y,e1,e2,hy⟩
  .exact⟨false,.miss n2,λz=>(by cases z),λz=>by have:=z p aD;rw[<- ek,n1] at this;cases this⟩
  .refine⟨_,.hit e2 (Y5 p.2 (by have:=h.2.2;omega) (Ju I.hok _ h.2.1 r.2) hy) hc,?_⟩
   rw[aU,decide_eq_true_iff,ic]
   refine⟨fun⟨z1,z2⟩ e he=>?_,λz=>⟨?_,λe he=>z e (aA _ he)⟩⟩
   .rcases List.mem_cons.mp he with rfl|he
    .rw[<- ek,e1,z1]
    .exact z2 e he
   .have:=z p aD
    rw[<- ek,e1] at this
    exact(aJ this).symm
def b09(neg:Bool):R2:=λx y H Q=>∃a b m m' c,x=.ref a/\y=.ref b/\Kt H a m/\Kt H b m'/\(c=true↔EqM m m')/\Q (.bl (if neg then !c else c)) H
def ai9{A:bv}{a b:Addr}{m m':Mp}(I:Inv X ξ σ H s)(h:Kt H a m)(h':Kt H b m')(hu:A.units+9<cLine):∃ka kb r,(a==c8)=false/\(b==c8)=false/\s.heap.DictOf (Bd X.prog X.w) a ka/\s.heap.DictOf (Bd X.prog X.w) b kb/\PySem.W.KeqHits A.in1 s kb ka r/\((ka.length==kb.length&&r)=true↔EqM m m'):=by
 obtain⟨kvs,e,p⟩:=h
 obtain⟨kvs',e',p'⟩:=h'
 obtain⟨_,z1,ka,r1,d1⟩:=Cm I.hok e
 obtain⟨_,z2,kb,r2,d2⟩:=Cm I.hok e'
 obtain⟨r,hr,ir⟩:=Yc (A:=A.in1) I r2 p' (show A.units+1+8<cLine by omega) r1 p
 refine⟨ka,kb,r,z1,z2,d1,d2,hr,?_⟩
 rw[aU,ir,beq_iff_eq,<- r1.length,<- r2.length,gH p,gH p']
 exact iL
def bm0(hu:X.A.units+64<cLine){x y:V}{u v:am}{Q:VK}(I:Inv X ξ σ H s)(rx:RelV x u)(ry:RelV y v)(h:b09 false x y H Q):aY (model X.prog X.w) X.A (cy .Eq u v) (EP X ξ σ Q) X.xe s:=by
 obtain⟨a,b,m,m',c,rfl,rfl,h1,h2,ic,q⟩:=h
 cases rx;cases ry
 obtain⟨ka,kb,r,z1,z2,d1,d2,hits,ir⟩:=ai9 (A:=X.A) I h1 h2 (by omega)
 refine kx z1 z2 d1 d2 (by omega) (λ_=>hits) ?_
 rw[Bool.eq_iff_iff.mpr (ir.trans ic.symm)]
 exact⟨.bl _,H,I,rfl,q⟩
def Xz(I:Inv X ξ σ H s){a:Addr}{m m':Mp}(h:Kt H a m)(h':Kt H a m'):m=m'/\(m.map (·.1)).Nodup:=by
 obtain⟨kvs,e,p⟩:=h
 obtain⟨kvs',e',p'⟩:=h'
 have ek:kvs=kvs':=by
  rcases e with e|⟨o,e⟩ <;> rcases e' with e'|⟨o',e'⟩ <;> (rw[e] at e';cases e') <;> rfl
 subst ek
 obtain⟨_,_,ka,r1,d1⟩:=Cm I.hok e
 obtain⟨_,_,_,_,_,_,_,_,nd⟩:=d1
 have keys:∀{kvs:List (Key×V)}{m:Mp},eE (λ(e:Key×V) (q:Key×TK)=>e.1=q.1/\TkAt H q.2 e.2/\Ap q.2<=8) kvs m->kvs.map (·.1)=m.map (·.1):=λp=>by
  induction p with
  |nil=>rfl
  |cons h _ ih=>rw[a7,a7,h.1,ih]
 have inj:∀{kvs:List (Key×V)}{ka:List (Key×am)}{m m':Mp},KV kvs ka->eE (λ(e:Key×V) (q:Key×TK)=>e.1=q.1/\TkAt H q.2 e.2/\Ap q.2<=8) kvs m->eE (λ(e:Key×V) (q:Key×TK)=>e.1=q.1/\TkAt H q.2 e.2/\Ap q.2<=8) kvs m'->m=m':=λ{kvs ka m m'} r p p'=>by
  induction p generalizing ka m' with
  |nil=>cases p';rfl
  |cons h _ ih=>
   cases p' with
   |cons h' t'=>
    cases r with
    |cons r rs=>rw[ih rs t',lO (h.1.symm.trans h'.1) (TkIs.inj _ (Ju I.hok _ h.2.1 r.2) (Ju I.hok _ h'.2.1 r.2))]
 exact⟨inj r1 p p',by rw[<- keys p,r1.keys];exact nd⟩
def InM(K:ac)(H:Hp)(p:Addr)(x:V)(o:Option V):Prop:=∃a m,∃xs:List (Addr×Mp),x=.ref a/\Kt H a m/\SqL K H p (xs.map λe=>.ref e.1)/\(∀e∈xs,Kt H e.1 e.2)/\(o.isSome=true ↔ ∃e∈xs,EqM e.2 m)
def ai7(hu:X.A.units+64<cLine){p:Addr}{x:V}{u:am}{o:Option V}{Q:VK}(I:Inv X ξ σ H s)(rx:RelV x u)(h:InM X.K H p x o)(q:Q (.bl (!o.isSome)) H):aY (model X.prog X.w) X.A (cy .NotIn u (.ref p)) (EP X ξ σ Q) X.xe s:=by
 obtain⟨a,m,xs,rfl,hm,hp,hx,io⟩:=h
 cases rx
 obtain⟨χ,r,pl,hz⟩:=I.list hp
 have ei:χ=xs.map λe=>bC e.1:=by
  clear hp hx io pl hz
  induction xs generalizing χ with
  |nil=>cases r;rfl
  |cons e xs ih=>
   cases r with
   |cons r1 r2=>cases r1;rw[ih _ r2,a7]
 subst ei
 classical
 refine Pz (e:=λy=>decide (∃e∈xs,y=.ref e.1/\EqM e.2 m)) pl.isList (λy hy=>?_) ?_
 .obtain⟨e,he,rfl⟩:=List.mem_map.mp (List.mem_toArray.mp hy)
  have one:decide (∃q∈xs,bC e.1=.ref q.1/\EqM q.2 m)=decide (EqM e.2 m):=decide_eq_decide.mpr ⟨fun⟨q,hq,z,g⟩=>by rw[(Xz I (hx e he) (Value.ref.inj z▸hx q hq)).1];exact g,λg=>⟨e,he,rfl,g⟩⟩
  intro E Q hq
  rw[one] at hq
  by_cases z:e.1=a
  .obtain⟨em,nd⟩:=Xz I (z▸hx e he) hm
   rw[decide_eq_true (em▸EqM.refl nd)] at hq
   rw[z]
   exact SeqAt.EqAt.same _ _ _ _ _ hq
  .obtain⟨ka,kb,r,z1,z2,d1,d2,hits,ir⟩:=ai9 (A:=X.A.in1) I (hx e he) hm (show X.A.units+1+9<cLine by omega)
   unfold eqBool
   refine bz (wpAny_ite_split (λhab=>absurd (Value.ref.inj (cK hab)) z) λ_=>ag (kx z1 z2 d1 d2 (show X.A.units+1<cLine by omega) (λ_=>hits) (c9 ?_)))
   rw[show(ka.length==kb.length&&r)=decide (EqM e.2 m) from Bool.eq_iff_iff.mpr (ir.trans decide_eq_true_iff.symm)]
   exact hq
 .rw[show((xs.map λe=>bC e.1).toArray.any λy=>decide (∃e∈xs,y=.ref e.1/\EqM e.2 m))=o.isSome from Bool.eq_iff_iff.mpr ?_]
  .exact⟨.bl _,H,I,rfl,q⟩
  .rw[io,List.any_toArray,jM,dM]
   exact⟨fun⟨e,he,g⟩=>by obtain⟨q,hq,_,g⟩:=of_decide_eq_true g;exact⟨q,hq,g⟩,fun⟨e,he,g⟩=>⟨e,he,decide_eq_true ⟨e,he,rfl,g⟩⟩⟩
end
end L2
namespace L2
open PySem PySem.Spec PyProof.Rows
def rNo:R2:=λ_ _ _ _=>False
def Bj(K:ac):R2:=λx y H Q=>match x,y with
 |.int i,.int j=>Q (.int (i+j)) H
 |.str a,.str b=>a.length+b.length<=sizeLine/\Q (.str (a++b)) H
 |.ref a,.ref b=>b08 (.ref a) (.ref b) H Q\/a96 K (.ref a) (.ref b) H Q\/a95 K (.ref a) (.ref b) H Q
 |_,_=>False
def ar2:R2:=λx y H Q=>match x,y with
 |.int i,.int j=>Q (.int (i-j)) H
 |_,_=>False
def Dl(K:ac):R2:=λx y H Q=>match x,y with
 |.int i,.int j=>CMul i j/\Q (.int (i*j)) H
 |.str a,.int k=>aq8 (.str a) (.int k) H Q
 |_,_=>False
def D8:R2:=λx y H Q=>match x,y with
 |.int i,.int j=>bt1 i j/\Q (.int (i/j)) H
 |_,_=>False
def Bi:R2:=λx y H Q=>match x,y with
 |.int i,.int j=>0<j/\Q (.int (i%j)) H
 |_,_=>False
def a98:R2:=λx y H Q=>match x,y with
 |.int i,.int j=>aw2 i j/\Q (.int (i^j.toNat)) H
 |_,_=>False
def Od:R2:=λx y H Q=>match x,y with
 |.int i,.int j=>aw2 i j/\Q (.int (i*2^j.toNat)) H
 |_,_=>False
def Yr:R2:=λx y H Q=>match x,y with
 |.int i,.int j=>0<=j/\Q (.int (i/2^j.toNat)) H
 |_,_=>False
def Jr:R2:=λx y H Q=>match x,y with
 |.int i,.int j=>Q (.int (cD i j)) H
 |_,_=>False
def Vl:R2:=λx y H Q=>match x,y with
 |.int i,.int j=>Q (.int (cL i j)) H
 |_,_=>False
def b15:R2:=λx y H Q=>match x,y with
 |.int i,.int j=>Q (.int (Builtin.bitXor i j)) H
 |_,_=>False
def rOp(K:ac):mj->R2
 |.Add=>Bj K
 |.Sub=>ar2
 |.Mult=>Dl K
 |.FloorDiv=>D8
 |.Mod=>Bi
 |.Pow=>a98
 |.LShift=>Od
 |.RShift=>Yr
 |.BitAnd=>Jr
 |.BitOr=>Vl
 |.BitXor=>b15
 |_=>rNo
section
variable {X:Cx}
def b91(op:mj):OpR X (dL op) (rOp X.K op):=by
 intro ξ s σ H x y v u Q I rx ry h
 cases op with
 |Add=>
  cases x <;> cases y <;> first
   |exact(h).elim
   |exact bl6 ξ s σ H _ _ v u Q I rx ry ⟨_,_,rfl,rfl,h⟩
   |exact Vd ξ s σ H _ _ v u Q I rx ry ⟨_,_,rfl,rfl,h⟩
   |exact(op_cat.or (op_catT.or a15)) ξ s σ H _ _ v u Q I rx ry h
 |Sub=>cases x <;> cases y <;> first|exact(h).elim|exact bm9 ξ s σ H _ _ v u Q I rx ry ⟨_,_,rfl,rfl,h⟩
 |Mult=>cases x <;> cases y <;> first|exact(h).elim|exact bm3 ξ s σ H _ _ v u Q I rx ry ⟨_,_,rfl,rfl,h⟩|exact a17 ξ s σ H _ _ v u Q I rx ry h
 |FloorDiv=>cases x <;> cases y <;> first|exact(h).elim|exact a16 ξ s σ H _ _ v u Q I rx ry ⟨_,_,rfl,rfl,h⟩
 |Mod=>cases x <;> cases y <;> first|exact(h).elim|exact bm2 ξ s σ H _ _ v u Q I rx ry ⟨_,_,rfl,rfl,h⟩
 |Pow=>cases x <;> cases y <;> first|exact(h).elim|exact bm6 ξ s σ H _ _ v u Q I rx ry ⟨_,_,rfl,rfl,h⟩
 |LShift=>cases x <;> cases y <;> first|exact(h).elim|exact bm7 ξ s σ H _ _ v u Q I rx ry ⟨_,_,rfl,rfl,h⟩
 |RShift=>cases x <;> cases y <;> first|exact(h).elim|exact bm8 ξ s σ H _ _ v u Q I rx ry ⟨_,_,rfl,rfl,h⟩
 |BitAnd=>cases x <;> cases y <;> first|exact(h).elim|exact bl7 ξ s σ H _ _ v u Q I rx ry ⟨_,_,rfl,rfl,h⟩
 |BitOr=>cases x <;> cases y <;> first|exact(h).elim|exact bz2 ξ s σ H _ _ v u Q I rx ry ⟨_,_,rfl,rfl,h⟩
 |BitXor=>cases x <;> cases y <;> first|exact(h).elim|exact bn0 ξ s σ H _ _ v u Q I rx ry ⟨_,_,rfl,rfl,h⟩
 |_=>exact(h).elim
end
def Bp(K:ac)(neg:Bool):R2:=λx y H Q=>match x,y with
 |.ref a,.ref b=>br1 K neg (.ref a) (.ref b) H Q\/aq6 K neg (.ref a) (.ref b) H Q\/br0 K neg (.ref a) (.ref b) H Q\/(neg=false/\b09 false (.ref a) (.ref b) H Q)
 |.ref a,y=>aq6 K neg (.ref a) y H Q\/False
 |x,.ref b=>aq6 K neg x (.ref b) H Q
 |.int i,.int j=>Q (.bl (if neg then !decide (i=j) else decide (i=j))) H
 |.str i,.str j=>Q (.bl (if neg then !decide (i=j) else decide (i=j))) H
 |.bl i,.bl j=>Q (.bl (if neg then !(i==j) else(i==j))) H
 |x,y=>br3 x y=true/\Q (.bl (if neg then !decide (x=y) else decide (x=y))) H
def br2:R2:=λx y H Q=>match x,y with
 |.int i,.int j=>Q (.bl (decide (i<j))) H
 |.str i,.str j=>Q (.bl (decide (i.cps.toList<j.cps.toList))) H
 |_,_=>False
def Hr:R2:=λx y H Q=>match x,y with
 |.int i,.int j=>Q (.bl (decide (i<=j))) H
 |.str i,.str j=>Q (.bl (!decide (j.cps.toList<i.cps.toList))) H
 |_,_=>False
def ab0:R2:=λx y H Q=>match x,y with
 |.int i,.int j=>Q (.bl (decide (j<i))) H
 |_,_=>False
def b94:R2:=λx y H Q=>match x,y with
 |.int i,.int j=>Q (.bl (decide (j<=i))) H
 |_,_=>False
def Jx(K:ac)(neg:Bool):R2:=λx y H Q=>match x,y with
 |.non,_=>False
 |x,.ref p=>rIn K neg x (.ref p) H Q \/ ∃o,(ad3 H p x o\/(neg=true/\InM K H p x o))/\Q (.bl (if neg then !o.isSome else o.isSome)) H
 |_,_=>False
def Te(neg:Bool):R2:=λx y H Q=>match y with
 |.non=>Q (.bl (if neg then !decide (x=.non) else decide (x=.non))) H
 | .bl d=>(match x with
  |.bl c=>Q (.bl (if neg then !(c==d) else(c==d))) H
  |_=>False)
 |_=>False
def Jc(K:ac):lR->R2
 |.Eq=>Bp K false
 |.NotEq=>Bp K true
 |.Lt=>br2
 |.LtE=>Hr
 |.Gt=>ab0
 |.GtE=>b94
 |.In=>Jx K false
 |.NotIn=>Jx K true
 |.Is=>Te false
 |.IsNot=>Te true
section
variable {X:Cx}
def Nq(hu:X.A.units+64<cLine)(op:lR):OpR X (cy op) (Jc X.K op):=by
  intro ξ s σ H x y v u Q I rx ry h
  cases op with
  |Eq=>
    cases x <;> cases y <;> first
      | (rcases h with h|h|h|h
         . exact bl9 (by omega) ξ s σ H _ _ v u Q I rx ry h
         . exact Ve hu I rx ry (.inl ⟨_,rfl⟩) h
         . exact bl8 hu I rx ry h
         . exact bm0 hu I rx ry h.2)
      | (rcases h with h|h
         . exact Ve hu I rx ry (.inl ⟨_,rfl⟩) h
         . exact h.elim)
      |exact Ve hu I rx ry (.inr ⟨_,rfl⟩) h
      |exact Ye ξ s σ H _ _ v u Q I rx ry h
      |exact Ye ξ s σ H _ _ v u Q I rx ry ⟨rfl,by rw[Kb,fA];exact h⟩
      |exact Ye ξ s σ H _ _ v u Q I rx ry ⟨rfl,by rw[Kc,fA];exact h⟩
      |exact Ye ξ s σ H _ _ v u Q I rx ry ⟨rfl,by rw[O9];exact h⟩
  |NotEq=>
    cases x <;> cases y <;> first
      | (rcases h with h|h|h|h
         . exact bm5 (by omega) ξ s σ H _ _ v u Q I rx ry h
         . exact Vf hu I rx ry (.inl ⟨_,rfl⟩) h
         . exact bm4 hu I rx ry h
         . exact nomatch h.1)
      | (rcases h with h|h
         . exact Vf hu I rx ry (.inl ⟨_,rfl⟩) h
         . exact h.elim)
      |exact Vf hu I rx ry (.inr ⟨_,rfl⟩) h
      |exact Yf ξ s σ H _ _ v u Q I rx ry h
      |exact Yf ξ s σ H _ _ v u Q I rx ry ⟨rfl,by rw[Kb,fA];exact h⟩
      |exact Yf ξ s σ H _ _ v u Q I rx ry ⟨rfl,by rw[Kc,fA];exact h⟩
      |exact Yf ξ s σ H _ _ v u Q I rx ry ⟨rfl,by rw[O9];exact h⟩
  |Lt=>cases x <;> cases y <;> first|exact(h).elim|exact bz1 ξ s σ H _ _ v u Q I rx ry ⟨_,_,rfl,rfl,h⟩|exact aa4 ξ s σ H _ _ v u Q I rx ry ⟨_,_,rfl,rfl,h⟩
  |LtE=>cases x <;> cases y <;> first|exact(h).elim|exact bz0 ξ s σ H _ _ v u Q I rx ry ⟨_,_,rfl,rfl,h⟩|exact aa3 ξ s σ H _ _ v u Q I rx ry ⟨_,_,rfl,rfl,h⟩
  |Gt=>cases x <;> cases y <;> first|exact(h).elim|exact by9 ξ s σ H _ _ v u Q I rx ry ⟨_,_,rfl,rfl,h⟩
  |GtE=>cases x <;> cases y <;> first|exact(h).elim|exact by8 ξ s σ H _ _ v u Q I rx ry ⟨_,_,rfl,rfl,h⟩
  |In=>cases x <;> cases y <;> first|exact(h).elim|exact h.elim (aa2 ξ s σ H _ _ v u Q I rx ry) (fun⟨o,g,q⟩=>by cases ry;exact b84 I (g.resolve_right λz=>nomatch z.1) rx λs' I'=>⟨.bl _,H,I',rfl,q⟩)
  |NotIn=>cases x <;> cases y <;> first|exact(h).elim|exact h.elim (P1 ξ s σ H _ _ v u Q I rx ry) (fun⟨o,g,q⟩=>by cases ry;exact g.elim (λg=>ay8 I g rx λs' I'=>⟨.bl _,H,I',rfl,q⟩) λg=>ai7 hu I rx g.2 q)
  |Is=>cases y <;> first|exact(h).elim|exact bm1 ξ s σ H _ _ v u Q I rx ry ⟨rfl,h⟩|(cases x <;> first|exact(h).elim|(cases rx;cases ry;exact is_bool ⟨.bl _,H,I,rfl,h⟩))
  |IsNot=>cases y <;> first|exact(h).elim|exact a18 ξ s σ H _ _ v u Q I rx ry ⟨rfl,h⟩|(cases x <;> first|exact(h).elim|(cases rx;cases ry;exact isnot_bool ⟨.bl _,H,I,rfl,h⟩))
end
def Yq:V->Hp->VK->Prop:=λx H Q=>match x with
 |.int i=>Q (.int (-i)) H
 |_=>False
def cd7{X:Cx}:UnR X (mx .USub) Yq:=by
 intro ξ s σ H x v Q I rx h
 cases x <;> first|exact(h).elim|exact bs4 ξ s σ H _ v Q I rx ⟨_,rfl,h⟩
def Yp:V->Hp->VK->Prop:=λx H Q=>match x with
 |.int i=>Q (.int (cw i)) H
 |_=>False
def bv5{X:Cx}:UnR X (mx .Invert) Yp:=by
 intro ξ s σ H x v Q I rx h
 cases x <;> first|exact(h).elim|exact bs3 ξ s σ H _ v Q I rx ⟨_,rfl,h⟩
def Y7{X:Cx}:bt6 X (au9 X.K):=by
 intro ξ s σ H x v Q I rx h
 cases x with
 |non=>exact Mh ξ s σ H _ v Q I rx ⟨_,rfl,h⟩
 |bl b=>exact Mh ξ s σ H _ v Q I rx ⟨_,rfl,h⟩
 |int i=>exact Mh ξ s σ H _ v Q I rx ⟨_,rfl,h⟩
 |str y=>exact Mh ξ s σ H _ v Q I rx ⟨_,⟨h.1,rfl⟩,h.2⟩
 |ref p=>exact Mh ξ s σ H _ v Q I rx h
 |_=>exact(h).elim
inductive SqX (K:ac) (H:Hp) (p:Addr) (i:Int) (xs:List V):Prop where
 |inl (h:SqL K H p xs)
 |inr (h:SqT K H p xs)
 |dk (h:∀v,atI xs i=some v->DGet H p (.int i) (some v))
def Av(K:ac):R2:=λx y H Q=>match x,y with
 |.str z,.int i=>z.length<=sizeLine/\∃c,atI z.cps.toList i=some c/\Q (.str ⟨#[c]⟩) H
 |.ref p,.int i=>∃xs v,SqX K H p i xs/\atI xs i=some v/\Q v H
 |.ref p,.str k=>∃v,DGet H p (.str k) (some v)/\Q v H
 |.ref p,.ref b=>∃v,DGet H p (.ref b) (some v)/\Q v H
 |_,_=>False
def b89{X:Cx}(hu:X.A.units+64<cLine):IxR X (Av X.K):=by
  intro value slice ξ s σ H x y v u Q I rx ry h hs
  cases x <;> cases y <;> first
    |exact(h).elim
    |(obtain⟨h1,c,h2,h3⟩:=h;exact be9 value slice ξ s σ H _ _ v u Q I rx ry ⟨_,_,c,rfl,rfl,h1,h2,h3⟩ hs)
    | (obtain⟨xs,w,h1|h1|h1,h2,h3⟩:=h
       . exact az8 value slice ξ s σ H _ _ v u Q I rx ry ⟨_,_,_,_,rfl,rfl,h1,h2,h3⟩ hs
       . exact bf0 value slice ξ s σ H _ _ v u Q I rx ry ⟨_,_,_,_,rfl,rfl,h1,h2,h3⟩ hs
       . exact Hi hu value slice ξ s σ H _ _ v u Q I rx ry ⟨_,w,rfl,h1 w h2,h3⟩ hs)
    |(obtain⟨w,h1,h2⟩:=h;exact Hi hu value slice ξ s σ H _ _ v u Q I rx ry ⟨_,w,rfl,h1,h2⟩ hs)
def a99:V->V->V->Hp->(Hp->Prop)->Prop:=λo i v H N=>match o,i with
 |.ref p,.int k=>(∃xs,∃j:Nat,k=j/\H p=some (.lst xs)/\j<xs.length/\N (upd H p (.lst (xs.set j v)))) \/ ∃H',DPut H p (.int k) v H'/\N H'
 |.ref p,i=>∃H',DPut H p i v H'/\N H'
 |_,_=>False
def b17{X:Cx}(hu:X.A.units+64<cLine):bt3 X a99:=by
 intro ξ s σ H o i v ov iv u Q I ro ri rv h
 cases o with
 |ref p=>
  have dp:∀{H'},DPut H p i v H'->Q H'->aY (model X.prog X.w) X.A (mw ov iv u) (λ_ s'=>∃H',Inv X ξ σ H' s'/\Q H') X.xe s:=λ{H'} g q=>by
   cases ro
   exact Zp (by omega) I g ri rv λs' I'=>⟨H',I',q⟩
  cases i with
  |int k=>
   rcases h with⟨xs,j,rfl,hp,hj,q⟩|⟨H',g,q⟩
   .cases ro
    obtain⟨t,rfl⟩:=ri
    obtain⟨z,χ,n,r,hl,e⟩:=I.lstM hp
    have hn:=Io
    refine PySem.W.ki_setAt e (by omega) (by omega) (by rw[ay,<- hl];omega) ⟨_,I.lset hp e ?_ (T8 rv r j) (by rw[ii];exact z),q⟩
    simp
   .exact dp g q
  |_=>obtain⟨H',g,q⟩:=h;exact dp g q
 |_=>exact(h).elim
def Bm(K:ac)(f:Str):V->Hp->VK->Prop:=λx H Q=>match x with
 |.ref a=>(∃C dx fs v,H a=some (.ins C dx fs)/\Cls K C/\NoAttr K C f/\fs.lookup f=some v/\Q v H)
 |_=>False
def aq9(K:ac)(f:Str):V->V->Hp->(Hp->Prop)->Prop:=λx y H N=>match x with
 |.ref a=>(∃C dx fs,H a=some (.ins C dx fs)/\Cls K C/\NoAttr K C f/\fs.length<1000/\N (upd H a (.ins C dx (Fo f y fs))))
 |_=>False
section
variable {X:Cx}{ξ:List (Addr×Obj)}{σ:St}{H:Hp}{s:av}{A:bv}{E:am->av->Prop}
def bu5{f:Str}{x:V}{u:am}{b:Bool}{Q:VK}(I:Inv X ξ σ H s)(rx:RelV x u)(h:Bm X.K f x H Q):aY (model X.prog X.w) A (mq u f b) (EP X ξ σ Q) E s:=by
 cases x with
 |ref a=>
  cases rx
  obtain⟨C,dx,fs,v,ea,c,n,l,q⟩:=h
  exact Uw I ea c n l λu' s2 I2 ru=>⟨v,H,I2,ru,q⟩
 |_=>exact(h).elim
def b16{f:Str}{x y:V}{u v:am}{N:Hp->Prop}{Q:Unit->av->Prop}(I:Inv X ξ σ H s)(rx:RelV x u)(ry:RelV y v)(h:aq9 X.K f x y H N)(hQ:∀H' s',Inv X ξ σ H' s'->N H'->Q () s') :
  aY (model X.prog X.w) A (setAttr u f v) Q E s:=by
 cases x with
 |ref a=>
  cases rx
  obtain⟨C,dx,fs,ea,c,n,l,q⟩:=h
  exact Vp I ea c n l ry λs3 I3=>hQ _ _ I3 q
 |_=>exact(h).elim
end
structure FI where
 f:Addr
 fd:bj
 ps:List Str
 k:Nat
 sp:Sp
 dfs:List V
 ds:List am
structure MI where
 C:Addr
 i:FI
inductive GB where
 |fn (i:FI)
 |cls (C:Addr) (i:Option FI)
 |met (m:Str) (l:List MI)
 |val (v:V) (u:am)
 |key (m:Str) (l:List MI)
def Ct:List (Str×GB)->Str->Option (List MI)
 |[],_=>none
 |(_,.met m l)::r,x=>if m=x then some l else Ct r x
 |_::r,x=>Ct r x
theorem Co:∀{gb} {x} {l},Ct gb x=some l -> ∃k,(k,GB.met x l)∈gb
 | (k,.met m l')::r,x,l,h=>by
  unfold Ct at h
  by_cases e:m=x
  .rw[if_pos e] at h;cases h;subst e;exact⟨k,by simp⟩
  .rw[if_neg e] at h;obtain⟨k,q⟩:=Co h;exact⟨k,aA _ q⟩
 |(_,.fn _)::r,x,l,h=>by unfold Ct at h;obtain⟨k,q⟩:=Co h;exact⟨k,aA _ q⟩
 |(_,.cls _ _)::r,x,l,h=>by unfold Ct at h;obtain⟨k,q⟩:=Co h;exact⟨k,aA _ q⟩
 |(_,.val _ _)::r,x,l,h=>by unfold Ct at h;obtain⟨k,q⟩:=Co h;exact⟨k,aA _ q⟩
 |(_,.key _ _)::r,x,l,h=>by unfold Ct at h;obtain⟨k,q⟩:=Co h;exact⟨k,aA _ q⟩
def G9:List (Str×GB)->Str->Option (List MI)
 |[],_=>none
 | (_,g)::r,x=>match g with
  |.key m l=>if m=x then some l else G9 r x
  |_=>G9 r x
theorem Fi:∀{gb} {x} {l},G9 gb x=some l -> ∃k,(k,GB.key x l)∈gb
 |[],_,_,h=>by cases h
 | (k,g)::r,x,l,h=>by
  unfold G9 at h
  split at h
  .split at h
   .rename_i e
    cases h
    subst e
    exact⟨k,aD⟩
   .obtain⟨k,q⟩:=Fi h;exact⟨k,aA _ q⟩
  .obtain⟨k,q⟩:=Fi h;exact⟨k,aA _ q⟩
structure Sg where
 K:ac
 N:List Str
 sc:List (Str×cX)
 gb:List (Str×GB)
 bl:List Str
 top:Bool
 calm:Bool
def Eg:List Str->Str->Nat->Option Nat
 |[],_,_=>none
 |y::r,x,i=>if y=x then some i else Eg r x (i+1)
theorem Of:∀{N} {x} {i j},Eg N x j=some i->j<=i/\N[i-j]?=some x
 |[],_,_,_,h=>by cases h
 | y::r,x,i,j,h=>by
  unfold Eg at h
  by_cases e:y=x
  .rw[if_pos e] at h
   cases h
   refine⟨af _,?_⟩
   rw[gp,e]
   rfl
  .rw[if_neg e] at h
   obtain⟨h1,h2⟩:=Of h
   refine⟨by omega,?_⟩
   have:i-j=(i-(j+1))+1:=by omega
   rw[this,bN]
   exact h2
def Ft{N:List Str}{x:Str}{i:Nat}(h:Eg N x 0=some i):N[i]?=some x:=(Of h).2
def Ep(x:Str):Bool:=!(x==("__debug__" : Str)) && !(x==("__classdict__" : Str)) && !(x==("__name__" : Str))
def Pi(G:Sg)(x:Str):Bool:=(G.sc.lookup x==some .globalImplicit)&&Ep x
def Wz(x:Str):Option String:=
 if x="int" then some "int" else if x="bool" then some "bool" else if x="str" then some "str" else if x="list" then some "list" else if x="tuple" then some "tuple" else if x="dict" then some "dict" else none
def ac8{x:Str}{T:String}(h:Wz x=some T):cO x=some (.type T):=by
 unfold Wz at h
 by_cases e1:x="int"
 .rw[if_pos e1] at h;cases h;rw[e1];exact jR
 rw[if_neg e1] at h
 by_cases e2:x="bool"
 .rw[if_pos e2] at h;cases h;rw[e2];exact PyProof.Rows.boot_bool
 rw[if_neg e2] at h
 by_cases e3:x="str"
 .rw[if_pos e3] at h;cases h;rw[e3];exact PyProof.Rows.boot_str
 rw[if_neg e3] at h
 by_cases e4:x="list"
 .rw[if_pos e4] at h;cases h;rw[e4];exact gO
 rw[if_neg e4] at h
 by_cases e5:x="tuple"
 .rw[if_pos e5] at h;cases h;rw[e5];exact ji
 rw[if_neg e5] at h
 by_cases e6:x="dict"
 .rw[if_pos e6] at h;cases h;rw[e6];exact PyProof.Rows.boot_dict
 rw[if_neg e6] at h
 cases h
structure Ku (X:Cx) (i:FI):Prop where
 kp:bF X.K (.ref i.f)=true
 ok:FnOk X.prog X.w X.K X.mg X.base CX0 i.k i.f i.fd i.ps i.sp
 room:Room i.k X.A
 binds:∀j,j<=i.dfs.length->Binds X.K i.fd i.ps (i.ds.drop j)
 vals:Vals i.dfs i.ds
def bc0(X:Cx)(C:Addr):Option FI->Prop
 |none=>dJ X.K C=true/\bR X.K (.ref C) "__init__"=some (some (.builtin "object.__init__"))
 |some i=>dJ X.K C=true/\bR X.K (.ref C) "__init__"=some (some (.ref i.f))/\dF X.K (.ref i.f)=true/\Ku X i/\Room (i.k+1) X.A
structure bb9 (X:Cx) (m:Str) (mi:MI):Prop where
 c:Cls X.K mi.C
 k:Mn X.K mi.C m mi.i.f
 sg:eI X.K (.ref mi.i.f) "__get__"=some (some (.builtin "function.__get__"))
 tk:fJ X.K (.ref mi.i.f)=some false
 cn:PySem.W.copiedNames.contains m=false
 fi:Ku X mi.i
 room:Room (mi.i.k+2) X.A
def GBOk(X:Cx)(x:Str):GB->Prop
 |.fn i=>X.mg x=some (.ref i.f)/\Ku X i
 |.val v u=>X.mg x=some u/\RelV v u
 |.cls C oi=>X.mg x=some (.ref C)/\bF X.K (.ref C)=true/\bc0 X C oi
 |.met m l=>∀mi∈l,Cls X.K mi.C/\Mn X.K mi.C m mi.i.f/\Ku X mi.i
 |.key m l=>∀mi∈l,bb9 X m mi
def GBOk.to{X X':Cx}(hm:X'.mg=X.mg)(hK:X'.K=X.K)(hP:X'.prog=X.prog)(hw:X'.w=X.w)(hA:∀k,Room k X.A->Room k X'.A)(hf:∀i,Ku X i->Ku X' i){x:Str}{g:GB}(h:GBOk X x g):GBOk X' x g:=by
 cases g with
 |fn i=>exact⟨hm▸h.1,hf i h.2⟩
 |val v u=>exact⟨hm▸h.1,h.2⟩
 |cls C oi=>
  obtain⟨a,b,d⟩:=h
  refine⟨hm▸a,hK▸b,?_⟩
  cases oi with
  |none=>unfold bc0 at d ⊢;rw[hK];exact d
  |some i=>obtain⟨d1,d2,d3,d4,d5⟩:=d;exact⟨hK▸d1,hK▸d2,hK▸d3,hf i d4,hA _ d5⟩
 |met m l=>exact λmi hi=>⟨hK▸(h mi hi).1,hK▸(h mi hi).2.1,hf _ (h mi hi).2.2⟩
 |key m l=>exact λmi hi=>let q:=h mi hi;⟨hK▸q.c,hK▸q.k,hK▸q.sg,hK▸q.tk,q.cn,hf _ q.fi,hA _ q.room⟩
def FrH(X:Cx):Prop:=∃e0 o0 L,X.stack=e0::o0/\e0.frame=some L/\X.env.frame=some L
structure GOk (X:Cx) (G:Sg):Prop where
 K:X.K=G.K
 kind:X.env.scope.kind=.function
 own:G.top=true->i6 (model X.prog X.w) X.A X.env X.xe
 N:X.N=G.N
 nd:G.N.Nodup
 sc:∀x,X.env.scope.names.lookup x=G.sc.lookup x
 vis:∀x∈G.N,Vis X.env.scope x
 top:G.top=true -> ∀x,X.fn x=true
 calm:G.calm=X.calm
 hd:X.calm=true->X.A.handled=none
 units:X.A.units+64<cLine
 cel:∀x,(X.env.scope.names.lookup x=some .cell\/X.env.scope.names.lookup x=some .free) -> ∃c,X.env.cells.lookup x=some c
 gb:∀x g,(x,g)∈G.gb->GBOk X x g
 bl:∀x,G.bl.contains x=true->X.mg x=none
 frm:G.top=true->X.stack=X.env::X.outer/\X.env.frame=some X.env.locals
 fr:FrH X
section
variable {X:Cx}{G:Sg}
def GOk.at_(O:GOk X G)(x:Str)(g:GB)(e:G.gb.lookup x=some g):GBOk X x g:=O.gb x g (ce e)
def GOk.met(O:GOk X G)(m:Str)(l:List MI)(e:Ct G.gb m=some l):∀mi∈l,Cls X.K mi.C/\Mn X.K mi.C m mi.i.f/\Ku X mi.i:=by
 obtain⟨x,hx⟩:=Co e
 exact O.gb x _ hx
def GOk.gl(O:GOk X G){x:Str}(h:Pi G x=true):Gl X x:=by
 unfold Pi at h
 rw[aU] at h
 have:=cK h.1
 show X.env.scope.names.lookup x=_
 rw[O.sc x]
 exact this
def P2{x:Str}(h:Ep x=true):(x==("__debug__" : Str))=false/\(x==("__classdict__" : Str))=false/\x ≠ "__name__" := by
 unfold Ep at h
 simp only[aU,iX] at h
 exact⟨h.1.1,h.1.2,λe=>by rw[e] at h;simp at h⟩
def ak8{x:Str}(h:Pi G x=true):(x==("__debug__" : Str))=false/\(x==("__classdict__" : Str))=false/\x ≠ "__name__" := by
 unfold Pi at h
 rw[aU] at h
 exact P2 h.2
noncomputable def av8(G:Sg)(x:Str):DE:=
 match Eg G.N x 0 with
 |some i=>if Ep x=true then Ab i else dNo
 | none=>if Pi G x=true then(match G.gb.lookup x with
   |some (.val v _)=>dC v
   |some (.cls C _)=>dC (.ref C)
   |some _=>dNo
   | none=>if G.bl.contains x=true then(match Wz x with
    |some T=>dC (.ty T)
    |none=>dNo) else dNo) else dNo
def Bu{e:Expr}:QE X e dNo:=λ_ _ _ _ _ _ _ _ h=>h.elim
def bp9{i:Nat}{x:Str}{pos:Pos}(hN:X.N[i]?=some x)(hv:Vis X.env.scope x)(hp:Ep x=true):QE X (.Name x pos) (Ab i):=by
 intro Ex _ ξ s σ H Q I h
 unfold Ab at h
 split at h
 .rename_i v e
  exact bn8 hN hv (P2 hp).1 (P2 hp).2.1 ξ s σ H Q I ⟨v,e,h⟩
 .exact h.elim
def a35(O:GOk X G)(x:Str)(pos:Pos):QE X (.Name x pos) (av8 G x):=by
 unfold av8
 split
 .rename_i i e
  split
  .rename_i hp
   have hi:=Ft e
   exact bp9 (by rw[O.N];exact hi) (O.vis x (ah hi)) hp
  .exact Bu
 .split
  .rename_i hg
   have dd:=ak8 hg
   split
   .rename_i v u e
    obtain⟨h1,h2⟩:=O.at_ x _ e
    exact λ_ _=>Yh (O.gl hg) h1 h2 dd.1
   .rename_i C oi e
    exact λ_ _=>Yh (O.gl hg) (O.at_ x _ e).1 rfl dd.1
   .exact Bu
   .split
    .rename_i hb
     split
     .rename_i T e
      exact λ_ _=>a20 (O.gl hg) (O.bl x hb) (ac8 e) rfl dd.2.2 dd.1
     .exact Bu
    .exact Bu
  .exact Bu
noncomputable def av7:Const->DE
 |.int i=>dC (.int i)
 |.bool b=>dC (.bl b)
 |.none=>dC .non
 |.str x=>dC (.str x)
 |_=>dNo
def ap5(c:Const)(j:Nat)(pos:Pos):QE X (.Constant c j pos) (av7 c):=by
 cases c with
 |int i=>exact λ_ _=>bn2
 |bool b=>exact λ_ _=>bz4
 |none=>exact λ_ _=>bn4
 |str x=>exact λ_ _=>bn6
 |_=>exact Bu
variable {a b c:Expr}{da db dc:DE}{ta tb:DT}{es:List Expr}{r:DA}{pos:Pos}
def bo8(op:mj)(ha:QE X a da)(hb:QE X b db):QE X (.BinOp a op b pos) (Ah (rOp X.K op) da db):=λEx m=>bz6 (b91 op) (ha Ex m) (hb Ex m)
def bp4(ha:QE X a da):QE X (.UnaryOp .USub a pos) (dUn Yq da):=λEx m=>a90 cd7 (ha Ex m)
def bp1(ha:QE X a da):QE X (.UnaryOp .Invert a pos) (dUn Yp da):=λEx m=>a90 bv5 (ha Ex m)
def bp0(hu:X.A.units+64<cLine)(op:lR)(ha:QE X a da)(hb:QE X b db)(hm:gM op b=false):QE X (.Compare a [op] [b] pos) (Ah (Jc X.K op) da db):=λEx m=>a21 (Nq hu op) (ha Ex m) (hb Ex m) hm
def bq6(hu:X.A.units+64<cLine)(op:lR)(ha:QE X a da)(hb:QE X b db)(hm:gM op b=false):QT X (.Compare a [op] [b] pos) (Bb (Ah (Jc X.K op) da db)):=by
 intro Ex m ξ s σ H Q I h
 refine wpAny_isTrue_Compare1 (thn (ha Ex m ξ s σ H _ I h) λv s1 ⟨x,H1,I1,r1,q1⟩=>thn (hb Ex m ξ s1 σ H1 _ I1 q1) λu s2 ⟨y,H2,I2,r2,q2⟩=>
  thn (Nq hu op ξ s2 σ H2 x y v u _ I2 r1 r2 q2) λc s3 ⟨z,H3,I3,r3,q3⟩=>?_) hm
 cases z with
 |bl k=>cases r3;exact c9 ⟨H3,I3,q3⟩
 |_=>exact(q3).elim
def ap4(hu:X.A.units+64<cLine)(op op':lR)(ha:QE X a da)(hb:QE X b db)(hc:QE X c dc)(hm:lq [op,op'] [b,c]=false) :
  QE X (.Compare a [op,op'] [b,c] pos) (Dv (Jc X.K op) (Jc X.K op') da db dc):=by
 intro Ex m ξ s σ H Q I h
 refine Compare_chain (thn (ha Ex m ξ s σ H _ I h) λv s1 ⟨x,H1,I1,r1,q1⟩=>chain_link (thn (hb Ex m ξ s1 σ H1 _ I1 q1) λu s2 ⟨y,H2,I2,r2,q2⟩=>
  thn (Nq hu op ξ s2 σ H2 x y v u _ I2 r1 r2 q2) λd s3 ⟨z,H3,I3,r3,q3⟩=>?_)) hm
 cases z with
 |bl k=>
  cases r3
  refine c9 ?_
  cases k with
  |false=>exact ite_ff ⟨.bl false,H3,I3,rfl,q3⟩
  |true=>exact ite_tt (chain_last (thn (hc Ex m ξ s3 σ H3 _ I3 q3) λw' s4 ⟨z',H4,I4,r4,q4⟩=>Nq hu op' ξ s4 σ H4 y z' u w' Q I4 r2 r4 q4))
 |_=>exact(q3).elim
def aq3(hu:X.A.units+64<cLine)(op op':lR)(ha:QE X a da)(hb:QE X b db)(hc:QE X c dc)(hm:lq [op,op'] [b,c]=false) :
  QT X (.Compare a [op,op'] [b,c] pos) (Bb (Dv (Jc X.K op) (Jc X.K op') da db dc)):=by
 intro Ex m ξ s σ H Q I h
 refine isTrue_chain (thn (ha Ex m ξ s σ H _ I h) λv s1 ⟨x,H1,I1,r1,q1⟩=>test_link (thn (hb Ex m ξ s1 σ H1 _ I1 q1) λu s2 ⟨y,H2,I2,r2,q2⟩=>
  thn (Nq hu op ξ s2 σ H2 x y v u _ I2 r1 r2 q2) λd s3 ⟨z,H3,I3,r3,q3⟩=>?_)) hm
 cases z with
 |bl k=>
  cases r3
  refine c9 ?_
  cases k with
  |false=>exact ite_ff ⟨H3,I3,q3⟩
  |true=>
   refine ite_tt (test_last (thn (hc Ex m ξ s3 σ H3 _ I3 q3) λw' s4 ⟨z',H4,I4,r4,q4⟩=>thn (Nq hu op' ξ s4 σ H4 y z' u w' _ I4 r2 r4 q4) λd' s5 ⟨z2,H5,I5,r5,q5⟩=>?_))
   cases z2 with
   |bl k2=>cases r5;exact c9 ⟨H5,I5,q5⟩
   |_=>exact(q5).elim
 |_=>exact(q3).elim
def ao7:Expr->Bool
 |.UnaryOp .Not _ _=>false
 |.BoolOp _ _ _=>false
 |.IfExp _ _ _ _=>false
 |.Compare _ _ _ _=>false
 |_=>true
def aa6{e:Expr}(h:ao7 e=true)(whole:Sem am):isTrue e X.env whole=(do let v <- whole;standAt e.pos;holding [v] (truthy v)):=by
 cases e with
 |UnaryOp op _ _=>cases op <;> first|rfl|cases h
 |BoolOp _ _ _=>cases h
 |IfExp _ _ _ _=>cases h
 |Compare _ _ _ _=>cases h
 |_=>rfl
def aq4(ha:QE X a da)(h:ao7 a=true):QT X a (Dw X.K da):=by
 intro Ex m ξ s σ H Q I hw
 exact isTrue_plain (thn (ha Ex m ξ s σ H _ I hw) λv s1 ⟨x,H1,I1,r1,q1⟩=>Y7 ξ s1 σ H1 x v Q I1 r1 q1) (aa6 h _)
def bq7(ha:QT X a ta):QT X (.UnaryOp .Not a pos) (Fd ta):=λEx m=>bo4 (ha Ex m)
def a45(ha:QT X a ta):QW X (.BoolOp .And [a] pos) ta:=λEx m=>a30 (ha Ex m)
def bq9(ha:QT X a ta):QW X (.BoolOp .Or [a] pos) ta:=λEx m=>bo6 (ha Ex m)
def bq8(ha:QT X a ta)(hb:QW X (.BoolOp .And (b::es) pos) tb):QW X (.BoolOp .And (a::b::es) pos) (O7 ta tb):=λEx m=>bo5 (ha Ex m) (hb Ex m)
def b07(ha:QT X a ta)(hb:QW X (.BoolOp .Or (b::es) pos) tb):QW X (.BoolOp .Or (a::b::es) pos) (dOr ta tb):=λEx m=>b00 (ha Ex m) (hb Ex m)
def bp6{op:BoolOp}(ha:QE X a da):QE X (.BoolOp op [a] pos) da:=λEx m=>bn5 (ha Ex m)
def bo7(ha:QE X a da)(hb:QE X (.BoolOp .And (b::es) pos) db):QE X (.BoolOp .And (a::b::es) pos) (Nt X.K da db):=by
 intro Ex m ξ s σ H Q I h
 refine BoolOp_and (thn (ha Ex m ξ s σ H _ I h) λv s1 ⟨x,H1,I1,r1,q1⟩=>thn (Y7 ξ s1 σ H1 x v _ I1 r1 q1) λk s2 ⟨H2,I2,q2⟩=>?_)
 cases k with
 |true=>exact hb Ex m ξ s2 σ H2 Q I2 q2
 |false=>exact⟨x,H2,I2,r1,q2⟩
def b05(ha:QE X a da)(hb:QE X (.BoolOp .Or (b::es) pos) db):QE X (.BoolOp .Or (a::b::es) pos) (bu0 X.K da db):=by
 intro Ex m ξ s σ H Q I h
 refine BoolOp_or (thn (ha Ex m ξ s σ H _ I h) λv s1 ⟨x,H1,I1,r1,q1⟩=>thn (Y7 ξ s1 σ H1 x v _ I1 r1 q1) λk s2 ⟨H2,I2,q2⟩=>?_)
 cases k with
 |false=>exact hb Ex m ξ s2 σ H2 Q I2 q2
 |true=>exact⟨x,H2,I2,r1,q2⟩
def bp5(ha:QE X a da):QE X (.UnaryOp .Not a pos) (ai4 X.K da):=by
 intro Ex m ξ s σ H Q I h
 exact UnaryOp_ (thn (ha Ex m ξ s σ H _ I h) λv s1 ⟨x,H1,I1,r1,q1⟩=>not_of (thn (Y7 ξ s1 σ H1 x v _ I1 r1 q1) λk s2 ⟨H2,I2,q2⟩=>⟨.bl (!k),H2,I2,rfl,q2⟩))
def A9:Expr->Bool
 |.Starred _ _=>false
 |_=>true
def A7{e:Expr}(h:A9 e=true)(es:List Expr)(env:Env):df (e::es) env=(false,eval e env)::df es env:=by
 cases e with
 |Starred _ _=>cases h
 |_=>rfl
def Cb{es:List Expr}(h:es.all A9=true)(env:Env)(pos:Pos):(jW pos (df es env)).any (·.1)=false:=by
 induction es with
 |nil=>rfl
 |cons e es ih=>
  rw[bV,aU] at h
  rw[A7 h.1]
  show(false||(jW pos (df es env)).any (·.1))=false
  rw[ih h.2]
  rfl
def Jq{es:List Expr}(h:es.all A9=true)(env:Env)(pos:Pos):(jW pos (df es env)).all (λx=>!x.1)=true:=by
 induction es with
 |nil=>rfl
 |cons e es ih=>
  rw[bV,aU] at h
  rw[A7 h.1]
  show(true&&(jW pos (df es env)).all (λx=>!x.1))=true
  rw[ih h.2]
  rfl
def P3:QA X [] Ag:=λ_ _=>bn1
def Km(ha:QE X a da)(hr:QA X es r)(hs:A9 a=true):QA X (a::es) (Ac da r):=λEx m=>a19 (ha Ex m) (hr Ex m) (A7 hs es X.env)
def bp8{k:Nat}(h:QA X es r):QE X (.Tuple es k pos) (C4 r):=λEx m=>bn7 (h Ex m)
def bp2(h:QA X es r):QE X (.List es pos) (B9 r):=λEx m=>bn3 (h Ex m)
def Kk:Expr->Bool
 |.Slice _ _ _ _=>false
 |_=>true
def Va{e:Expr}(h:Kk e=true):Xh e:=by
 intro o i
 cases e with
 |Slice _ _ _ _=>cases h
 |_=>rfl
def b01(hu:X.A.units+64<cLine)(ha:QE X a da)(hb:QE X b db)(h:Kk b=true):QE X (.Subscript a b pos) (Ah (Av X.K) da db):=λEx m=>bz5 (b89 hu) (ha Ex m) (hb Ex m) (Va h)
def a31{f:Str}(ha:QE X a da)(h:jq a f X.env (eval a X.env)=eval a X.env):QE X (.Attribute a f pos) (dUn (Bm X.K f) da):=by
 intro Ex m ξ s σ H Q I hw
 exact Xp h (thn (ha Ex m ξ s σ H _ I hw) λu s1 ⟨x,H1,I1,rx,q⟩=>bu5 I1 rx q)
end
end L2
namespace PySem.SeqAt
open AutoSeq1 (wpAny_loadPart')
open MeetsSeq MeetsSeq2 MeetsSeq3
end PySem.SeqAt
namespace PySem.W
open PySem PySem.Calls PyProof.Rows
def kRun{α:Type}(n:Nat)(lt:Nat->Nat->Bool):KasT α->Option α
 |.ret a=>some a
 |.ask i j k=>if i<n/\j<n then kRun n lt (k (lt i j)) else none
theorem kRun_wp{α:Type}{n:Nat}{lt:Nat->Nat->Bool}{cmp:Nat->Nat->(Bool->av->Prop)->av->Prop}{G:α->av->Prop}{s:av}(h:∀i j C,i<n->j<n->C (lt i j) s->cmp i j C s) :
  ∀{t} {a},kRun n lt t=some a->G a s->t.kasWp cmp G s
 | .ret b,a,e,g=>by
  have:b=a:=aJ e
  subst this
  exact g
 | .ask i j k,a,e,g=>by
  unfold kRun at e
  split at e
  .rename_i hij
   exact h i j _ hij.1 hij.2 (kRun_wp h e g)
  .cases e
section
variable {prog:a_}{w:bB}{A:bv}{E:am->av->Prop}{s:av}{vs:List am}
def SoFin(a:Addr)(e:Nat)(out:List am)(C:av->Prop)(s:av):Prop:=
 s.heap.get? a=some (bH "list" #[] e)/\∀h' c,h'.get? a=some (bH "list" (dX out) c)->bP a s.heap h'->C {s with heap:=h'}
def SoFin.mono{a:Addr}{e:Nat}{out:List am}{C C':av->Prop}(h:SoFin a e out C s)(hc:∀s,C s->C' s):SoFin a e out C' s:=⟨h.1,λh' c x y=>hc _ (h.2 h' c x y)⟩
def Qd{n:Nat}{a:Addr}{P:lW->av->Prop}(ho:s.heap.get? a=some (bH "list" vs.toArray n))(h2:2<=vs.length)(h64:vs.length<64)(h:∀e1 h',h'.get? a=some (bH "list" #[] e1)->(∀b o,b≠a->s.heap.get? b=some o->h'.get? b=some o) ->
   aY (model prog w) A (jr vs.toArray) (λκ s'=>(kas_sort vs.length).kasWp (kas_ask prog w A κ vs) (λp s''=>SoFin a e1 (p.toList.map λi=>vs.getD i bT) (λs3=>P (.done (.ret .none)) s3) s'') s') (λ_ _=>False) {s with heap:=h'}) :
  aY (model prog w) A (aX.«list.sort» ⟨[.ref a],[]⟩) P E s:=by
 have ha:=aO ho
 have s1:=bI s.heap a (bL λ_=>(#[]:Array am))
 obtain⟨e1,ho1⟩:∃e1,(s.heap.update a (bL λ_=>(#[]:Array am))).get? a=some (bH "list" #[] e1):=⟨_,eJ ho λ_=>#[]⟩
 have ask:=h e1 (((s.heap.update a (bL λ_=>(#[]:Array am))).push (bH "tuple" vs.toArray 0)).push (bH "list" #[] 0)) (ai _ (ai _ ho1))
  (λb o nb e=>ai _ (ai _ ((s1.2 b nb).trans e)))
 rw[list_sort_plain]
 refine ag (j0 ho rfl ?_)
 refine ag (fh ho rfl ?_ (by rw[ay,b_];omega) (bw _))
 refine ag (iw ho1 rfl ?_)
 refine ag (kD ?_ (by show vs.length<=_;rw[b_];omega))
 refine ag (fU ?_ (bw _))
 refine bz ?_
 have hn2:¬ vs.toArray.size<2:=by rw[ay];omega
 rw[if_neg hn2,if_neg hn2]
 refine ag (bU ask (λκ s0 hk=>?_) λ_ _ x=>x.elim)
 refine ag (bU (kat_run (Q:=λst' s'=>∃p,p.size=vs.length/\arrOf st'=p.map (kas_item (vs.toArray.zip vs.toArray))/\failedOf st'=none/\SoFin a e1 (p.toList.map λi=>vs.getD i bT) (λs''=>P (.done (.ret .none)) s'') s')
  rfl h2 h64 (λp' st' s' a1 a2 a3 a4=>⟨p',a1,a2,a3,a4⟩) hk) ?_ λ_ _ e=>e)
 rintro⟨⟨⟩,st'⟩ s' ⟨p,hp,har,hf,na,k⟩
 dsimp only
 have hout:=kat_snds rfl har
 have hsz:(dX (p.toList.map λi=>vs.getD i bT)).size=vs.length:=by rw[ay,ae,cb,hp]
 rw[hout]
 have s2:=bI s'.heap a (bL λ_=>dX (p.toList.map λi=>vs.getD i bT))
 obtain⟨c2,hc2⟩:∃c2,(s'.heap.update a (bL λ_=>dX (p.toList.map λi=>vs.getD i bT))).get? a=some (bH "list" (dX (p.toList.map λi=>vs.getD i bT)) c2):=⟨_,eJ na λ_=>dX (p.toList.map λi=>vs.getD i bT)⟩
 refine ag (iw na rfl ?_)
 refine ag (fh na rfl ?_ (bw _) (aT (lJ hsz) (by rw[b_];omega)))
 rw[hf]
 simp only[bne_self_eq_false,dR,if_false]
 exact ar (k _ c2 hc2 s2)
end
end PySem.W
namespace L2
open PySem PySem.Spec PyProof.Rows
def Ed:cO "sorted"=some (.builtin "sorted"):=by decide +kernel
end L2
namespace PySem.W
open PySem PySem.Calls PyProof.Rows
section
variable {n:Nat}{lt:Nat->Nat->Bool}
theorem Dr{α β:Type}{f:α->KasT β}:∀t,kRun n lt (t.bind f)=(kRun n lt t).bind λa=>kRun n lt (f a)
 |.ret a=>rfl
 | .ask i j k=>by
  show(if i<n/\j<n then kRun n lt ((k (lt i j)).bind f) else none)=(if i<n/\j<n then kRun n lt (k (lt i j)) else none).bind _
  by_cases h:i<n/\j<n
  .rw[if_pos h,if_pos h,Dr (k (lt i j))]
  .rw[if_neg h,if_neg h];rfl
structure Tot (n:Nat) (lt:Nat->Nat->Bool):Prop where
 tot:∀i j,i<n->j<n->i≠j->lt i j = !lt j i
 tr:∀i j k,i<n->j<n->k<n->lt i j=true->lt j k=true->lt i k=true
def pg(p:Array Nat)(i:Nat):Nat:=p.getD i 0
def PermN(n:Nat)(p:Array Nat):Prop:=p.toList.Perm (aV n)
theorem PermN.size{p:Array Nat}(h:PermN n p):p.size=n:=by
 have:=h.length_eq
 simpa using this
def pg_get{p:Array Nat}{i:Nat}(h:i<p.size):p[i]?=some (pg p i):=by
 unfold pg
 rw[Array.getD_eq_getD_getElem?,ba h]
 rfl
def PermN.bd{p:Array Nat}(h:PermN n p){i:Nat}(hi:i<n):pg p i<n:=by
 have hs:i<p.size:=by rw[h.size];exact hi
 have hm:pg p i∈p.toList:=by
  have:=pg_get hs
  rw[<- cA] at this
  exact ah this
 exact List.mem_range.mp (h.mem_iff.mp hm)
def PermN.inj{p:Array Nat}(h:PermN n p){i j:Nat}(hi:i<n)(hj:j<n)(e:pg p i=pg p j):i=j:=by
 have nd:=(h.nodup_iff).mpr List.nodup_range
 have ei:=pg_get (by rw[h.size];exact hi)
 have ej:=pg_get (by rw[h.size];exact hj)
 rw[<- cA] at ei ej
 have li:i<p.toList.length:=by rw[cb,h.size];exact hi
 refine(i5 li nd).mp ?_
 rw[ei,ej,e]
def Srt(lt:Nat->Nat->Bool)(p:Array Nat)(m:Nat):Prop:=∀i j,i<j->j<m->lt (pg p i) (pg p j)=true
def Dsc(lt:Nat->Nat->Bool)(p:Array Nat)(m:Nat):Prop:=∀i j,i<j->j<m->lt (pg p j) (pg p i)=true
def Em{α:Type}{i j:Nat}{k:Bool->KasT α}(hi:i<n)(hj:j<n):kRun n lt (.ask i j k)=kRun n lt (k (lt i j)):=if_pos ⟨hi,hj⟩
variable (T:Tot n lt) {p:Array Nat} (h:PermN n p)
include T h
theorem Gy:∀f k,1<=k->k+f<=n->Srt lt p k -> ∃m,kRun n lt (mr p f k)=some m/\k<=m/\m<=k+f/\Srt lt p m
 |0,k,h1,h2,hs=>⟨k,rfl,af _,af _,hs⟩
 | f+1,k,h1,h2,hs=>by
  have e:kRun n lt (mr p (f+1) k)=kRun n lt (if lt (pg p k) (pg p (k-1))=true then .ret k else mr p f (k+1)):=Em (h.bd (by omega)) (h.bd (by omega))
  rw[e]
  cases c:lt (pg p k) (pg p (k-1)) with
  |true=>exact⟨k,rfl,af _,by omega,hs⟩
  |false=>
   have c1:lt (pg p (k-1)) (pg p k)=true:=by
    rw[T.tot _ _ (h.bd (by omega)) (h.bd (by omega)) (λq=>by have:=h.inj (by omega) (by omega) q;omega),c];rfl
   obtain⟨m,r1,r2,r3,r4⟩:=Gy f (k+1) (by omega) (by omega) (λi j hij hj=>by
    by_cases hk:j<k
    .exact hs i j hij hk
    .have:j=k:=by omega
     subst this
     by_cases hi:i=j-1
     .subst hi;exact c1
     .exact T.tr _ _ _ (h.bd (by omega)) (h.bd (by omega)) (h.bd (by omega)) (hs i (j-1) (by omega) (by omega)) c1)
   exact⟨m,r1,by omega,by omega,r4⟩
theorem Rt:∀f k,1<=k->k+f<=n->Dsc lt p k -> ∃m,kRun n lt (lj f p k 0)=some (p,m,0)/\k<=m/\m<=k+f/\Dsc lt p m
 |0,k,h1,h2,hs=>⟨k,rfl,af _,af _,hs⟩
 | f+1,k,h1,h2,hs=>by
  have e:kRun n lt (lj (f+1) p k 0)=kRun n lt (if lt (pg p k) (pg p (k-1))=true then(if 0 > 0 then lj f (jY p (k-(0+1)) k) (k+1) 0 else lj f p (k+1) 0) else .ask (pg p (k-1)) (pg p k) λd=>if d=true then .ret (p,k,0) else lj f p (k+1) (0+1)):=Em (h.bd (by omega)) (h.bd (by omega))
  rw[e]
  cases c:lt (pg p k) (pg p (k-1)) with
  |true=>
   rw[if_pos rfl,if_neg (by omega)]
   obtain⟨m,r1,r2,r3,r4⟩:=Rt f (k+1) (by omega) (by omega) (λi j hij hj=>by
    by_cases hk:j<k
    .exact hs i j hij hk
    .have:j=k:=by omega
     subst this
     by_cases hi:i=j-1
     .subst hi;exact c
     .exact T.tr _ _ _ (h.bd (by omega)) (h.bd (by omega)) (h.bd (by omega)) c (hs i (j-1) (by omega) (by omega)))
   exact⟨m,r1,by omega,by omega,r4⟩
  |false=>
   have c1:lt (pg p (k-1)) (pg p k)=true:=by
    rw[T.tot _ _ (h.bd (by omega)) (h.bd (by omega)) (λq=>by have:=h.inj (by omega) (by omega) q;omega),c];rfl
   rw[if_neg aM,Em (h.bd (by omega)) (h.bd (by omega)),c1]
   exact⟨k,rfl,af _,by omega,hs⟩
omit T in
def a46{m:Nat}(hm:m<=n)(hd:Dsc lt p m):PermN n (jY p 0 m)/\Srt lt (jY p 0 m) m:=by
 have hp:PermN n (jY p 0 m):=by
  have:=mirror_perm p 0 m ((m-0)/2)
  exact(Array.perm_iff_toList_perm.mp this).trans h
 have gt:∀k,k<m->pg (jY p 0 m) k=pg p (m-1-k):=λk hk=>by
  have e:=getElem?_mirror_all (i:=0) (by rw[h.size];exact hm) k
  have e1:(jY p 0 m)[k]?=some (pg (jY p 0 m) k):=pg_get (by rw[hp.size];omega)
  have e2:p[m-1-k]?=some (pg p (m-1-k)):=pg_get (by rw[h.size];omega)
  have e':(jY p 0 m)[k]?=p[m-1-k]?:=by
   refine e.trans ?_
   rw[if_pos (by omega)]
   congr 1
   omega
  rw[e1,e2] at e'
  exact aJ e'
 refine⟨hp,λi j hij hj=>?_⟩
 rw[gt i (by omega),gt j hj]
 exact hd _ _ (by omega) (by omega)
def Zn(hn:1<=n):∃m p',kRun n lt (kas_count n p)=some (m,p')/\PermN n p'/\1<=m/\m<=n/\Srt lt p' m:=by
 obtain⟨m,r1,r2,r3,r4⟩:=Gy T h (n-1) 1 (af _) (by omega) (λi j hij hj=>by omega)
 unfold kas_count
 rw[Dr,r1,g7]
 by_cases hm:m=n
 .have e:(m==n)=true:=by rw[hm];exact beq_self_eq_true n
  rw[if_pos e]
  exact⟨m,p,rfl,h,r2,by omega,r4⟩
 .have e:¬ (m==n)=true:=λq=>hm (beq_iff_eq.mp q)
  rw[if_neg e]
  by_cases h1:m > 1
  .rw[if_pos h1]
   have:=Em (lt:=lt) (k:=λc=>if c=true then KasT.ret (m,p) else kas_descPart m n (jY p 0 m)) (h.bd (i:=0) (by omega)) (h.bd (i:=m-1) (by omega))
   refine⟨m,p,this.trans ?_,h,r2,by omega,r4⟩
   have e1:=r4 0 (m-1) (by omega) (by omega)
   rw[e1]
   rfl
  .rw[if_neg h1]
   have hm1:m=1:=by omega
   subst hm1
   unfold kas_descPart
   have hd:∃d,kRun n lt (lj (n-(1+1)) p (1+1) 0)=some (p,d,0)/\1<=d/\d<=n/\Dsc lt p d:=by
    by_cases c:lt (pg p 1) (pg p 0)=true
    .obtain⟨d,q1,q2,q3,q4⟩:=Rt T h (n-2) 2 (by omega) (by omega) (λi j hij hj=>by
      have:i=0:=by omega
      have:j=1:=by omega
      subst i j;exact c)
     exact⟨d,q1,by omega,by omega,q4⟩
    .exfalso
     have e:=Gy T h (n-1) 1 (af _) (by omega) (λi j hij hj=>by omega)
     obtain⟨m',a1,a2,a3,a4⟩:=e
     obtain⟨f,hf⟩:∃f,n-1=f+1:=⟨n-2,by omega⟩
     rw[hf] at r1
     have e2:kRun n lt (mr p (f+1) 1)=kRun n lt (if lt (pg p 1) (pg p (1-1))=true then .ret 1 else mr p f (1+1)):=Em (h.bd (by omega)) (h.bd (by omega))
     rw[e2,if_neg c] at r1
     have c0:lt (pg p 1) (pg p 0)=false:=by simpa using c
     have c1:lt (pg p 0) (pg p 1)=true:=by
      rw[T.tot _ _ (h.bd (by omega)) (h.bd (by omega)) (λq=>by have:=h.inj (by omega) (by omega) q;omega),c0];rfl
     obtain⟨m2,b1,b2,b3,b4⟩:=Gy T h f 2 (by omega) (by omega) (λi j hij hj=>by
      have:i=0:=by omega
      have:j=1:=by omega
      subst i j;exact c1)
     rw[r1] at b1
     cases b1
     omega
   obtain⟨d,q1,q2,q3,q4⟩:=hd
   rw[Dr,q1,g7]
   show ∃m p',kRun n lt (if 0 > 0 then _ else kas_tail3 d n p)=some (m,p')/\_
   rw[if_neg (by omega)]
   unfold kas_tail3
   obtain⟨hp,hs⟩:=a46 h q3 q4
   obtain⟨m',a1,a2,a3,a4⟩:=Gy T hp (n-d) d q2 (by omega) hs
   rw[Dr,a1,g7]
   exact⟨m',_,rfl,hp,by omega,by omega,a4⟩
theorem Iy{k:Nat}(hk:k<n)(hs:Srt lt p k):∀f l r,l<=r->r<=k->r-l<=f->(∀i,i<l->lt (pg p i) (pg p k)=true)->(∀i,r<=i->i<k->lt (pg p k) (pg p i)=true) ->
  ∃m,kRun n lt (iu p k f l r)=some m/\m<=k/\(∀i,i<m->lt (pg p i) (pg p k)=true)/\(∀i,m<=i->i<k->lt (pg p k) (pg p i)=true)
 |0,l,r,h1,h2,h3,hl,hr=>⟨l,rfl,by omega,hl,λi a b=>hr i (by omega) b⟩
 | f+1,l,r,h1,h2,h3,hl,hr=>by
  by_cases hlr:l ≥ r
  .have e:iu p k (f+1) l r=.ret l:=by unfold iu;rw[if_pos hlr]
   rw[e]
   exact⟨l,rfl,by omega,hl,λi a b=>hr i (by omega) b⟩
  .have e:kRun n lt (iu p k (f+1) l r)=kRun n lt (if lt (pg p k) (pg p ((l+r)/2))=true then iu p k f l ((l+r)/2) else iu p k f ((l+r)/2+1) r):=by
    conv=>lhs;unfold iu
    rw[if_neg hlr]
    exact Em (h.bd hk) (h.bd (by omega))
   rw[e]
   have hm1:l<=(l+r)/2:=by omega
   have hm2:(l+r)/2<r:=by omega
   generalize (l+r)/2=mid at hm1 hm2 ⊢
   cases c:lt (pg p k) (pg p mid) with
   |true=>
    rw[if_pos rfl]
    refine Iy hk hs f l mid hm1 (by omega) (by omega) hl λi a b=>?_
    by_cases hi:i=mid
    .subst hi;exact c
    .exact T.tr _ _ _ (h.bd hk) (h.bd (by omega)) (h.bd (by omega)) c (hs mid i (by omega) b)
   |false=>
    rw[if_neg aM]
    have c1:lt (pg p mid) (pg p k)=true:=by
     rw[T.tot _ _ (h.bd (by omega)) (h.bd hk) (λq=>by have:=h.inj (by omega) hk q;omega),c];rfl
    refine Iy hk hs f (mid+1) r (by omega) h2 (by omega) (λi a=>?_) hr
    by_cases hi:i=mid
    .subst hi;exact c1
    .exact T.tr _ _ _ (h.bd (by omega)) (h.bd (by omega)) (h.bd hk) (hs i mid (by omega) (by omega)) c1
omit T in
def Uf{k l:Nat}(hk:k<n)(hl:l<=k)(hs:Srt lt p k)(h1:∀i,i<l->lt (pg p i) (pg p k)=true)(h2:∀i,l<=i->i<k->lt (pg p k) (pg p i)=true):PermN n (mf p k (k-l))/\Srt lt (mf p k (k-l)) (k+1):=by
 have hp:PermN n (mf p k (k-l)):=(Array.perm_iff_toList_perm.mp (bubble_perm p k (k-l))).trans h
 have hk':k<p.size:=by rw[h.size];exact hk
 have gt:∀i,i<k+1->pg (mf p k (k-l)) i=if i=l then pg p k else if l<i then pg p (i-1) else pg p i:=λi hi=>by
  have e:=getElem?_bubble hk' (k-l) (by omega) i
  have e1:(mf p k (k-l))[i]?=some (pg (mf p k (k-l)) i):=pg_get (by rw[hp.size];omega)
  rw[e1,show k-(k-l)=l by omega] at e
  by_cases a:i=l
  .rw[if_pos a] at e ⊢
   rw[pg_get hk'] at e
   exact aJ e
  .rw[if_neg a] at e ⊢
   by_cases b:l<i
   .rw[if_pos ⟨b,by omega⟩] at e
    rw[if_pos b]
    rw[pg_get (by rw[h.size];omega)] at e
    exact aJ e
   .rw[if_neg (λq=>b q.1)] at e
    rw[if_neg b]
    rw[pg_get (by rw[h.size];omega)] at e
    exact aJ e
 refine⟨hp,λi j hij hj=>?_⟩
 rw[gt i (by omega),gt j hj]
 by_cases a:i=l
 .rw[if_pos a,if_neg (by omega),if_pos (by omega)]
  exact h2 (j-1) (by omega) (by omega)
 .rw[if_neg a]
  by_cases b:l<i
  .rw[if_pos b,if_neg (by omega),if_pos (by omega)]
   exact hs (i-1) (j-1) (by omega) (by omega)
  .rw[if_neg b]
   by_cases c:j=l
   .rw[if_pos c];exact h1 i (by omega)
   .rw[if_neg c]
    by_cases d:l<j
    .rw[if_pos d]
     exact hs i (j-1) (by omega) (by omega)
    .rw[if_neg d];exact hs i j hij (by omega)
end
theorem Xs{n:Nat}{lt:Nat->Nat->Bool}(T:Tot n lt):∀f p k,PermN n p->k+f=n->Srt lt p k -> ∃p',kRun n lt (kas_bin f p k)=some p'/\PermN n p'/\Srt lt p' n
 |0,p,k,h,e,hs=>⟨p,rfl,h,by rw[<- e];exact hs⟩
 | f+1,p,k,h,e,hs=>by
  obtain⟨l,a1,a2,a3,a4⟩:=Iy T h (by omega) hs k 0 k (bw _) (af _) (by omega) (λi hi=>by omega) (λi a b=>by omega)
  obtain⟨b1,b2⟩:=Uf h (by omega) a2 hs a3 a4
  obtain⟨p',c1,c2,c3⟩:=Xs T f _ (k+1) b1 (by omega) b2
  refine⟨p',?_,c2,c3⟩
  show kRun n lt ((iu p k k 0 k).bind λl=>kas_bin f (mf p k (k-l)) (k+1))=some p'
  rw[Dr,a1]
  exact c1
def sort_run{n:Nat}{lt:Nat->Nat->Bool}(T:Tot n lt)(hn:1<=n):∃p,kRun n lt (kas_sort n)=some p/\PermN n p/\Srt lt p n:=by
 have h0:PermN n (dX (aV n)):=by show(dX (aV n)).toList.Perm _;exact iM _
 obtain⟨m,p,r1,r2,r3,r4,r5⟩:=Zn T h0 hn
 unfold kas_sort
 rw[Dr,r1,g7]
 by_cases h:m<n
 .rw[if_pos h,Nat.max_eq_left r3]
  exact Xs T (n-m) p m r2 (by omega) r5
 .rw[if_neg h]
  have:m=n:=by omega
  subst this
  exact⟨p,rfl,r2,r5⟩
end PySem.W
namespace L2
open PySem PySem.Spec PyProof.Rows
section
variable {α:Type}
def Jv(lt:α->α->Bool)(z:α):List α->List α
 |[]=>[z]
 |y::ys=>if lt z y=true then z::y::ys else y::Jv lt z ys
def Bq(lt:α->α->Bool):List α->List α
 |[]=>[]
 |z::zs=>Jv lt z (Bq lt zs)
structure OrdL (lt:α->α->Bool) (zs:List α):Prop where
 tot:∀a∈zs,∀b∈zs,a≠b->lt a b = !lt b a
 tr:∀a∈zs,∀b∈zs,∀c∈zs,lt a b=true->lt b c=true->lt a c=true
 nd:zs.Nodup
theorem Il(lt:α->α->Bool)(z:α):∀ys,(Jv lt z ys).Perm (z::ys)
 |[]=>iM _
 | y::ys=>by
  unfold Jv
  split
  .exact iM _
  .exact ((Il lt z ys).cons y).trans (List.Perm.swap z y ys)
theorem Aw(lt:α->α->Bool):∀zs,(Bq lt zs).Perm zs
 |[]=>iM _
 |z::zs=>(Il lt z _).trans ((Aw lt zs).cons z)
def OrdL.of{lt:α->α->Bool}{zs ys:List α}(h:OrdL lt zs)(hs:∀a∈ys,a∈zs)(nd:ys.Nodup):OrdL lt ys:=⟨λa ha b hb=>h.tot a (hs a ha) b (hs b hb),λa ha b hb c hc=>h.tr a (hs a ha) b (hs b hb) c (hs c hc),nd⟩
theorem Nz{lt:α->α->Bool}{z:α}:∀{ys},OrdL lt (z::ys)->ys.Pairwise (λa b=>lt a b=true)->(Jv lt z ys).Pairwise (λa b=>lt a b=true)
 |[],_,_=>List.pairwise_singleton _ _
 | y::ys,h,hp=>by
  rw[dW] at hp
  have nd:=h.nd
  rw[bG] at nd
  have ny:=nd.2
  rw[bG] at ny
  unfold Jv
  split
  .rename_i c
   refine List.pairwise_cons.mpr ⟨λb hb=>?_,List.pairwise_cons.mpr hp⟩
   rcases List.mem_cons.mp hb with rfl|hb'
   .exact c
   .exact h.tr z (.head _) y (.tail _ (.head _)) b (.tail _ hb) c (hp.1 b hb')
  .rename_i c
   have c:lt z y=false:=by simpa using c
   have c1:lt y z=true:=by rw[h.tot y (.tail _ (.head _)) z (.head _) (λe=>nd.1 (e▸.head _)),c];rfl
   have hz:=h.of (λa ha=>by rcases List.mem_cons.mp ha with rfl|q;exact .head _;exact .tail _ (.tail _ q)) (List.nodup_cons.mpr ⟨λq=>nd.1 (.tail _ q),ny.2⟩)
   refine List.pairwise_cons.mpr ⟨λb hb=>?_,Nz hz hp.2⟩
   rcases List.mem_cons.mp ((Il lt z ys).mem_iff.mp hb) with rfl|hb'
   .exact c1
   .exact hp.1 b hb'
theorem C8{lt:α->α->Bool}:∀{zs},OrdL lt zs->(Bq lt zs).Pairwise (λa b=>lt a b=true)
 |[],_=>List.Pairwise.nil
 | z::zs,h=>by
  have nd:=List.nodup_cons.mp h.nd
  have hz:=h.of (λa ha=>.tail _ ha) nd.2
  refine Nz (h.of (λa ha=>?_) ?_) (C8 hz)
  .rcases List.mem_cons.mp ha with rfl|q
   .exact .head _
   .exact .tail _ ((Aw lt zs).mem_iff.mp q)
  .exact List.nodup_cons.mpr ⟨λq=>nd.1 ((Aw lt zs).mem_iff.mp q),((Aw lt zs).nodup_iff).mpr nd.2⟩
theorem F7{lt:α->α->Bool}:∀{xs ys},OrdL lt xs->xs.Perm ys->xs.Pairwise (λa b=>lt a b=true)->ys.Pairwise (λa b=>lt a b=true)->xs=ys
 |[],ys,_,h,_,_=>(List.Perm.nil_eq h)
 |x::xs,[],_,h,_,_=>absurd h.symm.nil_eq (by simp)
 | x::xs,y::ys,o,h,hx,hy=>by
  rw[dW] at hx hy
  have e:x=y:=by
   apply iK
   intro ne
   have m1:x∈ys:=by
    have:x∈y::ys:=h.mem_iff.mp (.head _)
    rcases List.mem_cons.mp this with q|q
    .exact absurd q ne
    .exact q
   have m2:y∈xs:=by
    have:y∈x::xs:=h.mem_iff.mpr (.head _)
    rcases List.mem_cons.mp this with q|q
    .exact absurd q.symm ne
    .exact q
   have a:=hx.1 y m2
   have b:=hy.1 x m1
   rw[o.tot x (.head _) y (.tail _ m2) ne,b] at a
   cases a
  subst e
  have nd:=List.nodup_cons.mp o.nd
  rw[F7 (o.of (λa ha=>.tail _ ha) nd.2) ((List.perm_cons x).mp h) hx.2 hy.2]
def ab9{lt:α->α->Bool}{zs:List α}(d:α)(o:OrdL lt zs)(hn:1<=zs.length) :
  ∃p,PySem.W.kRun zs.length (λi j=>lt (zs.getD i d) (zs.getD j d)) (PySem.W.kas_sort zs.length)=some p/\p.toList.length=zs.length/\(∀i∈p.toList,i<zs.length)/\(p.toList.map λi=>zs.getD i d)=Bq lt zs:=by
 have gm:∀i,i<zs.length->zs.getD i d∈zs:=λi hi=>by rw[az,ak hi];exact cS hi
 have gi:∀i j,i<zs.length->j<zs.length->zs.getD i d=zs.getD j d->i=j:=λi j hi hj e=>by
  rw[az,ak hi,az,ak hj] at e
  exact(dN o.nd).mp e
 obtain⟨p,h1,h2,h3⟩:=PySem.W.sort_run ⟨λi j hi hj ne=>o.tot _ (gm i hi) _ (gm j hj) (λe=>ne (gi i j hi hj e)),λi j k hi hj hk=>o.tr _ (gm i hi) _ (gm j hj) _ (gm k hk)⟩ hn
 have hp:(p.toList.map λi=>zs.getD i d).Perm zs:=by
  have q:=h2.map (λi=>zs.getD i d)
  have e:((aV zs.length).map λi=>zs.getD i d)=zs:=by
   apply List.ext_getElem?
   intro i
   rw[ao]
   by_cases hi:i<zs.length
   .rw[e_ hi,ak hi,cB,az,ak hi];rfl
   .rw[dq (by simp;omega),dq (by omega)];rfl
  rw[e] at q
  exact q
 refine⟨p,h1,by rw[cb,h2.size],λi hi=>List.mem_range.mp (h2.mem_iff.mp hi),?_⟩
 refine F7 (o.of (λa ha=>hp.mem_iff.mp ha) ((hp.nodup_iff).mpr o.nd)) (hp.trans (Aw lt zs).symm) ?_ (C8 o)
 rw[iP]
 intro i j hi hj hij
 rw[ae,cb,h2.size] at hi hj
 have g:∀k (hk:k<zs.length),∃hk',(p.toList.map λi=>zs.getD i d)[k]'hk'=zs.getD (PySem.W.pg p k) d:=λk hk=>by
  have e:=PySem.W.pg_get (by rw[h2.size];exact hk)
  rw[<- cA] at e
  obtain⟨a,b⟩:=List.getElem?_eq_some_iff.mp e
  refine⟨by rw[ae];exact a,?_⟩
  rw[dO,b]
 obtain⟨a1,b1⟩:=g i hi
 obtain⟨a2,b2⟩:=g j hj
 rw[b1,b2]
 exact h3 i j hij hj
end
def ltS(a b:Str):Bool:=decide (a.cps.toList<b.cps.toList)
def Cv{zs:List Str}(nd:zs.Nodup):OrdL ltS zs where
 nd:=nd
 tot:=λa _ b _ ne=>by
  unfold ltS
  rw[<- decide_not]
  refine decide_eq_decide.mpr ⟨λh q=>iO _ (List.lt_trans h q),λh=>?_⟩
  apply iK
  intro q
  exact ne (Str.ext' (Array.toList_inj.mp (List.le_antisymm (List.not_lt.mp h) (List.not_lt.mp q))))
 tr:=λa _ b _ c _ h q=>by
  exact decide_eq_true (List.lt_trans (of_decide_eq_true h) (of_decide_eq_true q))
end L2
namespace PySem.W
open PySem PySem.Calls PyProof.Rows
section
variable {prog:a_}{w:bB}{A:bv}{E:am->av->Prop}{s:av}{vs:List am}
def collect_src{T:String}{r d:Addr}{n:Nat}{P:Nat->am->Prop}{OK:Heap->Prop}{Q:List am->av->Prop}(K:KdlSrc prog w T r d n P OK)(hh:A.handled=none)(hok:OK s.heap)(hn:n<=sizeLine)(h:∀h' tk us,(∀b o,s.heap.get? b=some o->h'.get? b=some o)->s.heap.objs.size<h'.objs.size->us.length=n->(∀j v,us[j]?=some v->P j v)->Q us {s with heap:=h',toks:=tk}) :
  aY (model prog w) A (lZ (.ref r)) Q E s:=by
 have hlt:=K.there _ hok
 refine ag (kE (dy kh ?_))
 refine ag (fU (ar ⟨iI _ (by decide +kernel),dy entry_list_iadd' ?_⟩))
 rw[fY jm _]
 refine kdl_extend (R:=wants _ _) K hh (K.keep _ _ hok λb _ o e=>ai _ e) s.heap.objs.size (eV hlt.1) (eV hlt.2) _ 0 (aK _ rfl) (λh' tk acc' c' hk hS' hacc=>?_) hn
 show aY (model prog w) A (do
   let o <- load s.heap.objs.size
   match o.data with
   |.seq xs _=>pure xs.toList
   |_=>unsupported "internal:collect") Q E {s with heap:=h',toks:=tk}
 exact ag (wpAny_load hS' (ar (h h' tk acc'.toList (λb o e=>hk b o (aQ (aO e)) (ai _ e)) (aO hS') (by rw[cb];exact hacc.1) λj v e=>hacc.2 j v (by rw[<- cA];exact e))))
def Mx{n:Nat}{a:Addr}{P:lW->av->Prop}(ho:s.heap.get? a=some (bH "list" vs.toArray n))(h2:vs.length<2)(h:∀h' c,h'.get? a=some (bH "list" vs.toArray c)->(∀b o,b≠a->s.heap.get? b=some o->h'.get? b=some o)->P (.done (.ret .none)) {s with heap:=h'}) :
  aY (model prog w) A (aX.«list.sort» ⟨[.ref a],[]⟩) P E s:=by
 have ha:=aO ho
 have s1:=bI s.heap a (bL λ_=>(#[]:Array am))
 obtain⟨e1,ho1⟩:∃e1,(s.heap.update a (bL λ_=>(#[]:Array am))).get? a=some (bH "list" #[] e1):=⟨_,eJ ho λ_=>#[]⟩
 rw[list_sort_plain]
 refine ag (j0 ho rfl ?_)
 refine ag (fh ho rfl ?_ (by rw[ay,b_];omega) (bw _))
 refine ag (iw ho1 rfl ?_)
 refine ag (kD ?_ (by show vs.length<=_;rw[b_];omega))
 refine ag (fU ?_ (bw _))
 refine bz ?_
 dsimp only
 have hn2:vs.toArray.size<2:=by rw[ay];omega
 rw[if_pos hn2,if_pos hn2]
 refine ag (ar ?_)
 rw[StateT.run_pure]
 refine ag (ar ?_)
 have ho6:(((s.heap.update a (bL λ_=>(#[]:Array am))).push (bH "tuple" vs.toArray 0)).push (bH "list" #[] 0)).get? a=some (bH "list" #[] e1):=ai _ (ai _ ho1)
 have o6:∀b o,b≠a->s.heap.get? b=some o->(((s.heap.update a (bL λ_=>(#[]:Array am))).push (bH "tuple" vs.toArray 0)).push (bH "list" #[] 0)).get? b=some o:=λb o nb e=>ai _ (ai _ ((s1.2 b nb).trans e))
 generalize ((s.heap.update a (bL λ_=>(#[]:Array am))).push (bH "tuple" vs.toArray 0)).push (bH "list" #[] 0)=h6 at ho6 o6 ⊢
 have hout:iW (λx=>x.snd) (arrOf (lF mo (vs.toArray.zip vs.toArray) #[] 7 none))=vs.toArray:=by
  show iW (λx=>x.snd) (vs.toArray.zip vs.toArray)=vs.toArray
  apply Array.ext'
  simp only[Array.toList_map,Array.toList_zip]
  exact jx (af _)
 refine ag (iw ho6 rfl ?_)
 refine ag (fh ho6 rfl ?_ (bw _) (by rw[hout,ay,b_];omega))
 have s2:=bI h6 a (bL λ_=>iW (λx=>x.snd) (arrOf (lF mo (vs.toArray.zip vs.toArray) #[] 7 none)))
 obtain⟨c2,hc2⟩:∃c2,(h6.update a (bL λ_=>iW (λx=>x.snd) (arrOf (lF mo (vs.toArray.zip vs.toArray) #[] 7 none)))).get? a=some (bH "list" (iW (λx=>x.snd) (arrOf (lF mo (vs.toArray.zip vs.toArray) #[] 7 none))) c2):=⟨_,eJ ho6 λ_=>_⟩
 rw[hout] at hc2 s2 ⊢
 simp only[bne_self_eq_false,dR,if_false]
 exact ar (h _ c2 hc2 λb o nb e=>(s2.2 b nb).trans (o6 b o nb e))
def Vq{x:am}{OKQ:List am->av->Prop}{Q:am->av->Prop}(hc:∀R,(∀us s',OKQ us s'->R us s')->aY (model prog w) A.in1 (lZ x) R (λ_ _=>False) s)(h:∀us s',OKQ us s'->us.length<64/\((us.length<2 -> ∀h2 c,h2.get? s'.heap.objs.size=some (bH "list" us.toArray c)->(∀b o,s'.heap.get? b=some o->h2.get? b=some o)->Q (.ref s'.heap.objs.size) {s' with heap:=h2})/\(2<=us.length -> ∀D e1 h2,s'.heap.objs.size<=D->h2.get? D=some (bH "list" #[] e1)->(∀b o,s'.heap.get? b=some o->h2.get? b=some o) ->
   aY (model prog w) A.in1.in1 (jr us.toArray) (λκ s''=>(kas_sort us.length).kasWp (kas_ask prog w A.in1.in1 κ us) (λp s3=>SoFin D e1 (p.toList.map λi=>us.getD i bT) (λs4=>Q (.ref D) s4) s3) s'') (λ_ _=>False) {s' with heap:=h2}))) :
  aY (model prog w) A (call (.builtin "sorted") [x]) Q E s:=by
 refine Calls.call_function_entry kind_sorted plain_sorted entry_sorted (args_sorted1 _) ?_
 refine ag (ar ?_)
 refine ag (bU (hc _ λus s' ok=>?_) (λ_ _ z=>z) λ_ _ z=>z.elim)
 obtain⟨h64,hs,hb⟩:=h us s' ok
 refine ag (fU ?_ (by rw[b_];omega))
 have hoL:(s'.heap.push (bH "list" us.toArray 0)).get? s'.heap.objs.size=some (bH "list" us.toArray 0):=aK _ rfl
 refine ag (bz (cq slot_list_sort ⟨_,hoL,rfl⟩ entry_list_sort ?body (args_list_sort _)))
 case body=>
  by_cases h2:2<=us.length
  .refine Qd hoL h2 h64 λe1 h2' g k=>?_
   refine bU (hb h2 _ e1 h2' (af _) g λb o q=>k b o (aQ (aO q)) (ai _ q)) (λκ s' hk=>?_) λ_ _ x=>x
   rw[kat_ask_eq rfl] at hk ⊢
   exact kas_wp_mono hk λp s'' hk'=>hk'.mono λs3 hq=>⟨_,rfl,ar ⟨_,rfl,hq⟩⟩
  .have h2:us.length<2:=by omega
   exact Mx (s:={s' with heap:=s'.heap.push (bH "list" us.toArray 0)}) hoL h2 λh3 c g k=>⟨_,rfl,ar ⟨_,rfl,hs h2 h3 c g λb o q=>k b o (aQ (aO q)) (ai _ q)⟩⟩
def so_sortedC{x:am}{OKQ:List am->Heap->Nat->Prop}{Q:am->av->Prop}(hc:∀R,(∀us h' tk,OKQ us h' tk->R us {s with heap:=h',toks:=tk})->aY (model prog w) A.in1 (lZ x) R (λ_ _=>False) s)(h:∀us h' tk,OKQ us h' tk->us.length<64/\((us.length<2 -> ∀h2 c,h2.get? h'.objs.size=some (bH "list" us.toArray c)->(∀b o,h'.get? b=some o->h2.get? b=some o)->Q (.ref h'.objs.size) {s with heap:=h2,toks:=tk})/\(2<=us.length -> ∀D e1 h2,h'.objs.size<=D->h2.get? D=some (bH "list" #[] e1)->(∀b o,h'.get? b=some o->h2.get? b=some o) ->
   aY (model prog w) A.in1.in1 (jr us.toArray) (λκ s'=>(kas_sort us.length).kasWp (kas_ask prog w A.in1.in1 κ us) (λp s''=>SoFin D e1 (p.toList.map λi=>us.getD i bT) (λs3=>Q (.ref D) s3) s'') s') (λ_ _=>False) {s with heap:=h2,toks:=tk}))) :
  aY (model prog w) A (call (.builtin "sorted") [x]) Q E s:=
 Vq (OKQ:=λus s'=>∃h' tk,s'={s with heap:=h',toks:=tk}/\OKQ us h' tk) (λR hR=>hc R λus h' tk ok=>hR us _ ⟨h',tk,rfl,ok⟩) λus s' ⟨h',tk,e,ok⟩=>by subst e;exact h us h' tk ok
end
end PySem.W
namespace L2
open PySem PySem.Spec PyProof.Rows
theorem Q7:∀{xs}{us:List am},xs.length=us.length->(∀(i:Nat) x u,xs[i]?=some x->us[i]?=some u->RelV x u)->Vals xs us
 |[],[],_,_=>.nil
 |[],_::_,h,_=>by simp at h
 |_::_,[],h,_=>by simp at h
 |x::xs,u::us,h,g=>.cons (g 0 x u rfl rfl) (Q7 (by simpa using h) λi a b ha hb=>g (i+1) a b ha hb)
def N4{P:a_}{w:bB}{kvs:List (Key×V)}{vs:List (Key×am)}{us:List am}(rel:KV kvs vs)(hl:us.length=vs.length)(h:∀(j:Nat) v,us[j]?=some v -> ∃k x,vs[j]?=some (k,x)/\(Bd P w).is k v=true):Vals (kvs.map λkv=>kV kv.1) us:=by
 refine Q7 (by rw[ae,rel.length,hl]) λi x u hx hu=>?_
 obtain⟨k,y,hk,his⟩:=h i u hu
 have e:(kvs.map (·.1))[i]?=some k:=by rw[rel.keys,ao,hk];rfl
 rw[ao] at hx e
 obtain⟨kv,hkv,rfl⟩:=Option.map_eq_some_iff.mp hx
 rw[hkv] at e
 cases e
 exact Po his
section
variable {X:Cx}
def ai1{ξ:List (Addr×Obj)}{s:av}{σ:St}{H:Hp}{p:Addr}{xs:List V}{R:List am->av->Prop}(hc:X.calm=true)(I:Inv X ξ σ H s)(hp:SqL X.K H p xs \/ ∃kvs,Rd H p (.dK kvs)/\(kvs.map λkv=>kV kv.1)=xs)(hR:∀us h' tk,(∀b o,s.heap.get? b=some o->h'.get? b=some o)->s.heap.objs.size<=h'.objs.size->s.toks<=tk->Vals xs us->R us {s with heap:=h',toks:=tk}):aY (model X.prog X.w) X.A.in1 (lZ (.ref p)) R (λ_ _=>False) s:=by
 rcases hp with hp|⟨kvs,hp,ek⟩
 .obtain⟨χ,ri,pl,hz⟩:=I.list hp
  refine collect_list pl.isList (hR _ _ s.toks (λb o e=>?_) ?_ (af _) ri) (by rw[<- ri.length];exact hz)
  .rw[Heap.get?_update_ne _ _ _ _ (aQ (aO e))]
   exact ai _ e
  .rw[Heap.size_update,j6]
   exact fe _
 .obtain⟨z,lo,vs,rel,dof⟩:=Cm I.hok hp
  obtain⟨ep,dat⟩:=dof.dictAt
  exact bA (af _) (PySem.W.collect_src (PySem.W.kdl_dict lo) (by simp[I.ok.hd hc]) dat (by rw[<- rel.length];exact z) λh' tk us hk hs hl hi htk=>hR us h' tk hk (fF hs) htk (ek▸N4 rel hl hi))
def aq7:List V->Hp->VK->Prop:=λxs H Q=>∃p kvs,xs=[.ref p]/\Rd H p (.dK kvs)/\∀l,H l=none->Q (.ref l) (upd H l (.lst (kvs.map λkv=>kV kv.1)))
def Uj(hc:X.calm=true):Cf X (.type "list") aq7:=by
 intro ξ s σ H xs us Q I r h
 obtain⟨p,kvs,rfl,e,q⟩:=h
 obtain⟨u,rfl,ru⟩:=Dn r
 cases ru
 obtain⟨z,lo,vs,rel,dof⟩:=Cm I.hok e
 obtain⟨ep,dat⟩:=dof.dictAt
 exact bA (af _) (PySem.W.kdl_call (PySem.W.kdl_dict lo) (I.ok.hd hc) dat (by rw[<- rel.length];exact z) λh' tk acc' c' hk hS' hacc htk=>⟨.ref s.heap.objs.size,_,I.laid (t':=tk) (o:=.lst (kvs.map λkv=>kV kv.1)) hk (af _) ⟨by rw[ae];exact z,acc'.toList,c',N4 rel (by rw[cb];exact hacc.1) λj v e=>hacc.2 j v (by rw[<- cA];exact e),by simpa using hS'⟩,rfl,q _ (I.hok.fresh (af _))⟩)
def Qn{α:Type}{lt:α->α->Bool}{zs:List α}(h:zs.length<2):Bq lt zs=zs:=by
 match zs,h with
 |[],_=>rfl
 |[z],_=>rfl
def Ro{α:Type}{v:α->V}{zs:List α}{us:List am}(d:α)(rv:Vals (zs.map v) us){i:Nat}(h:i<zs.length):RelV (v (zs.getD i d)) (us.getD i bT):=by
 obtain⟨u,hu,ru⟩:=rv.get (x:=v (zs.getD i d)) (by rw[ao,az,ak h];rfl)
 rw[az (l:=us),hu]
 exact ru
theorem T9{α:Type}{v:α->V}{zs:List α}{us:List am}(d:α)(rv:Vals (zs.map v) us):∀p:List Nat,(∀i∈p,i<zs.length)->Vals ((p.map λi=>zs.getD i d).map v) (p.map λi=>us.getD i bT)
 |[],_=>.nil
 |i::p,h=>.cons (Ro d rv (h i aD)) (T9 d rv p λj hj=>h j (aA _ hj))
def Wp{α:Type}{v:α->V}{lt:α->α->Bool}{zs:List α}{us:List am}{s:av}{G:Array Nat->av->Prop}{ask:Nat->Nat->(Bool->av->Prop)->av->Prop}(d:α)(o:OrdL lt zs)(rv:Vals (zs.map v) us)(h2:2<=us.length)(ha:∀i j C,i<zs.length->j<zs.length->C (lt (zs.getD i d) (zs.getD j d)) s->ask i j C s)(hG:∀p:Array Nat,Vals ((Bq lt zs).map v) (p.toList.map λi=>us.getD i bT)->G p s):(PySem.W.kas_sort us.length).kasWp ask G s:=by
 have hl:zs.length=us.length:=by have:=rv.length;rwa[ae] at this
 obtain⟨pp,h1,h3,h4,h5⟩:=ab9 d o (by omega)
 rw[<- hl]
 exact PySem.W.kRun_wp ha h1 (hG pp (h5▸T9 d rv pp.toList h4))
def ar1(K:ac):List V->Hp->VK->Prop:=λxs H Q=>∃p zs,xs=[.ref p]/\(SqL K H p (zs.map V.str) \/ ∃kvs,Rd H p (.dK kvs)/\kvs.map (·.1)=zs.map cV)/\zs.Nodup/\zs.length<64/\∀D,H D=none->Q (.ref D) (upd H D (.lst ((Bq ltS zs).map V.str)))
def X6{K:ac}{H:Hp}{p:Addr}{zs:List Str}(h:SqL K H p (zs.map V.str) \/ ∃kvs,Rd H p (.dK kvs)/\kvs.map (·.1)=zs.map cV):SqL K H p (zs.map V.str) \/ ∃kvs,Rd H p (.dK kvs)/\(kvs.map λkv=>kV kv.1)=zs.map V.str:=
 h.imp id fun⟨kvs,h1,h2⟩=>⟨kvs,h1,by
  have:=congrArg (k0 kV) h2
  rwa[au,au] at this⟩
def Uk(hc:X.calm=true):Cf X (.builtin "sorted") (ar1 X.K):=by
 intro ξ s σ H xs us Q I r h
 obtain⟨p,zs,rfl,hp,nd,h64,q⟩:=h
 obtain⟨u,rfl,ru⟩:=Dn r
 cases ru
 refine PySem.W.so_sortedC (OKQ:=λus h' tk=>(∀b o,s.heap.get? b=some o->h'.get? b=some o)/\s.heap.objs.size<=h'.objs.size/\s.toks<=tk/\Vals (zs.map V.str) us) (λR hR=>ai1 hc I (X6 hp) λus h' tk a b c d=>hR us h' tk ⟨a,b,c,d⟩) λus h' tk ⟨keep,hD,htk,rv⟩=>?_
 have hl:zs.length=us.length:=by have:=rv.length;rwa[ae] at this
 have fin:∀{h3} {D} {out} {c},h'.objs.size<=D->(∀b o,h'.get? b=some o->h3.get? b=some o)->Vals ((Bq ltS zs).map V.str) out->h3.get? D=some (bH "list" out.toArray c)->EP X ξ σ Q (.ref D) {s with heap:=h3,toks:=tk}:=λ{h3 D out c} hD2 k r g=>
  ⟨.ref D,_,I.laid (λb o e=>k b o (keep b o e)) (aT hD hD2) (o:=.lst ((Bq ltS zs).map V.str)) ⟨by rw[ae,(Aw ltS zs).length_eq,b_];omega,out,c,r,g⟩,rfl,q _ (I.hok.fresh (aT hD hD2))⟩
 refine⟨by omega,λh2 h2' c g k=>fin (af _) k (by rw[Qn (by omega)];exact rv) g,λh2 D e1 h2' hD2 gD k=>?_⟩
 refine PySem.W.kas_kind (T:=.type "str") h2 (λv hv=>?_) rfl rfl (Wp cQ (Cv nd) rv h2 (λi j C hi hj hC=>?_) λp ro=>⟨gD,λh3 c g sb=>fin hD2 (λb o e=>(sb.2 b (aQ (aR (aO e) hD2))).trans (k b o e)) ro g⟩)
 .obtain⟨i,hi,rfl⟩:=List.getElem_of_mem hv
  obtain⟨t,e⟩:=Ro cQ rv (i:=i) (by omega)
  rw[az,ak hi] at e
  rw[show us[i]=_ from e]
  exact .now
 .unfold eG
  obtain⟨t1,e1⟩:=Ro cQ rv hi
  obtain⟨t2,e2⟩:=Ro cQ rv hj
  rw[e1,e2]
  exact PySem.W.kas_lt_str hC
end
end L2
namespace PySem.W
open PySem PySem.Calls PyProof.Rows
end PySem.W
namespace L2
open PySem PySem.Spec PyProof.Rows
section
variable {X:Cx}
def b13(K:ac):List V->Hp->VK->Prop:=λxs H Q=>∃(p:Addr)(ns:List Int),xs=[.ref p]/\SqL K H p (ns.map V.int)/\Q (.int ns.sum) H
def ah7(hc:X.calm=true):Cf X (.builtin "sum") (b13 X.K):=by
 intro ξ s σ H xs us Q I r h
 obtain⟨p,ns,rfl,hp,q⟩:=h
 obtain⟨u,rfl,ru⟩:=Dn r
 cases ru
 obtain⟨χ,ri,pl,hz⟩:=I.list hp
 have ia:=Ld ri
 obtain⟨xs,e⟩:=ia.allInts.items
 have hl:=pl.isList
 rw[e] at hl
 refine bA (af _) (sum_intListG (I.ok.hd hc) hl λh' tk t' hk htk=>?_)
 refine⟨.int ns.sum,H,I.kept hk htk,⟨t',?_⟩,q⟩
 rw[preSum_eq,cI (by simp),<- nums_intItems,<- e,show χ.toArray.toList=χ from rfl,ia.numsOf]
end
end L2
namespace PySem.W
open PySem PySem.Calls PyProof.Rows
section
variable {prog:a_}{w:bB}{A:bv}{E:am->av->Prop}{s:av}{vs:List am}
def SkFin(a b:Addr)(e e1:Nat)(ks out:List am)(C:av->Prop)(s:av):Prop:=
 s.heap.get? a=some (bH "list" #[] e1)/\s.heap.get? b=some (bH "list" ks.toArray e)/\∀h' c,h'.get? a=some (bH "list" (dX out) c)->(∀d,d≠a->d≠b->h'.get? d=s.heap.get? d)->C {s with heap:=h'}
def Yy{a kS:Addr}{ks:List am}{st:SortSt}{e e1:Nat}{out:List am}{P:lW->av->Prop}(hne:a≠kS)(har:iW (λx=>x.snd) (arrOf st)=out.toArray)(h64:out.length<64)(k64:ks.length<64)(hf:failedOf st=none)(h:SkFin a kS e e1 ks out (λs'=>P (.done (.ret .none)) s') s):aY (model prog w) A (ksk_tail a false e1 (.ref kS) st) P E s:=by
 obtain⟨ha,hk,q⟩:=h
 unfold ksk_tail
 rw[har,hf]
 have s1:=bI s.heap kS (bL λ_=>(#[]:Array am))
 have ha1:=(s1.2 a hne).trans ha
 refine ag (fh hk rfl ?_ (by rw[ay,b_];omega) (bw _))
 refine ag (wpAny_letGo ?_)
 refine ag (iw ha1 rfl ?_)
 refine ag (fh ha1 rfl ?_ (bw _) (by simp only[dR,if_false];rw[ay,b_];omega))
 simp only[bne_self_eq_false,dR,if_false]
 have s2:=bI (s.heap.update kS (bL λ_=>(#[]:Array am))) a (bL λ_=>out.toArray)
 obtain⟨c2,hc2⟩:∃c2,((s.heap.update kS (bL λ_=>(#[]:Array am))).update a (bL λ_=>out.toArray)).get? a=some (bH "list" out.toArray c2):=⟨_,eJ ha1 λ_=>_⟩
 exact ar (q _ c2 hc2 λd d1 d2=>(s2.2 d d1).trans (s1.2 d d2))
def a54{n:Nat}{a:Addr}{f:am}{P:lW->av->Prop}(ho:s.heap.get? a=some (bH "list" vs.toArray n))(h64:vs.length<64)(h:∀e1 kS h',s.heap.objs.size<=kS->h'.get? a=some (bH "list" #[] e1)->h'.get? kS=some (bH "list" #[] 0)->(∀b o,b≠a->s.heap.get? b=some o->h'.get? b=some o) ->
   ∃G:List am->av->Prop,(∀e,h'.get? kS=some (bH "list" #[] e)->G [] {s with heap:=h'}) /\
    (∀(j:Nat) x ks e s',vs[j]?=some x->ks.length=j->s'.heap.get? kS=some (bH "list" ks.toArray e)->G ks s'->aY (model prog w) A (call f [x]) (λk s''=>s''.heap.get? kS=some (bH "list" ks.toArray e)/\∀h2 c,h2.get? kS=some (bH "list" (ks++[k]).toArray c)->bP kS s''.heap h2->G (ks++[k]) {s'' with heap:=h2}) (λ_ _=>False) s') /\
    (∀ks e s',ks.length=vs.length->s'.heap.get? kS=some (bH "list" ks.toArray e)->G ks s'->(vs.length<2->SkFin a kS e e1 ks vs (λs3=>P (.done (.ret .none)) s3) s')/\(2<=vs.length ->
     aY (model prog w) A (jr ks.toArray) (λκ s''=>(kas_sort vs.length).kasWp (kas_ask prog w A κ ks) (λp s3=>SkFin a kS e e1 ks (p.toList.map λi=>vs.getD i bT) (λs4=>P (.done (.ret .none)) s4) s3) s'') (λ_ _=>False) s'))) :
  aY (model prog w) A (ksk_tree a f false) P E s:=by
 have ha:=aO ho
 have s1:=bI s.heap a (bL λ_=>(#[]:Array am))
 obtain⟨e1,ho1⟩:∃e1,(s.heap.update a (bL λ_=>(#[]:Array am))).get? a=some (bH "list" #[] e1):=⟨_,eJ ho λ_=>#[]⟩
 have hsz:((s.heap.update a (bL λ_=>(#[]:Array am))).push (bH "tuple" vs.toArray 0)).objs.size=s.heap.objs.size+1:=by rw[j6,Heap.size_update]
 refine ag (j0 ho rfl ?_)
 refine ag (fh ho rfl ?_ (by rw[ay,b_];omega) (bw _))
 refine ag (iw ho1 rfl ?_)
 refine ag (kD ?_ (by show vs.length<=_;rw[b_];omega))
 refine ag (fU ?_ (bw _))
 refine bz ?_
 have hk0:(((s.heap.update a (bL λ_=>(#[]:Array am))).push (bH "tuple" vs.toArray 0)).push (bH "list" #[] 0)).get? (((s.heap.update a (bL λ_=>(#[]:Array am))).push (bH "tuple" vs.toArray 0)).objs.size)=some (bH "list" #[] 0):=aK _ rfl
 have ha0:(((s.heap.update a (bL λ_=>(#[]:Array am))).push (bH "tuple" vs.toArray 0)).push (bH "list" #[] 0)).get? a=some (bH "list" #[] e1):=ai _ (ai _ ho1)
 obtain⟨G,g0,gs,gf⟩:=h e1 _ _ (by rw[hsz];exact fe _) ha0 hk0 (λb o nb e=>ai _ (ai _ ((s1.2 b nb).trans e)))
 have hne:a≠((s.heap.update a (bL λ_=>(#[]:Array am))).push (bH "tuple" vs.toArray 0)).objs.size:=by rw[hsz];exact aQ (gU ha)
 have gz:=g0 0 hk0
 generalize ((s.heap.update a (bL λ_=>(#[]:Array am))).push (bH "tuple" vs.toArray 0)).objs.size=kS at *
 generalize ((s.heap.update a (bL λ_=>(#[]:Array am))).push (bH "tuple" vs.toArray 0)).push (bH "list" #[] 0)=h' at *
 refine ag (gv ?_)
 rw[<- iH]
 refine ag (ksk_fold (λj s'=>∃ks e,ks.length=j/\s'.heap.get? kS=some (bH "list" ks.toArray e)/\G ks s') vs 0 _ ⟨[],0,rfl,hk0,gz⟩ (λj x s' hx ⟨ks,e,hl,hk,hg⟩=>?_) λs' ⟨ks,e,hl,hk,hg⟩=>?_)
 .rw[du] at hl
  have hj:=(List.getElem?_eq_some_iff.mp hx).1
  refine ag (jw (bU (gs j x ks e s' hx hl hk hg) (λk s'' hq=>?_) λ_ _ z=>z.elim))
  obtain⟨hk2,hq⟩:=hq
  refine ag (fh hk2 rfl ?_ (by rw[ay,b_];omega) (by rw[Array.size_push,ay,b_];omega))
  have e3:(ks.toArray.push k)=(ks++[k]).toArray:=by simp
  obtain⟨c,hc⟩:∃c,(s''.heap.update kS (bL λx=>x.push k)).get? kS=some (bH "list" (ks++[k]).toArray c):=⟨_,by rw[<- e3];exact eJ hk2 λx=>x.push k⟩
  exact ar ⟨rfl,ks++[k],c,by rw[aG,hl,du];rfl,hc,hq _ c hc (bI _ _ _)⟩
 .rw[du] at hl
  obtain⟨q1,q2⟩:=gf ks e s' hl hk hg
  refine ag (j0 hk rfl ?_)
  unfold ksk_end
  simp only[dR,if_false]
  by_cases h2:vs.toArray.size<2
  .rw[if_pos h2,if_pos h2]
   refine ag (ar ?_)
   rw[StateT.run_pure]
   refine ag (ar ?_)
   refine Yy hne ?_ h64 (by omega) rfl (q1 (by simpa using h2))
   show iW (λx:Keyed=>x.snd) (ks.toArray.zip vs.toArray)=vs.toArray
   apply Array.ext'
   simp only[Array.toList_map,Array.toList_zip]
   exact jx (by omega)
  .have h2':2<=vs.length:=by rw[ay] at h2;omega
   rw[if_neg h2,if_neg h2]
   refine ag (bU (q2 h2') (λκ s0 hk0=>?_) λ_ _ x=>x.elim)
   refine ag (bU (kat_run (Q:=λst' s'=>∃p:Array Nat,p.size=vs.length/\arrOf st'=p.map (kas_item (ks.toArray.zip vs.toArray))/\failedOf st'=none/\SkFin a kS e e1 ks (p.toList.map λi=>vs.getD i bT) (λs''=>P (.done (.ret .none)) s'') s')
    hl h2' h64 (λp' st' s' a1 a2 a3 a4=>⟨p',a1,a2,a3,a4⟩) hk0) ?_ λ_ _ e=>e)
   rintro⟨⟨⟩,st'⟩ s' ⟨p,hp,har,hf,hq⟩
   exact Yy hne (kat_snds hl har) (by rw[ae,cb,hp];exact h64) (by omega) hf hq
def sk_sorted{x:am}{b:Addr}{OKQ:List am->Heap->Nat->Prop}{Q:am->av->Prop}(hc:∀R:List am->av->Prop,(∀us h' tk,OKQ us h' tk->R us {s with heap:=h',toks:=tk})->aY (model prog w) A.in1 (lZ x) R (λ_ _=>False) s)(h:∀us h' tk,OKQ us h' tk->us.length<64/\∀D e1 kS h2,h'.objs.size<=D->D<kS->h2.get? D=some (bH "list" #[] e1)->h2.get? kS=some (bH "list" #[] 0)->(∀b o,h'.get? b=some o->h2.get? b=some o) ->
   ∃G:List am->av->Prop,G [] {s with heap:=h2,toks:=tk} /\
    (∀(j:Nat) x ks e s',us[j]?=some x->ks.length=j->s'.heap.get? kS=some (bH "list" ks.toArray e)->G ks s'->aY (model prog w) A.in1.in1 (call (.ref b) [x]) (λk s''=>s''.heap.get? kS=some (bH "list" ks.toArray e)/\∀h2 c,h2.get? kS=some (bH "list" (ks++[k]).toArray c)->bP kS s''.heap h2->G (ks++[k]) {s'' with heap:=h2}) (λ_ _=>False) s') /\
    (∀ks e s',ks.length=us.length->s'.heap.get? kS=some (bH "list" ks.toArray e)->G ks s'->(us.length<2->SkFin D kS e e1 ks us (λs3=>Q (.ref D) s3) s')/\(2<=us.length ->
     aY (model prog w) A.in1.in1 (jr ks.toArray) (λκ s''=>(kas_sort us.length).kasWp (kas_ask prog w A.in1.in1 κ ks) (λp s3=>SkFin D kS e e1 ks (p.toList.map λi=>us.getD i bT) (λs4=>Q (.ref D) s4) s3) s'') (λ_ _=>False) s'))) :
  aY (model prog w) A (call (.builtin "sorted") [x] [("key", .ref b)]) Q E s:=by
 refine call_function_entry_kw kind_sorted plain_sorted entry_sorted (ksk_s1 _ _) ?_
 refine ag (ar ?_)
 refine ag (bU (hc _ λus h' tk ok=>?_) (λ_ _ z=>z) λ_ _ z=>z.elim)
 obtain⟨h64,hb⟩:=h us h' tk ok
 refine ag (fU ?_ (by rw[b_];omega))
 have hoL:(h'.push (bH "list" us.toArray 0)).get? h'.objs.size=some (bH "list" us.toArray 0):=aK _ rfl
 refine ag (bz (wpAny_call_entry_kw slot_list_sort ⟨_,hoL,rfl⟩ entry_list_sort ?body (ksk_l1 _ _)))
 case body=>
  rw[ksk_t1]
  refine a54 hoL h64 λe1 kS h2 hk g gk k=>?_
  have hk2:h'.objs.size<kS:=by
   have hk:(h'.push (bH "list" us.toArray 0)).objs.size<=kS:=hk
   rw[j6] at hk;omega
  obtain⟨G,g0,gs,gf⟩:=hb h'.objs.size e1 kS h2 (af _) hk2 g gk λb o q=>k b o (aQ (aO q)) (ai _ q)
  refine⟨G,λ_ _=>g0,gs,λks e s' hl hk hg=>?_⟩
  obtain⟨q1,q2⟩:=gf ks e s' hl hk hg
  refine⟨λh2=>?_,λh2=>bU (q2 h2) (λκ s'' hk=>?_) λ_ _ x=>x⟩
  .obtain⟨r1,r2,r3⟩:=q1 h2
   exact⟨r1,r2,λh' c x y=>⟨_,rfl,ar ⟨_,rfl,r3 h' c x y⟩⟩⟩
  .rw[kat_ask_eq hl] at hk ⊢
   exact kas_wp_mono hk λp s3 ⟨r1,r2,r3⟩=>⟨r1,r2,λh' c x y=>⟨_,rfl,ar ⟨_,rfl,r3 h' c x y⟩⟩⟩
end
end PySem.W
namespace L2
open PySem PySem.Spec PyProof.Rows
def ltK(kf:Str->Int)(a b:Str):Bool:=if kf a=kf b then ltS a b else decide (kf a<kf b)
def a04{kf:Str->Int}{zs:List Str}(nd:zs.Nodup):OrdL (ltK kf) zs where
 tot:=λa ha b hb n=>by
  unfold ltK
  by_cases h:kf a=kf b
  .rw[if_pos h,if_pos h.symm];exact(Cv nd).tot a ha b hb n
  .rw[if_neg h,if_neg (cj h)]
   by_cases c:kf a<kf b
   .rw[decide_eq_true c,decide_eq_false (by omega)];rfl
   .rw[decide_eq_false c,decide_eq_true (by omega)];rfl
 tr:=λa ha b hb c hc h1 h2=>by
  unfold ltK at *
  by_cases e1:kf a=kf b
  .rw[if_pos e1] at h1
   by_cases e2:kf b=kf c
   .rw[if_pos e2] at h2
    rw[if_pos (e1.trans e2)]
    exact(Cv nd).tr a ha b hb c hc h1 h2
   .rw[if_neg e2] at h2
    rw[e1,if_neg e2]
    exact h2
  .rw[if_neg e1] at h1
   have h1:=of_decide_eq_true h1
   by_cases e2:kf b=kf c
   .rw[<- e2,if_neg e1]
    exact decide_eq_true h1
   .rw[if_neg e2] at h2
    have h2:=of_decide_eq_true h2
    rw[if_neg (by omega)]
    exact decide_eq_true (by omega)
 nd:=nd
section
variable {X:Cx}{ξ:List (Addr×Obj)}{σ:St}{H:Hp}{s:av}
def Inv.adopt{a d:Addr}{o:HO}{h':Heap}(I:Inv X ξ σ H s)(fa:Ec X ξ H a)(fd:Ec X ξ H d)(k:∀b u,b≠a->b≠d->s.heap.get? b=some u->h'.get? b=some u)(new:ObjOk X.prog X.w (upd H a o) h' a o):Inv X ξ σ (upd H a o) {s with heap:=h'}:=by
 have nit:∀b u,H b=some u->b≠a/\b≠d:=λb u e=>⟨Ai e fa.1,Ai e fd.1⟩
 have nc:∀{b},b∉[a,d]->b≠a/\b≠d:=λh=>by simpa using h
 refine I.step (λb hb=>?_) (λb u _ _ hc e _=>k b u (nc hc).1 (nc hc).2 e) (λb u _ _ hc e _=>⟨u.slots,k b u (nc hc).1 (nc hc).2 e⟩) (λb u hc e n=>by rw[Ad (nc hc).1];exact n)
  (λb u hc e=>⟨u,k b u (nc hc).1 (nc hc).2 e⟩) (λb xs q=>by rw[Ad (nit b _ q).1];exact q) (λb u v q=>by rw[Ad (nit b _ q).1];exact q) (λb ps q=>⟨#[],by rw[Ad (nit b _ q).1,q];simp⟩) (λm hm=>?_) (λb u e=>?_) I.bare
 .rcases List.mem_cons.mp hb with rfl|hb
  .exact⟨fa.2.2.2.1,fa.2.1,fa.2.2.2.2.1,fa.2.2.2.2.2⟩
  .have e:b=d:=by simpa using hb
   subst e
   exact⟨fd.2.2.2.1,fd.2.1,fd.2.2.2.2.1,fd.2.2.2.2.2⟩
 .obtain⟨u,es,ep,ho,r⟩:=hm
  exact⟨u,es,ep,k _ u (cj fa.2.1) (cj fd.2.1) ho,r⟩
 .by_cases hb:b=a
  .subst hb;rw[Aa] at e;cases e;exact new
  .rw[Ad hb] at e
   refine(I.hok b u e).stay (λc v hc q=>?_) (λc q=>by rw[Ad (nit c _ q).1];exact q) λc xs q=>by rw[Ad (nit c _ q).1];exact q
   rcases hc with z|z
   .rw[z] at q ⊢;exact k _ v (nit b u e).1 (nit b u e).2 q
   .exact k c v (nit c _ z).1 (nit c _ z).2 q
def Zt{A:bv}{E:am->av->Prop}{m:Str}{g a C dx:Addr}{fs:List (Str×V)}{expr:Bool}{Q:am->av->Prop}(I:Inv X ξ σ H s)(e:H a=some (.ins C dx fs))(c:Cls X.K C)(k:Mn X.K C m g)(sg:eI X.K (.ref g) "__get__"=some (some (.builtin "function.__get__")))(tk:fJ X.K (.ref g)=some false)(cn:PySem.W.copiedNames.contains m=false)(l:fs.lookup m=none)(h:∀s',s'.heap.get? s.heap.objs.size=some (i8 (.ref g) (.ref a))->s.heap.objs.size<s'.heap.objs.size->Inv X ξ σ H s'->Q (.ref s.heap.objs.size) s'):aY (model X.prog X.w) A (mq (.ref a) m expr) Q E s:=by
 obtain⟨mA,O,r,_,_,_⟩:=Kf I.hok e
 have hn:=RelO.none_of (by rw[<- l];exact r m)
 obtain⟨od,J,hl⟩:=O.look
 exact PySem.W.get_bind I.kIn J (fg (c.get m)).1 (PySem.W.findObj_fn c.hd k.at_ sg tk cn (by rw[hl,hn])) (fg (c.get m)).2 (jc (PySem.W.fn_get (s:={s with toks:=s.toks+1}) I.kIn (beq_iff_eq.mp k.fn) (PySem.W.handed_on rfl (h _ (aK _ rfl) (by show _<(s.heap.push _).objs.size;rw[j6];exact dB _) (I.kept (t':=s.toks+1) λb o e=>ai _ e)))))
def a47{m:Str}{mi:MI}(K:bb9 X m mi){bm a:Addr}{u:am}{z:Str}{Q:VK}(I:Inv X ξ σ H s)(hb:s.heap.get? bm=some (i8 (.ref mi.i.f) (.ref a)))(ru:RelV (.str z) u)(h:mi.i.sp [.ref a,.str z] H Q (λv _ _=>∃a,v=bC a/\False)) :
  aY (model X.prog X.w) X.A.in1.in1 (call (.ref bm) [u]) (EP X ξ σ Q) (λ_ _=>False) s:=by
 have FO:=K.fi.ok
 have r2:Vals [.ref a,.str z] [bC a,u]:=.cons rfl (.cons ru .nil)
 have hl:=FO.len _ _ _ _ h
 have hd:=K.fi.binds mi.i.dfs.length (af _)
 rw[List.drop_of_length_le (by rw[K.fi.vals.length];exact af _)] at hd
 have hb2:=hd s [bC a,u] I.kIn hl
 rw[b5] at hb2
 refine jc (ks_codeAny_call_bound hb (fO (FO.run X.A.in1.in1 X.stack s H ⟨[bC a,u],[]⟩ [bC a,u] _ Q _ K.room.in1.in1 I.env0.in1.in1 hb2 r2 h) λr s' hq=>?_))
 cases r with
 |error e=>exact hq.elim
 |ok fl=>
  cases fl with
  |ret u=>exact I.after hq
  |next=>exact ca hq
  |brk=>exact ca hq
  |cont=>exact ca hq
def ag5{α:Type}(KR:α->V->Hp->Prop)(H:Hp)(zs:List α)(ks:List am):Prop:=∀(i:Nat) k z,ks[i]?=some k->zs[i]?=some z -> ∃w,RelV w k/\KR z w H
def bf4(kf:Str->Int)(z:Str)(w:V)(H:Hp):Prop:=∃q,w=.ref q/\H q=some (.tup [.int (kf z),.str z])
theorem R5(I:Inv X ξ σ H s){kf:Str->Int}:∀{zs} {ks},ks.length=zs.length->ag5 (bf4 kf) H zs ks -> ∃fs,fI s.heap ks fs/\fs.length=zs.length/\∀v∈fs,∃i t,v=.int i t
 |[],[],_,_=>⟨[],kN,rfl,λv hv=>by cases hv⟩
 |[],_::_,h,_=>by simp at h
 |_::_,[],h,_=>by simp at h
 | z::zs,k::ks,h,ka=>by
  obtain⟨fs,kt,hl,hi⟩:=R5 I (by simpa using h) λi k' z' h1 h2=>ka (i+1) k' z' h1 h2
  obtain⟨_,rk,q,rfl,hq⟩:=ka 0 k z rfl rfl
  cases rk
  obtain⟨χ,ri,⟨o,e,c,n,dd⟩,_⟩:=I.tuple (SqT.of hq)
  cases ri with
  |cons ra rr=>
   obtain⟨t,rfl⟩:=ra
   exact⟨_::fs,kc e c dd rfl kt,by rw[aP,aP,hl],λv hv=>(List.mem_cons.mp hv).elim (λz=>⟨_,_,z⟩) (hi v)⟩
def bf7(I:Inv X ξ σ H s){A:bv}{kf:Str->Int}{q1 q2:Addr}{z1 z2:Str}{C:Bool->av->Prop}{E:am->av->Prop}(h1:H q1=some (.tup [.int (kf z1),.str z1]))(h2:H q2=some (.tup [.int (kf z2),.str z2]))(hC:C (ltK kf z1 z2) s) :
  aY (model X.prog X.w) A (keyLt' (tuples' true) (.ref q1) (.ref q2)) C E s:=by
 obtain⟨i1,r1,⟨o1,e1,c1,m1,d1⟩,_⟩:=I.tuple (SqT.of h1)
 obtain⟨i2,r2,⟨o2,e2,c2,m2,d2⟩,_⟩:=I.tuple (SqT.of h2)
 obtain⟨u1,v1,rfl,⟨tk1,rfl⟩,⟨tv1,rfl⟩⟩:=r1.two
 obtain⟨u2,v2,rfl,⟨tk2,rfl⟩,⟨tv2,rfl⟩⟩:=r2.two
 refine PySem.W.kat_lt e1 d1 e2 d2 ?_
 refine g8 (jB ?_)
 unfold ltK at hC
 refine iQ (λe=>?_) (λe=>?_)
 .have e:kf z1=kf z2:=by simpa using e
  rw[if_pos e] at hC
  refine iq (g8 (jC ?_))
  refine iQ (λe=>?_) (λe=>?_)
  .have e:z1=z2:=by simpa using e
   subst e
   have:ltS z1 z1=false:=by unfold ltS;exact decide_eq_false (iO _)
   rw[this] at hC
   exact iq (PySem.W.kat_nil hC)
  .exact ku (PySem.W.kat_one _ _ (lt_str hC))
 .have e:¬ kf z1=kf z2:=by simpa using e
  rw[if_neg e] at hC
  exact ku (oneLt_int hC)
def Y1{α:Type}{v:α->V}{lt:α->α->Bool}{KR:α->V->Hp->Prop}(d:α)(hc:X.calm=true){fn p:Addr}{zs:List α}{Q:VK}(I:Inv X ξ σ H s)(hp:SqL X.K H p (zs.map v) \/ ∃kvs,Rd H p (.dK kvs)/\(kvs.map λkv=>kV kv.1)=zs.map v)(o:OrdL lt zs)(h64:zs.length<64)(up:∀{z w H1 H2},Same H1 H2->KR z w H1->KR z w H2)(hk:∀z∈zs,∀pl s' H3 u,Inv X (ξ++pl) σ H3 s'->Same H H3->RelV (v z) u->aY (model X.prog X.w) X.A.in1.in1 (call (.ref fn) [u]) (EP X (ξ++pl) σ λw H4=>KR z w H4/\Same H3 H4) (λ_ _=>False) s')(ht:∀{pins' H3 s3 ks},Inv X pins' σ H3 s3->ks.length=zs.length->2<=ks.length->ag5 KR H3 zs ks -> ∀{G:ml->av->Prop},(∀ κ,(∀i j C,i<zs.length->j<zs.length->C (lt (zs.getD i d) (zs.getD j d)) s3->eG X.prog X.w X.A.in1.in1 κ ks i j C s3)->G κ s3)->aY (model X.prog X.w) X.A.in1.in1 (jr ks.toArray) G (λ_ _=>False) s3)(q:∀H3 D,Same H H3->H D=none->H3 D=some (.lst ((Bq lt zs).map v))->Q (.ref D) H3) :
  aY (model X.prog X.w) X.A (call (.builtin "sorted") [.ref p] [("key", .ref fn)]) (EP X ξ σ Q) X.xe s:=by
 refine PySem.W.sk_sorted (OKQ:=λus h' tk=>(∀b o,s.heap.get? b=some o->h'.get? b=some o)/\s.heap.objs.size<=h'.objs.size/\s.toks<=tk/\Vals (zs.map v) us) (λR hR=>ai1 hc I hp λus h' tk a b c d=>hR us h' tk ⟨a,b,c,d⟩) λus h' tk ⟨keep,hD,htk,rv⟩=>?_
 have hl:us.length=zs.length:=by have:=rv.length;simpa using this.symm
 refine⟨by omega,λD e1 kS h2 hD2 hDk gD gk k=>?_⟩
 have lD:=aT hD hD2
 have lk:=aT lD (fF hDk)
 have I2:=I.kept (t':=tk) λb o e=>k b o (keep b o e)
 have fD:∀{H':Hp},H' D=none->Ec X ξ H' D:=λhn=>I.fpOk lD hn
 have fk:∀{H':Hp},H' kS=none->Ec X (ξ++[(D,bH "list" #[] e1)]) H' kS:=λhn=>by
  obtain⟨a1,a2,a3,a4,a5,a6⟩:=I.fpOk lk (I.hok.fresh lk)
  refine⟨hn,a2,a3,a4,a5,λp hp=>?_⟩
  rw[<- cE] at hp
  rcases List.mem_append.mp hp with hp|hp
  .exact a6 p hp
  .rw[List.mem_singleton.mp hp]
   exact aQ hDk
 refine⟨λks s'=>∃H',Inv X (ξ++[(D,bH "list" #[] e1)]) σ H' s'/\Same H H'/\H' kS=none/\ag5 KR H' zs ks,⟨H,?_,Same.refl _,I.hok.fresh lk,λi k z h=>by simp at h⟩,?_,?_⟩
 .refine I2.pins_of λp hp=>?_
  rcases List.mem_append.mp hp with hp|hp
  .exact I2.pin p (aE _ hp)
  .rw[List.mem_singleton.mp hp]
   have f:=fD (I.hok.fresh lD)
   exact⟨gD,f.1,f.2.1,f.2.2.1,λv z=>by cases z⟩
 .intro j x ks e s' hx hlk hks ⟨H',I',S,hn,ka⟩
  have hj:=(List.getElem?_eq_some_iff.mp hx).1
  obtain⟨u,hu,ru⟩:=rv.get (i:=j) (by rw[ao,ak (by omega)];rfl)
  rw[hx] at hu
  cases hu
  have I1:Inv X (ξ++([(D,bH "list" #[] e1)]++[(kS,bH "list" ks.toArray e)])) σ H' s':=I'.pins_of λp hp=>by
   rw[<- cE] at hp
   rcases List.mem_append.mp hp with hp|hp
   .exact I'.pin p (aE _ hp)
   .rw[List.mem_singleton.mp hp]
    have f:=fk hn
    exact⟨hks,f.1,f.2.1,f.2.2.1,λv z=>by cases z⟩
  refine bU (hk _ (cS _) _ s' H' _ I1 S ru) (λk s'' hq=>?_) λ_ _ z=>z
  obtain⟨w,H'',I'',rk,kr,S2⟩:=hq
  have pk:=I''.pin (kS,bH "list" ks.toArray e) (by simp)
  refine⟨pk.1,λh3 c g sb=>⟨H'',?_,S.trans S2,pk.2.1,λi k' z h1 h2=>?_⟩⟩
  .have f:=fk pk.2.1
   have I3:Inv X (ξ++[(D,bH "list" #[] e1)]) σ H'' s'':=I''.pins_of λp hp=>I''.pin p (by
    rcases List.mem_append.mp hp with hp|hp
    .exact aE _ (bo _ hp)
    .exact aE _ (aE _ (bo _ hp)))
   exact I3.turned (t':=s''.toks) (λb o nb e=>(sb.2 b nb).trans e) f.1 f.2.1 f.2.2.2.1 f.2.2.2.2.1 f.2.2.2.2.2
  .by_cases hi:i<ks.length
   .rw[bE hi] at h1
    obtain⟨w',r',h'⟩:=ka i k' z h1 h2
    exact⟨w',r',up S2 h'⟩
   .have hi2:i<(ks++[k]).length:=(List.getElem?_eq_some_iff.mp h1).1
    rw[aG,bW] at hi2
    have ei:i=j:=by omega
    subst ei
    rw[bq (by omega),show i-ks.length=0 by omega] at h1
    cases h1
    rw[ak (by omega)] at h2
    cases h2
    exact⟨w,rk,kr⟩
 .intro ks e s' hlk hks ⟨H',I',S,hn,ka⟩
  have pD:=I'.pin (D,bH "list" #[] e1) (by simp)
  have Iu:=I'.unpinned
  have fk':Ec X ξ H' kS:=by
   have f:=fk hn
   exact⟨f.1,f.2.1,f.2.2.1,f.2.2.2.1,f.2.2.2.2.1,λp hp=>f.2.2.2.2.2 p (by rw[<- cE];exact bo _ hp)⟩
  have fin:∀out:List am,Vals ((Bq lt zs).map v) out->PySem.W.SkFin D kS e e1 ks out (λs3=>EP X ξ σ Q (.ref D) s3) s':=λout ro=>by
   refine⟨pD.1,hks,λh4 c g sm=>?_⟩
   refine⟨.ref D,upd H' D (.lst ((Bq lt zs).map v)),Iu.adopt (fD pD.2.1) fk' (λb u b1 b2 e=>(sm b b1 b2).trans e) ⟨?_,out,c,ro,g⟩,rfl,q _ D (λb o e=>?_) (I.hok.fresh lD) Aa⟩
   .rw[ae,(Aw _ zs).length_eq,b_];omega
   .rw[Ad (Ai (S b o e) pD.2.1)]
    exact S b o e
  exact⟨λh2=>fin us (by rw[Qn (by omega)];exact rv),λh2=>ht I' (by omega) (by omega) ka λκ hκ=>Wp d o rv h2 hκ λp ro=>fin _ ro⟩
def bv9{kf:Str->Int}{zs:List Str}{pins':List (Addr×Obj)}{H3:Hp}{s3:av}{ks:List am}{A:bv}(I':Inv X pins' σ H3 s3)(hlz:ks.length=zs.length)(h2:2<=ks.length)(ka:ag5 (bf4 kf) H3 zs ks){G:ml->av->Prop}(hG:∀ κ,(∀i j C,i<zs.length->j<zs.length->C (ltK kf (zs.getD i cQ) (zs.getD j cQ)) s3->eG X.prog X.w A κ ks i j C s3)->G κ s3):aY (model X.prog X.w) A (jr ks.toArray) G (λ_ _=>False) s3:=by
 obtain⟨fs,kt,kl,ki⟩:=R5 I' hlz ka
 refine PySem.W.kat_kind kt (by omega) (λv hv=>by obtain⟨i,t,rfl⟩:=ki v hv;exact .now) rfl (hG _ λi j C hi hj hC=>?_)
 unfold eG
 have at_:∀{i:Nat},i<zs.length -> ∃q,ks.getD i bT=.ref q/\H3 q=some (.tup [.int (kf (zs.getD i cQ)),.str (zs.getD i cQ)]):=λ{i} hi=>by
  obtain⟨w,r,q,rfl,h⟩:=ka i (ks[i]'(by omega)) (zs[i]'(by omega)) (ak _) (ak _)
  refine⟨q,?_,?_⟩
  .rw[az,ak (by omega)];exact r
  .rw[az,ak (by omega)];exact h
 obtain⟨q1,e1,t1⟩:=at_ hi
 obtain⟨q2,e2,t2⟩:=at_ hj
 rw[e1,e2]
 exact bf7 I' t1 t2 hC
end
theorem Pu{α β:Type}{f:α->β}:∀{ds:List α},(ds.map f).Nodup -> ∀a∈ds,∀b∈ds,f a=f b->a=b
 |[],_,a,ha,_,_,_=>by cases ha
 | d::ds,nd,a,ha,b,hb,e=>by
  rw[a7,bG] at nd
  rcases List.mem_cons.mp ha with h1|h1
  .rcases List.mem_cons.mp hb with h2|h2
   .rw[h1,h2]
   .exact (nd.1 (by rw[<- h1,e];exact aL h2)).elim
  .rcases List.mem_cons.mp hb with h2|h2
   .exact (nd.1 (by rw[<- h2,<- e];exact aL h1)).elim
   .exact Pu nd.2 a h1 b h2 e
def bw1{α β:Type}{f:α->β}{ds:List α}(h:(ds.map f).Nodup):ds.Nodup:=(List.pairwise_map.mp h).imp λh e=>h (congrArg f e)
end L2
namespace PySem.W
open PySem PySem.Calls PyProof.Rows
section
variable {prog:a_}{w:bB}{A:bv}{E:am->av->Prop}{s:av}
def collect_items{κ:Type} [DecidableEq κ]{knd:KeyKind prog w κ}{r d:Addr}{kvs:List (κ×am)}{ep:Nat}{Q:List am->av->Prop}(hh:A.handled=none)(hv:s.heap.IsItemsView r d)(hm:s.heap.DictAt knd d kvs ep)(hn:kvs.length<=sizeLine)(h:∀h' tk as,(∀b o,s.heap.get? b=some o->h'.get? b=some o)->as.length=kvs.length->KdxG knd kvs s.heap.objs.size h' as->Q (as.map bC) {s with heap:=h',toks:=tk}) :
  aY (model prog w) A (lZ (.ref r)) Q E s:=by
 have hr:=let⟨o,ho,_⟩:=hv;aO ho
 refine ag (kE (dy kh ?_))
 refine ag (fU (ar ⟨iI _ (by decide +kernel),dy entry_list_iadd' ?_⟩))
 rw[fY jm _]
 refine kdx_extend (R:=wants _ _) hh (let⟨o,ho,x⟩:=hv;⟨o,ai _ ho,x⟩) (hm.keep λb o e=>ai _ e) s.heap.objs.size (eV hr) (aQ hm.lt_size) _ 0 (aK _ rfl) (λh' tk acc c as hk hS hl hG hacc=>?_) hn
 show aY (model prog w) A (do
   let o <- load s.heap.objs.size
   match o.data with
   |.seq xs _=>pure xs.toList
   |_=>unsupported "internal:collect") Q E {s with heap:=h',toks:=tk}
 refine ag (wpAny_load hS ?_)
 refine ar ?_
 rw[hacc]
 exact h h' tk as (λb o e=>hk b o (aQ (aO e)) (ai _ e)) hl (hG.low (by show _<=(s.heap.push _).objs.size;rw[j6];exact fe _))
end
end PySem.W
namespace L2
open PySem PySem.Spec PyProof.Rows
section
variable {β:Type}
theorem Rb:∀{as:List Addr}{ks:List β}{b:Addr}{kv:β},(as.zip ks).lookup b=some kv -> ∃j:Nat,as[j]?=some b/\ks[j]?=some kv
 |[],_,_,_,h=>nomatch h
 |_::_,[],_,_,h=>nomatch h
 | a::as,k::ks,b,kv,h=>by
  rw[gG,cU] at h
  by_cases e:b=a
  .subst e
   rw[beq_self_eq_true] at h
   exact⟨0,rfl,h⟩
  .rw[beq_false_of_ne e] at h
   obtain⟨j,x,y⟩:=Rb h
   exact⟨j+1,x,y⟩
theorem ba6:∀{as:List Addr}{ks:List β}{j:Nat}{b:Addr}{kv:β},as.Pairwise (· < ·)->as[j]?=some b->ks[j]?=some kv->(as.zip ks).lookup b=some kv
 |_::_,_::_,0,_,_,_,x,y=>by cases x;cases y;rw[gG,cU,beq_self_eq_true]
 | a::as,_::ks,j+1,b,_,p,x,y=>by
  have q:=List.pairwise_cons.mp p
  have:a<b:=q.1 b (ah x)
  rw[gG,cU,beq_false_of_ne (eV this)]
  exact ba6 q.2 x y
end
section
variable {X:Cx}{ξ:List (Addr×Obj)}{σ:St}{H:Hp}{s:av}
def Q6(H:Hp)(as:List Addr)(vs:List (V×V)):Hp:=λb=>match (as.zip vs).lookup b with
 |some kv=>some (.tup [kv.1,kv.2])
 |none=>H b
def Inv.twos{h':Heap}{tk:Nat}{as:List Addr}{vs:List (V×V)}(I:Inv X ξ σ H s)(k:∀b u,s.heap.get? b=some u->h'.get? b=some u)(ab:∀a∈as,s.heap.objs.size<=a)(pr:∀(j:Nat) a kv,as[j]?=some a->vs[j]?=some kv -> ∃x y,RelV kv.1 x/\RelV kv.2 y/\h'.get? a=some {cls:=.type "tuple", data:=.seq #[x,y]})(ht:s.toks<=tk) :
  Inv X ξ σ (Q6 H as vs) {s with heap:=h',toks:=tk}/\∀b o,H b=some o->Q6 H as vs b=some o:=by
 have low:∀b:Addr,b<s.heap.objs.size->Q6 H as vs b=H b:=λb lt=>by
  unfold Q6
  split
  .rename_i kv e
   obtain⟨j,x,_⟩:=Rb e
   exact absurd (ab b (ah x)) (Nat.not_le.mpr lt)
  .rfl
 have top:∀b o,H b=some o->Q6 H as vs b=some o:=λb o q=>by
  rw[low b (Nat.lt_of_not_le λz=>by rw[I.hok.fresh z] at q;cases q)]
  exact q
 refine⟨I.un ⟨λb u q _ _ _=>k b u q,λb u q _ _ _=>⟨u.slots,k b u q⟩,λb u q n _=>by rw[low b (aO q)];exact n,λb u q _=>⟨u,k b u q⟩,λb xs q=>top _ _ q,λb o u q=>top _ _ q,λb ps q=>⟨#[],by rw[Array.append_empty];exact top _ _ q⟩⟩ (λb o e=>?_) ht,top⟩
 cases hb:H b with
 |some u'=>
  have g:=top b u' hb
  rw[e] at g
  cases g
  exact(I.hok b o hb).stay (λc v _ q=>k c v q) (λc q=>top _ _ q) λc xs q=>top _ _ q
 |none=>
  unfold Q6 at e
  split at e
  .rename_i kv q
   cases e
   obtain⟨j,x,y⟩:=Rb q
   obtain⟨u,v,r1,r2,g⟩:=pr j b kv x y
   exact⟨(show 2<=sizeLine by decide),[u,v],.cons r1 (.cons r2 .nil),_,g,rfl,_,rfl⟩
  .rw[hb] at e;cases e
def ltA(a b:Str×Addr):Bool:=ltS a.1 b.1
def a02{ds:List (Str×Addr)}(nd:(ds.map (·.1)).Nodup):OrdL ltA ds where
 tot:=λa ha b hb n=>(Cv nd).tot a.1 (aL ha) b.1 (aL hb) λe=>n (Pu nd a ha b hb e)
 tr:=λa ha b hb c hc=>(Cv nd).tr a.1 (aL ha) b.1 (aL hb) c.1 (aL hc)
 nd:=bw1 nd
theorem R4(d:Str×Addr):∀ds,(Jv ltA d ds).map (·.1)=Jv ltS d.1 (ds.map (·.1))
 |[]=>rfl
 | e::ds=>by
  show k0 _ (if ltS d.1 e.1=true then d::e::ds else e::Jv ltA d ds)=if ltS d.1 e.1=true then d.1::e.1::ds.map (·.1) else e.1::Jv ltS d.1 (ds.map (·.1))
  split
  .rfl
  .rw[a7,R4 d ds]
theorem Tn:∀ds,(Bq ltA ds).map (·.1)=Bq ltS (ds.map (·.1))
 |[]=>rfl
 | d::ds=>by
  show(Jv ltA d (Bq ltA ds)).map (·.1)=Jv ltS d.1 (Bq ltS (ds.map (·.1)))
  rw[R4,Tn ds]
def bs2(I:Inv X ξ σ H s){A:bv}{q1 q2:Addr}{z1 z2:Str}{f:Str->Int}{C:Bool->av->Prop}{E:am->av->Prop}(h1:H q1=some (.tup [.str z1,.int (f z1)]))(h2:H q2=some (.tup [.str z2,.int (f z2)]))(hC:C (ltS z1 z2) s) :
  aY (model X.prog X.w) A (keyLt' (tuples' true) (.ref q1) (.ref q2)) C E s:=by
 obtain⟨i1,r1,⟨o1,e1,c1,m1,d1⟩,_⟩:=I.tuple (SqT.of h1)
 obtain⟨i2,r2,⟨o2,e2,c2,m2,d2⟩,_⟩:=I.tuple (SqT.of h2)
 obtain⟨u1,v1,rfl,⟨tk1,rfl⟩,⟨tv1,rfl⟩⟩:=r1.two
 obtain⟨u2,v2,rfl,⟨tk2,rfl⟩,⟨tv2,rfl⟩⟩:=r2.two
 refine PySem.W.kat_lt e1 d1 e2 d2 (g8 (jC (iQ (λe=>?_) (λe=>?_))))
 .have e:z1=z2:=by simpa using e
  subst e
  have:ltS z1 z1=false:=by unfold ltS;exact decide_eq_false (iO _)
  rw[this] at hC
  refine iq (g8 (jB (iQ (λe=>?_) (λe=>?_))))
  .exact iq (PySem.W.kat_nil hC)
  .simp at e
 .exact ku (oneLt_str hC)
theorem Tx(I:Inv X ξ σ H s){f:Str->Int}:∀{ds:List (Str×Addr)},(∀d∈ds,H d.2=some (.tup [.str d.1,.int (f d.1)])) -> ∃fs,fI s.heap (ds.map λd=>bC d.2) fs/\fs.length=ds.length/\∀v∈fs,∃i t,v=.str i t
 |[],_=>⟨[],kN,rfl,λv hv=>by cases hv⟩
 | d::ds,h=>by
  obtain⟨fs,kt,hl,hi⟩:=Tx I λe he=>h e (aA _ he)
  obtain⟨χ,ri,⟨o,e,c,n,dd⟩,_⟩:=I.tuple (SqT.of (h d aD))
  cases ri with
  |cons ra rr=>
   obtain⟨t,rfl⟩:=ra
   exact⟨_::fs,kc e c dd rfl kt,by rw[aP,aP,hl],λv hv=>(List.mem_cons.mp hv).elim (λz=>⟨_,_,z⟩) (hi v)⟩
theorem Es:∀ds:List (Str×Addr),Vals (ds.map λd=>V.ref d.2) (ds.map λd=>bC d.2)
 |[]=>.nil
 |_::r=>.cons rfl (Es r)
def Oe(K:ac):V->Hp->VK->Prop:=λx H Q=>match x with
 |.ref p=>∃zs,∃f:Str->Int,Rd H p (.dK (zs.map λz=>(.inr z,.int (f z))))/\zs.Nodup/\zs.length<64/\∀H' D (es:List (Str×Addr)),Same H H'->H D=none->es.map (·.1)=Bq ltS zs->H' D=some (.lst (es.map λe=>.ref e.2))->(∀e∈es,H' e.2=some (.tup [.str e.1,.int (f e.1)]))->Q (.ref D) H'
 |_=>False
theorem a91{α β:Type}{F:α->β->Prop}:∀{l} {m}{j:Nat}{a:α}{b:β},eE F l m->l[j]?=some a->m[j]?=some b->F a b
 |_,_,0,_,_,.cons r _,h,g=>by cases h;cases g;exact r
 |_,_,j+1,_,_,.cons _ t,h,g=>a91 t h g
def ac0{p:Addr}{zs:List Str}{f:Str->Int}{Q:VK}(hc:X.calm=true)(I:Inv X ξ σ H s)(e:Rd H p (.dK (zs.map λz=>(.inr z,.int (f z)))))(nd:zs.Nodup)(h64:zs.length<64)(q:∀H' D (es:List (Str×Addr)),Same H H'->H D=none->es.map (·.1)=Bq ltS zs->H' D=some (.lst (es.map λe=>.ref e.2))->(∀e∈es,H' e.2=some (.tup [.str e.1,.int (f e.1)]))->Q (.ref D) H') :
  aY (model X.prog X.w) X.A (call (.builtin "dict.items") [.ref p]) (λv s1=>aY (model X.prog X.w) X.A (call (.builtin "sorted") [v]) (EP X ξ σ Q) X.xe s1) X.xe s:=by
 obtain⟨z,lo,vs,rel,dof⟩:=Cm I.hok e
 obtain⟨ep,dat⟩:=dof.dictAt
 refine iJ jo dof.typeIs PySem.F.entry_dict_items (PySem.F.args_dict_items_1 _) (meets_dict_items _ p lo) ⟨⟨vs,dof⟩,?_⟩
 have zv:(s.heap.push {cls:=.type "dict_items", data:=.fields #[.ref p]}).objs.size=s.heap.objs.size+1:=d6 ..
 have view:(s.heap.push {cls:=.type "dict_items", data:=.fields #[.ref p]}).get? s.heap.objs.size=some {cls:=.type "dict_items", data:=.fields #[.ref p]}:=aK _ rfl
 have on1:∀b o,s.heap.get? b=some o->(s.heap.push {cls:=.type "dict_items", data:=.fields #[.ref p]}).get? b=some o:=λb o q=>ai _ q
 generalize s.heap.push {cls:=.type "dict_items", data:=.fields #[.ref p]}=h1 at zv view on1 ⊢
 refine PySem.W.so_sortedC (OKQ:=λus h' tk=>∃as,us=as.map bC/\(∀b o,h1.get? b=some o->h'.get? b=some o)/\as.length=vs.length/\PySem.W.KdxG (Bd X.prog X.w) vs h1.objs.size h' as/\s.toks<=tk) (λR hR=>?_) ?_
 .exact bA (af _) (PySem.W.collect_items (by simp[I.ok.hd hc]) ⟨_,view,rfl,rfl⟩ (dat.keep on1) (by rw[<- rel.length];exact z) λh' tk as hk hl hG htk=>hR _ _ _ ⟨as,rfl,hk,hl,hG,htk⟩)
 rintro _ h' tk ⟨as,rfl,hk,hl,hG,htk⟩
 have al:as.length=zs.length:=by rw[hl,<- rel.length,ae]
 have hD0:s.heap.objs.size<=h1.objs.size:=by omega
 obtain⟨I2,top⟩:=I.twos (vs:=zs.map λz=>(V.str z,V.int (f z))) (λb u q=>hk b u (on1 b u q)) (λa ha=>aT hD0 (fF (hG.above a ha))) (λj a kv x y=>by
  rw[ao] at y
  obtain⟨c,hz,rfl⟩:=Option.map_eq_some_iff.mp y
  obtain⟨key,k,v,e1,e2,e3⟩:=hG.pairs j a x
  obtain⟨r1,r2⟩:=a91 rel (by rw[ao,hz];rfl) e1
  exact⟨key,v,(show RelV (kV (.inr c)) key by have r1:cV c=k:=r1;rw[r1];exact ak9 e2),r2,e3⟩) htk
 have at2:∀d∈zs.zip as,Q6 H as (zs.map λz=>(V.str z,V.int (f z))) d.2=some (.tup [.str d.1,.int (f d.1)]):=λd hd=>by
  obtain⟨j,hj⟩:=List.mem_iff_getElem?.mp hd
  obtain⟨x,y⟩:=List.getElem?_zip_eq_some.mp hj
  unfold Q6
  rw[ba6 (kv:=(V.str d.1,V.int (f d.1))) hG.rise y (by rw[ao,x];rfl)]
 generalize Q6 H as (zs.map λz=>(V.str z,V.int (f z)))=H2 at I2 top at2
 have ea:(zs.zip as).map (·.2)=as:=jx (by omega)
 have ez:(zs.zip as).map (·.1)=zs:=List.map_fst_zip (by omega)
 generalize zs.zip as=ds at at2 ea ez
 subst ez
 have eu:as.map bC=ds.map λd=>bC d.2:=by rw[<- ea,au];rfl
 rw[eu]
 rw[ae] at h64
 have ul:(ds.map λd=>bC d.2).length=ds.length:=ae _
 have fin:∀{h3:Heap}{D:Addr}{us:List am}{c:Nat},h'.objs.size<=D->(∀b o,h'.get? b=some o->h3.get? b=some o)->Vals ((Bq ltA ds).map λd=>V.ref d.2) us->h3.get? D=some (bH "list" us.toArray c)->EP X ξ σ Q (.ref D) {s with heap:=h3,toks:=tk}:=λ{h3 D us c} hD k r g=>by
  have fr:=I2.hok.fresh hD
  refine⟨.ref D,_,I2.laid (t':=tk) k hD (o:=.lst ((Bq ltA ds).map λd=>.ref d.2)) ⟨?_,us,c,r,g⟩,rfl,q _ D (Bq ltA ds) (λb o e=>?_) ?_ (Tn ds) Aa λe he=>?_⟩
  .rw[ae,(Aw ltA ds).length_eq,b_];omega
  .have:=top b o e
   rw[Ad (Ai this fr)];exact this
  .cases c:H D with
   |none=>rfl
   |some o=>rw[top D o c] at fr;cases fr
  .have:=at2 e ((Aw _ _).mem_iff.mp he)
   rw[Ad (Ai this fr)];exact this
 refine⟨by rw[ul];exact h64,λh2 h2' c g k=>fin (af _) k (by rw[Qn (by rw[ul] at h2;exact h2)];exact Es ds) g,λh2 D e1 h2' hD2 gD k=>?_⟩
 have I3:Inv X ξ σ H2 {s with heap:=h2',toks:=tk}:=I2.kept (t':=tk) k
 obtain⟨fs,kt,kl,ki⟩:=Tx I3 at2
 refine PySem.W.kat_kind (T:=.type "str") kt (by rw[ul] at h2;omega) (λv hv=>by obtain⟨i,t,rfl⟩:=ki v hv;exact .now) rfl (Wp (cQ,0) (a02 nd) (Es ds) h2 (λi j C hi hj hC=>?_) λp ro=>⟨gD,λh3 c g sb=>fin hD2 (λb o e=>(sb.2 b (aQ (aR (aO e) hD2))).trans (k b o e)) ro g⟩)
 unfold eG
 have gr:∀i (h:i<ds.length),ds.getD i (cQ,0)∈ds:=λi h=>by
  rw[az,ak h];exact cS h
 have e1:=Ro (cQ,0) (Es ds) hi
 have e2:=Ro (cQ,0) (Es ds) hj
 rw[show List.getD _ i bT=_ from e1,show List.getD _ j bT=_ from e2]
 exact bs2 I3 (at2 _ (gr i hi)) (at2 _ (gr j hj)) hC
end
abbrev RF:=List V->Hp->VK->Prop
def a84(x:V)(T:String):Bool:=match x with
 |.int _=>T == "int"
 |.bl _=>T == "bool" || T == "int"
 |.str _=>T == "str"
 |_=>false
def okT(T:String):Bool:=["int","bool","str","list","tuple","dict"].contains T
def Hq(K:ac):RF:=λxs H Q=>match xs with
 | [x,c]=>(match c with
  |.ty T=>if B7 x=true then okT T=true/\Q (.bl (a84 x T)) H else ∃t b,TyX K H x t/\ga K t (.type T)=some b/\Q (.bl b) H
  |.ref C=>(∃t b,TyX K H x t/\ga K t (.ref C)=some b/\Q (.bl b) H)\/False
  |_=>False)
 |_=>False
def Dh(K:ac):RF:=λxs H Q=>match xs with
 |[.str z]=>z.length<=sizeLine/\Q (.int z.length) H
 |[.ref p]=>(∃ys,(SqL K H p ys\/SqT K H p ys)/\Q (.int ys.length) H) \/ ∃kvs,Rd H p (.dK kvs)/\Q (.int kvs.length) H
 |_=>False
def P6(K:ac):RF:=λxs H Q=>match xs with
 |[.ref p]=>∃bs:List Bool,SqL K H p (bs.map V.bl)/\Q (.bl (bs.all λb=>b)) H
 |_=>False
def ab1:RF:=λxs H Q=>match xs with
 |[.int i]=>Q (.int i) H
 |[.bl k]=>Q (.int (if k then 1 else 0)) H
 |_=>False
def P9(K:ac):RF:=λxs H Q=>match xs with
 |[.ref p]=>∃ys,(SqL K H p ys\/SqT K H p ys)/\∀l,H l=none->Q (.ref l) (upd H l (.lst ys))
 |_=>False
def Gi(K:ac):RF:=λxs H Q=>match xs with
 |[.ref p]=>∃ys,(SqL K H p ys/\∀l,H l=none->Q (.ref l) (upd H l (.tup ys)))\/(SqT K H p ys/\Q (.ref p) H)
 |_=>False
def Gh(K:ac)(calm:Bool):RF:=λxs H Q=>P9 K xs H Q\/(calm=true/\aq7 xs H Q)
def Qb(K:ac)(calm:Bool):RF:=λxs H Q=>False\/(calm=true/\(ar1 K xs H Q\/False))
inductive BF where
 |bf (id:String)|ty (T:String)
def bc7(K:ac)(calm:Bool)(x:Str):Option (BF×RF):=
 if x="len" then some (.bf "len", Dh K) else
 if x="isinstance" then some (.bf "isinstance", Hq K) else
 if x="all" /\ calm=true then some (.bf "all", P6 K) else
 if x="int" then some (.ty "int", ab1) else
 if x="list" then some (.ty "list", Gh K calm) else
 if x="tuple" then some (.ty "tuple", Gi K) else
 if x="sorted" then some (.bf "sorted", Qb K calm) else
 if x="sum" /\ calm=true then some (.bf "sum", b13 K) else
 if x="dict" then some (.ty "dict", Ho) else none
def BF.val:BF->am
 |.bf id=>.builtin id
 |.ty T=>.type T
section
variable {X:Cx}
def U5{K:ac}{x:V}{T:String}(hx:B7 x=true)(h:okT T=true):∃t,(∀H,TyOf K H x t)/\ga K t (.type T)=some (a84 x T):=by
 have hT:T="int" \/ T="bool" \/ T="str" \/ T="list" \/ T="tuple" \/ T="dict" := by
  unfold okT at h
  simpa using h
 cases x with
 |int i=>refine⟨_,λH=>TyOf.int i,?_⟩;rcases hT with rfl|rfl|rfl|rfl|rfl|rfl <;> rfl
 |bl i=>refine⟨_,λH=>TyOf.bl i,?_⟩;rcases hT with rfl|rfl|rfl|rfl|rfl|rfl <;> rfl
 |str i=>refine⟨_,λH=>TyOf.str i,?_⟩;rcases hT with rfl|rfl|rfl|rfl|rfl|rfl <;> rfl
 |non=>refine⟨_,λH=>TyOf.non,?_⟩;rcases hT with rfl|rfl|rfl|rfl|rfl|rfl <;> rfl
 |_=>cases hx
def ah6:Cf X (.builtin "isinstance") (Hq X.K):=by
 intro ξ s σ H xs us Q I r h
 rcases xs with _|⟨x,_|⟨c,_|_⟩⟩ <;> try exact h.elim
 obtain⟨u,v,rfl,ru,rv⟩:=r.two
 have go:∀w,(∃t b,TyX X.K H x t/\ga X.K t w=some b/\Q (.bl b) H)->aY (model X.prog X.w) X.A (call (.builtin "isinstance") [u,w]) (EP X ξ σ Q) X.xe s:=λw ⟨t,b,ty,e,q⟩=>bA (af _) (U3 I ru ty e λtk htk=>⟨.bl b,H,I.tok tk htk,rfl,q⟩)
 cases c with
 |ty T=>
  cases rv
  by_cases f:B7 x=true
  .rw[show Hq X.K [x,.ty T] H Q=_ from if_pos f] at h
   obtain⟨t,ht,hk⟩:=U5 f h.1
   exact go _ ⟨t,_,.of (ht H),hk,h.2⟩
  .rw[show Hq X.K [x,.ty T] H Q=_ from if_neg f] at h
   exact go _ h
 |ref C=>cases rv;exact go _ (h.resolve_right id)
 |_=>exact h.elim
def Zk:Cf X (.builtin "len") (Dh X.K):=by
 intro ξ s σ H xs us Q I r h
 unfold Dh at h
 split at h
 .exact Ov ξ s σ H _ us Q I r ⟨_,rfl,h.1,h.2⟩
 .rcases h with⟨ys,h1,h2⟩|⟨kvs,h1,h2⟩
  .exact Ou ξ s σ H _ us Q I r ⟨_,ys,rfl,h1,h2⟩
  .obtain⟨u,rfl,ru⟩:=Dn r
   cases ru
   exact bu1 I h1 λt s' I'=>⟨.int _,H,I',⟨t,rfl⟩,h2⟩
 .exact h.elim
def Zi(hc:X.calm=true):Cf X (.builtin "all") (P6 X.K):=by
 intro ξ s σ H xs us Q I r h
 unfold P6 at h
 split at h
 .obtain⟨bs,h1,h2⟩:=h
  exact ah5 hc ξ s σ H _ us Q I r ⟨_,bs,rfl,h1,h2⟩
 .exact h.elim
def Zj:Cf X (.type "int") ab1:=by
 intro ξ s σ H xs us Q I r h
 unfold ab1 at h
 split at h
 .exact Nn ξ s σ H _ us Q I r (.inl ⟨_,rfl,h⟩)
 .exact Nn ξ s σ H _ us Q I r (.inr ⟨_,rfl,h⟩)
 .exact h.elim
def Ui:Cf X (.type "list") (P9 X.K):=by
 intro ξ s σ H xs us Q I r h
 unfold P9 at h
 split at h
 .obtain⟨ys,h1,h2⟩:=h
  exact Ow ξ s σ H _ us Q I r ⟨_,ys,rfl,h1,h2⟩
 .exact h.elim
def Zl:Cf X (.type "tuple") (Gi X.K):=by
 intro ξ s σ H xs us Q I r h
 unfold Gi at h
 split at h
 .obtain⟨ys,h1⟩:=h
  exact Mo ξ s σ H _ us Q I r ⟨_,ys,rfl,h1⟩
 .exact h.elim
def B0{α:Type}{c:Prop} [Decidable c]{a z:α}{b:Option α}{P:Prop}(h:(if c then some a else b)=some z)(h1:c->a=z->P)(h2:b=some z->P):P:=by
 by_cases k:c
 .rw[if_pos k] at h;exact h1 k (aJ h)
 .rw[if_neg k] at h;exact h2 h
def Do{α:Type}{c:Prop} [Decidable c]{a z:α}{b:List α}{P:Prop}(h:z∈(if c then [a] else b))(h1:c->z=a->P)(h2:z∈b->P):P:=by
 by_cases k:c
 .rw[if_pos k] at h;exact h1 k (List.mem_singleton.mp h)
 .rw[if_neg k] at h;exact h2 h
def ay7(hu:X.A.units+64<cLine){x:Str}{f:BF}{r:RF}{c:Bool}(h:bc7 X.K c x=some (f,r))(hc:c=X.calm):cO x=some f.val/\Cf X f.val r:=by
 have ok:∀{y} {g} {q},(g,q)=(f,r)->x=y->cO y=some g.val/\Cf X g.val q->cO x=some f.val/\Cf X f.val r:=λe1 e2 z=>by cases e1;subst e2;exact z
 exact B0 h (λe z=>ok z e ⟨PySem.boot_len,Zk⟩) λh=>B0 h (λe z=>ok z e ⟨PyProof.Rows.boot_isinstance,ah6⟩) λh=>B0 h (λe z=>ok z e.1 ⟨PyProof.Rows.boot_all,Zi (hc▸e.2)⟩) λh=>
  B0 h (λe z=>ok z e ⟨jR,Zj⟩) λh=>B0 h (λe z=>ok z e ⟨gO,λξ s σ H xs us Q I r h=>h.elim (Ui ξ s σ H xs us Q I r) λz=>Uj (hc▸z.1) ξ s σ H xs us Q I r z.2⟩) λh=>B0 h (λe z=>ok z e ⟨ji,Zl⟩) λh=>
  B0 h (λe z=>ok z e ⟨Ed,λξ s σ H xs us Q I r h=>h.elim ca λz=>Uk (hc▸z.1) ξ s σ H xs us Q I r (z.2.resolve_right id)⟩) λh=>B0 h (λe z=>ok z e.1 ⟨PyProof.Rows.boot_sum,ah7 (hc▸e.2)⟩) λh=>B0 h (λe z=>ok z e ⟨boot_dict,Ug⟩) λh=>nomatch h
abbrev RM:=V->List V->Hp->VK->Prop
structure BM where
 T:String
 id:String
 r:RM
def rMt(K:ac)(bs:List BM):V->Hp->(Hp->(List V->Hp->Prop)->Prop)->VK->Prop:=λx H1 ta Q=>
 match bs with
 |[]=>False
 |[b]=>tyV K b.T x H1/\ta H1 λxs H2=>b.r x xs H2 Q
 |b::rest=>(tyV K b.T x H1/\ta H1 λxs H2=>b.r x xs H2 Q)\/rMt K rest x H1 ta Q
structure ad2 (X:Cx) (m:Str) (b:BM):Prop where
 pa:PlainAttrs b.T
 slot:Slot b.T m b.id
 ty:typeOf (.builtin b.id)=pure (.type "method_descriptor")
 mt:MtR X b.id b.r
def Tf(K:ac):RM:=λx xs H Q=>∃z p ys,x=.str z/\xs=[.ref p]/\(SqL K H p (ys.map V.str)\/False)/\(ys.map (·.length)).sum+ys.length*z.length<=16777216/\Q (.str (Txt.join z ys)) H
def am7{X:Cx}:MtR X "str.join" (Tf X.K):=by
 intro ξ s σ H x xs v us Q I rx rs h
 obtain⟨z,p,ys,rfl,rfl,hq,hz,q⟩:=h
 exact a08 ξ s σ H _ _ v us Q I rx rs ⟨z,p,ys,rfl,rfl,hq.resolve_right id,hz,q⟩
def a94:RM:=λx xs H Q=>∃i,x=.int i/\xs=[]/\Q (.int (ib i:Nat)) H
def Hn:RM:=λx xs H Q=>match x,xs with
 |.ref a,[y]=>∃o,DGet H a y o/\Q (o.getD .non) H
 |.ref a,[y,z]=>∃o,DGet H a y o/\Q (o.getD z) H
 |_,_=>False
def a07(hu:X.A.units+64<cLine):MtR X "dict.get" Hn:=by
 intro ξ s σ H x xs v us Q I rx rs h
 unfold Hn at h
 split at h
 .obtain⟨o,g,q⟩:=h
  obtain⟨u,rfl,ru⟩:=rs.one
  cases rx
  exact bd1 (by omega) I g ru λw' s' I' r'=>⟨_,H,I',r',q⟩
 .obtain⟨o,g,q⟩:=h
  obtain⟨u,w,rfl,ru,rw'⟩:=rs.two
  cases rx
  exact bd2 (by omega) I g ru rw' λw' s' I' r'=>⟨_,H,I',r',q⟩
 .exact h.elim
def Uu{i:Nat}(h:i<sizeLine):fX (i:Int)=true:=by
 have hs:sizeLine<=9223372036854775807:=aC rfl
 have e:(2:Int)^63=9223372036854775808:=rfl
 unfold fX
 rw[e,aU]
 exact⟨decide_eq_true (by omega),decide_eq_true (by omega)⟩
def P7:RM:=λx vs H Q=>∃l xs y,∃i:Nat,x=.ref l/\vs=[.int (i:Int),y]/\H l=some (.lst xs)/\i<=xs.length/\xs.length<sizeLine/\Q .non (upd H l (.lst (xs.take i++y::xs.drop i)))
def Z8:MtR X "list.insert" P7:=by
 intro ξ s σ H x vs v us Q I rx rv h
 obtain⟨l,xs,y,i,rfl,rfl,hH,hi,hz,q⟩:=h
 cases rx
 obtain⟨u1,u2,rfl,⟨t,rfl⟩,r2⟩:=rv.two
 obtain⟨z,χ,n,r,hl,e⟩:=I.lstM hH
 have hf:=Uu (be hi hz)
 have hz':χ.toArray.size<=sizeLine:=by rw[ay,<- hl];exact z
 obtain⟨j,hj⟩:∃j:Int,j=(i:Int):=⟨_,rfl⟩
 rw[<- hj] at hf ⊢
 have hf':¬ (!fX j)=true:=by rw[hf];decide
 have M:=AutoSeq1.list_insert_list_int_val_1 l χ.toArray n j t u2 hf' hz'
 refine j4 i7 ⟨_,e,rfl⟩ PySem.F.entry_list_insert (PySem.F.args_list_insert_3 _ _ _) M ⟨e,?_⟩
 refine⟨.non,_,I.lset hH e ?_ ((r.take i).append (.cons r2 (r.drop i))) ?_,rfl,q⟩
 .have hk:(if j<0 then(j+(χ.toArray.size:Int)).toNat else min j.toNat χ.toArray.size)=i:=by
   rw[if_neg (by omega),ay,hj,bb]
   omega
  rw[hk]
  apply Array.toList_inj.mp
  simp
  exact cI (by simp)
 .rw[aG,aP,aF,List.length_drop]
  omega
def a97:RM:=λx vs H Q=>b11 x vs H Q\/False
def ar0:RM:=λx xs H Q=>∃p k v kvs,x=.ref p/\xs=[kV k,v]/\H p=some (.dK kvs)/\kvs.length<sizeLine/\(match Bg kvs k with
 |some w=>Q w H
 |none=>Q v (upd H p (.dK (Bt kvs k v))))
def am8:MtR X "dict.setdefault" ar0:=by
 intro ξ s σ H x xs v us Q I rx rs h
 obtain⟨p,k,y,kvs,rfl,rfl,e,hl,q⟩:=h
 cases rx
 obtain⟨u1,u2,rfl,ru,rv⟩:=rs.two
 obtain⟨z,hd,vs,rel,dd⟩:=aj0 I.hok e
 have hv:=rel.val k
 refine iJ hZ dd.typeIs PySem.F.entry_dict_setdefault (PySem.F.args_dict_setdefault_3 _ _ _) (kt_meets_setdefault (Bd X.prog X.w) p (Hj ru) hd u2) ⟨vs,dd,by rw[<- rel.length];exact z,λr hr=>?_,λhr h' dd' hs=>?_⟩
 .rw[hr] at hv
  cases e2:Bg kvs k with
  |none=>rw[e2] at hv;cases hv
  |some w=>rw[e2] at hv q;exact⟨w,H,I.tok _,hv,q⟩
 .rw[hr] at hv
  cases e2:Bg kvs k with
  |some w=>rw[e2] at hv;cases hv
  |none=>
   rw[e2] at q
   have hl2:(Bt kvs k y).length<=sizeLine:=by have:=De kvs k y;omega
   have he:∃q,h'.get? p=some q:=let⟨q,_,_,hq,_⟩:=dd';⟨q,hq⟩
   exact⟨y,_,G5 I (by rw[e];exact aZ) hs he (Pa hl2 hd (rel.put k rv) dd'),rv,q⟩
def Tg:RM:=λx vs H Q=>False\/ar0 x vs H Q
def mtR(K:ac)(m:Str):List BM:=
 if m="append" then [⟨"list","list.append", Cj⟩] else
 if m="get" then [⟨"dict","dict.get", Hn⟩] else
 if m="extend" then [⟨"list","list.extend", Kn⟩] else
 if m="clear" then [⟨"list","list.clear", aq5⟩] else
 if m="join" then [⟨"str","str.join", Tf K⟩] else
 if m="bit_length" then [⟨"int","int.bit_length", a94⟩] else
 if m="setdefault" then [⟨"dict","dict.setdefault", Tg⟩] else
 if m="insert" then [⟨"list","list.insert", P7⟩] else
 if m="pop" then [⟨"list","list.pop", a97⟩] else []
def am4{m:Str}{b:BM}(hu:X.A.units+64<cLine)(h:b∈mtR X.K m):ad2 X m b:=by
 have ok:∀{y} {c},m=y->b=c->ad2 X y c->ad2 X m b:=λe1 e2 z=>by subst e1 e2;exact z
 exact Do h (λe z=>ok e z ⟨dD,PySem.F.slot_list_append,PySem.F.type_list_append,N9⟩) λh=>Do h (λe z=>ok e z ⟨gJ,dY,PySem.F.type_dict_get,a07 hu⟩) λh=>Do h (λe z=>ok e z ⟨dD,PySem.F.slot_list_extend,PySem.F.type_list_extend,Z7⟩) λh=>
  Do h (λe z=>ok e z ⟨dD,PySem.F.slot_list_clear,PySem.F.type_list_clear,am6⟩) λh=>Do h (λe z=>ok e z ⟨PySem.F.plainAttrs_str,PySem.F.slot_str_join,PySem.F.type_str_join,am7⟩) λh=>Do h (λe z=>ok e z ⟨PySem.F.plainAttrs_int,PySem.F.slot_int_bit_length,PySem.F.type_int_bit_length,a06⟩) λh=>
  Do h (λe z=>ok e z ⟨gJ,hZ,PySem.F.type_dict_setdefault,λξ s σ H x vs v us Q I rx rv h=>am8 ξ s σ H x vs v us Q I rx rv (h.resolve_left id)⟩) λh=>Do h (λe z=>ok e z ⟨dD,i7,PySem.F.type_list_insert,Z8⟩) λh=>Do h (λe z=>ok e z ⟨dD,PySem.F.slot_list_pop,PySem.F.type_list_pop,λξ s σ H x vs v us Q I rx rv h=>bg7 ξ s σ H x vs v us Q I rx rv (h.resolve_right id)⟩) λh=>nomatch h
theorem Qa{K:ac}:∀{bs} {x} {H1} {ta} {Q},rMt K bs x H1 ta Q -> ∃b∈bs,tyV K b.T x H1/\ta H1 λxs H2=>b.r x xs H2 Q
 |[],_,_,_,_,h=>h.elim
 |[b],_,_,_,_,h=>⟨b,by simp,h⟩
 | b::c::rest,x,H1,ta,Q,h=>by
  rcases h with h|h
  .exact⟨b,by simp,h⟩
  .obtain⟨d,hd,q⟩:=Qa h
   exact⟨d,aA _ hd,q⟩
def Cw:Expr->Bool
 |.Call (.Name x _) [] [] _=>!(x==("super" : Str))
 |_=>true
def C7{e:Expr}(h:Cw e=true)(f:Str)(env:Env)(whole:Sem am):jq e f env whole=whole:=by
 unfold jq
 split
 .rename_i id p pos
  have:(id==("super" : Str))=false:=by
   have h':(!(id==("super" : Str)))=true:=h
   simpa using h'
  have e2:(id != "super")=true:=by
   show(!(id == "super"))=true
   rw[this]
   rfl
  rw[e2]
  simp
 .rfl
variable {o:Expr}{do':DE}{es:List Expr}{r:DA}{m:Str}{apos cpos:Pos}
def bp3{bs:List BM}(hb:∀b∈bs,ad2 X m b)(ho:QE X o do')(h1:Cw o=true)(h4:(apos.endLine==cpos.line)=true) :
  QE X (.Call (.Attribute o m apos) [] [] cpos) (dMt (rMt X.K bs) do' Ag):=by
 intro Ex mt ξ s σ H Q I h
 refine jv (C7 h1 m X.env _) h4 (thn (ho Ex mt ξ s σ H _ I h) λv s1 ⟨x,H1,I1,r1,q1⟩=>?_)
 obtain⟨b,hbm,ty,q⟩:=Qa q1
 obtain⟨k1,k2⟩:=av5 I1 r1 ty
 have B:=hb b hbm
 exact⟨b.T,b.id,B.pa,B.slot,B.ty,k1,k2,gN rfl (kO (B.mt ξ s1 σ H1 x [] v [] Q I1 r1 .nil q))⟩
def b03{bs:List BM}{e:Expr}(hb:∀b∈bs,ad2 X m b)(ho:QE X o do')(ha:QA X (e::es) r)(h1:Cw o=true)(h2:(e::es).all A9=true)(h3:(e::es).length<30)(h4:(apos.endLine==cpos.line)=true) :
  QE X (.Call (.Attribute o m apos) (e::es) [] cpos) (dMt (rMt X.K bs) do' r):=by
 intro Ex mt ξ s σ H Q I h
 have hs:=bV▸h2
 rw[aU] at hs
 have hfew:((jW cpos (df (e::es) X.env)).all (λx=>!x.1)&&(lQ cpos (jt [] X.env)).all (λx=>x.1.isSome)
   && decide ((e::es).length+([]:List lV).length+(if([]:List lV).isEmpty then 0 else 1)<30))=true:=by
  rw[Jq h2]
  have:decide ((e::es).length+([]:List lV).length+(if([]:List lV).isEmpty then 0 else 1)<30)=true:=by
   rw[decide_eq_true_iff]
   simpa using h3
  rw[this]
  rfl
 refine wpAny_Call_method_late (C7 h1 m X.env _) hfew h4 rfl (thn (ho Ex mt ξ s σ H _ I h) λv s1 ⟨x,H1,I1,r1,q1⟩=>?_)
 obtain⟨b,hbm,ty,q⟩:=Qa q1
 obtain⟨k1,k2⟩:=av5 I1 r1 ty
 have B:=hb b hbm
 refine⟨b.T,b.id,B.pa,B.slot,B.ty,k1,k2,?_⟩
 have hA:=ha Ex mt cpos ξ s1 σ H1 _ I1 q
 rw[A7 hs.1] at hA ⊢
 exact gN (by show(false||(jW cpos (df es X.env)).any (·.1))=false;rw[Cb hs.2] <;> rfl) (Calls.evalArgs_plain (thn hA λus s2 ⟨vs,H2,I2,r2,q2⟩=>B.mt ξ s2 σ H2 x vs v us Q I2 r1 r2 q2))
variable {x:Str}{p pos:Pos}{G:Sg}
def bo9{f:BF}{rf:RF}{e:Expr}(hc:Cf X f.val rf)(hg:Gl X x)(hm:X.mg x=none)(hv:cO x=some f.val)(ha:QA X (e::es) r)(hs:(e::es).all A9=true)(hn:x ≠ "__name__")(hdb:(x==("__debug__" : Str))=false) :
  QE X (.Call (.Name x p) (e::es) [] pos) (dFn (λvs H Q _=>rf vs H Q) r):=by
 intro Ex mt
 have h:=bV▸hs
 rw[aU] at h
 cases f with
 |bf id=>exact ao2 hc hg hm hv (ha Ex mt) hn hdb (A7 h.1 es X.env) (Cb h.2 X.env pos)
 |ty T=>exact aa5 hc hg hm hv (ha Ex mt) hn hdb (A7 h.1 es X.env) (Cb h.2 X.env pos)
def spE(sp:Sp)(dvs:List V):List V->Hp->VK->EK->Prop:=λvs H Q E=>sp (vs++dvs) H Q (λv _ H'=>∃a,v=.ref a/\E a H')
def Yw{i:FI}(F:Ku X i){j:Nat}(hj:j<=i.dfs.length){Ex:St->EK}(mt:Meets X Ex){ξ:List (Addr×Obj)}{σ:St}{H:Hp}{s:av}{Q:VK}{us:List am}{vs:List V}(I:Inv X ξ σ H s)(r:Vals vs us)(h:spE i.sp (i.dfs.drop j) vs H Q (Ex σ)):aY (model X.prog X.w) X.A (call (.ref i.f) us) (EP X ξ σ Q) X.xe s:=by
 have FO:=F.ok
 have r2:=r.append (F.vals.drop j)
 have hl:(us++i.ds.drop j).length=i.ps.length:=by rw[<- r2.length];exact FO.len _ _ _ _ h
 refine jc (fO (FO.run X.A X.stack s H ⟨us,[]⟩ (us++i.ds.drop j) (vs++i.dfs.drop j) Q _ F.room I.env0 (F.binds j hj s us I.kIn hl) r2 h) λr s' hq=>?_)
 cases r with
 |error e=>exact hq.elim
 |ok fl=>
  cases fl with
  |ret u=>exact I.after hq
  |next=>exact ca hq
  |brk=>exact ca hq
  |cont=>exact ca hq
noncomputable def Du:List DE->DA
 |[]=>Ag
 |a::r=>Ac a (Du r)
theorem Dq{X:Cx}{w:Expr->DE}(h:∀e,QE X e (w e)):∀{es},es.all A9=true->QA X es (Du (es.map w))
 |[],_=>P3
 | e::es,hs=>by
  rw[bV,aU] at hs
  exact Km (h e) (Dq h hs.2) hs.1
def Xx{w:Expr->DE}{f:Addr}{first:List am}(kp:bF X.K (.ref f)=true)(h:∀e,QE X e (w e))(hs:es.all A9=true){Ex:St->EK}(mt:Meets X Ex){ξ:List (Addr×Obj)}{σ:St}{H:Hp}{s:av}{C:List V->Hp->Prop}{P:am->av->Prop}(I:Inv X ξ σ H s)(ha:Du (es.map w) σ H C (Ex σ))(run:∀us vs H1 s1,Inv X ξ σ H1 s1->Vals vs us->C vs H1->aY (model X.prog X.w) X.A (call (.ref f) (first++us)) P X.xe s1) :
  aY (model X.prog X.w) X.A (callWith pos (.ref f) first (jW pos (df es X.env)) (lQ pos (jt [] X.env))) P X.xe s:=by
 cases es with
 |nil=>exact PySem.W.callWith_K0 I.kIn kp (run [] [] H s I .nil ha)
 |cons e es=>
  have h2:=bV▸hs
  rw[aU] at h2
  exact PySem.W.callWith_K I.ok.mod.kin kp (thn (Dq h hs Ex mt pos ξ s σ H _ I ha) λus s1 ⟨vs,H1,I1,r,q⟩=>⟨I1.kIn,run us vs H1 s1 I1 r q⟩) (A7 h2.1 es X.env) (Cb h2.2 X.env pos)
def a92{w:Expr->DE}{f:Addr}{R:List V->Hp->VK->EK->Prop}(h:∀e,QE X e (w e))(hs:es.all A9=true)(hg:Gl X x)(hdb:(x==("__debug__" : Str))=false)(hm:X.mg x=some (.ref f))(kp:bF X.K (.ref f)=true)(run:∀{Ex} {ξ}{σ:St}{H:Hp}{s:av}{Q:VK}{us:List am}{vs:List V},Meets X Ex->Inv X ξ σ H s->Vals vs us->R vs H Q (Ex σ)->aY (model X.prog X.w) X.A (call (.ref f) us) (EP X ξ σ Q) X.xe s) :
  QE X (.Call (.Name x p) es [] pos) (dFn R (Du (es.map w))):=by
 intro Ex mt ξ s σ H Q I q
 exact cz (X7 I hg hm (Xx kp h hs mt I q λus vs H1 s1 I1 r q=>run mt I1 r q) hdb)
def mkC(C:Addr):Option FI->Nat->List V->Hp->VK->EK->Prop
 |none,_=>λ_ _ _ _=>False
 | some i,j=>λvs H Q E=>∀a dx,H a=none->H dx=none->dx≠a ->
   i.sp (.ref a::(vs++i.dfs.drop j)) (upd (upd H dx (.own a)) a (.ins C dx [])) (λv H2=>v=.non/\Q (.ref a) H2) (λv _ H'=>∃b,v=.ref b/\E b H')
def a49{C f:Addr}{k:Nat}{fd:bj}{ps:List Str}{sp:Sp}{ds:List am}{dvs:List V}{E:XK}{ξ:List (Addr×Obj)}{σ:St}{H:Hp}{s:av}{Q:VK}{us:List am}{vs:List V}(M:Mk X.K C f)(F:FnOk X.prog X.w X.K X.mg X.base CX0 k f fd ps sp)(hr:Room (k+1) X.A)(hb:Binds X.K fd ps ds)(hd:Vals dvs ds)(I:Inv X ξ σ H s)(r:Vals vs us)(h:∀x dx,H x=none->H dx=none->dx≠x->sp (.ref x::(vs++dvs)) (upd (upd H dx (.own x)) x (.ins C dx [])) (λv H2=>v=.non/\Q (.ref x) H2) E) :
  aY (model X.prog X.w) X.A (call (.ref C) us) (EP X ξ σ Q) X.xe s:=by
 have hq:=h (s.heap.objs.size+1) s.heap.objs.size (I.hok.fresh (fe _)) (I.hok.fresh (af _)) (aQ (dB _))
 have I2:=Inv.made (C:=C) I
 have r2:Vals (V.ref (s.heap.objs.size+1)::(vs++dvs)) (bC (s.heap.objs.size+1)::(us++ds)):=.cons rfl (r.append hd)
 have hl:(bC (s.heap.objs.size+1)::us++ds).length=ps.length:=by
  have e:=r2.length
  rw[F.len _ _ _ _ hq] at e
  exact e.symm
 refine jc (al4 I.kIn M.makes M.init (beq_iff_eq.mp M.fn) (fO (F.run _ X.stack _ _ ⟨bC (s.heap.objs.size+1)::us,[]⟩ (bC (s.heap.objs.size+1)::(us++ds)) _ _ E (hr.make C us [])
  (I2.env0.make C us []) (hb _ (bC (s.heap.objs.size+1)::us) I2.kIn hl) r2 hq) λr s' hq'=>?_))
 cases r with
 |error e=>exact hq'.elim
 |ok fl=>
  cases fl with
  |ret u=>
   obtain⟨v,H',I3,rv,ev,q3⟩:=I2.after hq'
   subst ev
   exact⟨rv,⟨V.ref (s.heap.objs.size+1),H',I3,rfl,q3⟩⟩
  |next=>exact ca hq'
  |brk=>exact ca hq'
  |cont=>exact ca hq'
def a50{C:Addr}{oi:Option FI}{j:Nat}(hi:bc0 X C oi)(hj:∀i,oi=some i->j<=i.dfs.length){Ex:St->EK}(mt:Meets X Ex){ξ:List (Addr×Obj)}{σ:St}{H:Hp}{s:av}{Q:VK}{us:List am}{vs:List V}(I:Inv X ξ σ H s)(rv:Vals vs us)(kp:bF X.K (.ref C)=true)(h:mkC C oi j vs H Q (Ex σ)):aY (model X.prog X.w) X.A (call (.ref C) us) (EP X ξ σ Q) X.xe s:=by
 cases oi with
 |none=>exact h.elim
 |some i=>
  obtain⟨h0,h1,h2,F,hr⟩:=hi
  exact a49 ⟨h0,h1,h2,kp⟩ F.ok hr (F.binds j (hj i rfl)) (F.vals.drop j) I rv h
noncomputable def Bf(m:Str)(n:Nat)(l:List MI)(o:DE)(t:DA):DE:=λσ H Q E=>o σ H (λx H1=>∃a dx fs mi,x=.ref a/\mi∈l/\H1 a=some (.ins mi.C dx fs)/\fs.lookup m=none/\(n+1<=mi.i.ps.length/\mi.i.ps.length<=n+1+mi.i.dfs.length) /\
 t σ H1 (λvs H2=>spE mi.i.sp (mi.i.dfs.drop (n+1+mi.i.dfs.length-mi.i.ps.length)) (.ref a::vs) H2 Q E) E) E
def ao1{es:List Expr}{P:am->av->Prop}{s:av}(h1:Cw o=true)(h2:es.all A9=true)(h3:es.length<30)(h4:(apos.endLine==cpos.line)=true)(h:aY (model X.prog X.w) X.A (eval o X.env) (λov s1=>∀pl,aY (model X.prog X.w) X.A (getMethod ov m pl) (λfx s2=>aY (model X.prog X.w) X.A (callWith cpos fx.1 fx.2 (jW cpos (df es X.env)) (lQ cpos (jt [] X.env))) P X.xe s2) X.xe s1) X.xe s) :
  aY (model X.prog X.w) X.A (eval (.Call (.Attribute o m apos) es [] cpos) X.env) P X.xe s:=by
 have few:methodCallForm (es.length+([]:List lV).length) (jW cpos (df es X.env)) (lQ cpos (jt [] X.env))=true:=by
  unfold methodCallForm
  rw[Jq h2]
  simpa [lQ,jt] using h3
 rw[arm_eval_Call,C7 h1]
 refine ag (thn h λov s1 h1=>ag (fW ?_))
 unfold methodCall calleeOf
 rw[few,if_pos rfl]
 refine ag (bz (thn (h1 _) λfx s2 h2=>?_))
 have hp:methodCallPos true o X.env apos cpos=pure cpos:=by unfold methodCallPos;rw[h4];rfl
 rw[hp]
 exact ag (ar h2)
def bp7{l:List MI}{w:Expr->DE}(hl:∀mi∈l,Cls X.K mi.C/\Mn X.K mi.C m mi.i.f/\Ku X mi.i)(h:∀e,QE X e (w e))(h1:Cw o=true)(h2:es.all A9=true)(h3:es.length<30)(h4:(apos.endLine==cpos.line)=true) :
  QE X (.Call (.Attribute o m apos) es [] cpos) (Bf m es.length l (w o) (Du (es.map w))):=by
 intro Ex mt ξ s σ H Q I q
 refine ao1 h1 h2 h3 h4 (thn (h o Ex mt ξ s σ H _ I q) λu s1 ⟨x,H1,I1,rx,a,dx,fs,mi,ex,hm,ea,hf,hn,q⟩ pl=>?_)
 subst ex
 obtain rfl:u=bC a:=rx
 obtain⟨c,k,F⟩:=hl mi hm
 exact Ux I1 ea c k hf (Xx k.kp h h2 mt I1 q λus vs H2 s2 I2 r2 q2=>Yw (vs:=.ref a::vs) F (by omega) mt I2 (.cons rfl r2) q2)
noncomputable def Cl:DE:=λ_ H Q _=>∀p,H p=none->Q (.ref p) (upd H p (.dK []))\/Q (.ref p) (upd H p (.dT []))
def a33:QE X (.Dict [] [] pos) Cl:=λEx mt ξ s σ H Q I h=>by
 have fr:=I.hok.fresh (af s.heap.objs.size)
 rcases h _ fr with q|q
 .exact wpAny_Dict_empty ⟨.ref _,_,I.laid (λ_ _ q=>ai _ q) (af _) (Rx s.heap I.big),rfl,q⟩
 .exact wpAny_Dict_empty ⟨.ref _,_,I.laid (λ_ _ q=>ai _ q) (af _) (aj1 s.heap I.big),rfl,q⟩
noncomputable def bd0(k v:DE):DE:=λσ H Q E=>∀p,H p=none->k σ (upd H p (.dK [])) (λx H1=>v σ H1 (λy H2=>H2 p=some (.dK [])/\∃ κ,x=kV κ/\Q (.ref p) (upd H2 p (.dK [(κ,y)]))) E) E
def a36{k v:Expr}{dk dv:DE}(hk:QE X k dk)(hv:QE X v dv):QE X (.Dict [some k] [v] pos) (bd0 dk dv):=by
 intro Ex mt ξ s σ H Q I q
 have I1:=I.laid (a:=s.heap.objs.size) (o:=.dK []) (h':=s.heap.push {cls:=.type "dict", data:=.dict #[]}) (t':=s.toks) (λ_ _ q=>ai _ q) (af _) (Rx s.heap I.big)
 refine wpAny_Dict_walk (knd:=Bd X.prog X.w) rfl rfl (by simp) (by simp) (pairTrees_cons_walk (thn (hk Ex mt ξ _ σ _ _ I1 (q _ (I.hok.fresh (af _)))) λu s1 ⟨x,H1,I1,rx,q1⟩=>thn (hv Ex mt ξ s1 σ H1 _ I1 q1) λw2 s2 ⟨y,H2,I2,ry,e,κ,ex,q2⟩=>pairTrees_nil_walk ?_))
 subst ex
 obtain⟨z,hd,vs0,r0,dd⟩:=aj0 I2.hok e
 cases r0
 refine⟨[(κ,w2)],⟨Hj rx,rfl,aZ⟩,dd,λh' dd' hs=>⟨.ref s.heap.objs.size,_,?_,rfl,q2⟩⟩
 have he:∃q,h'.get? s.heap.objs.size=some q:=let⟨q,_,_,hq,_⟩:=dd';⟨q,hq⟩
 exact G5 I2 (by rw[e];exact aZ) hs he (Pa (show 1<=sizeLine by decide) hd (.cons ⟨rfl,ry⟩ .nil) dd')
def aa9{a:Expr}{da:DE}{p2 pos2:Pos}(hc:X.calm=true)(hg:Gl X "len")(hm:X.mg "len"=none)(hg2:Gl X "set")(hm2:X.mg "set"=none)(ha:QE X a da)(hs:A9 a=true) :
  QE X (.Call (.Name "len" p) [.Call (.Name "set" p2) [a] [] pos2] [] pos) (dUn (Ko X.K) da):=by
 intro Ex mt ξ s σ H Q I h
 refine cz (Cu I hg hm PySem.boot_len (eW (dS ?_) rfl rfl) (by decide) (by decide))
 refine cz (Cu I hg2 hm2 PyProof.Rows.boot_set (bS ?_ (A7 hs [] X.env) rfl) (by decide) (by decide))
 rw[A7 hs]
 exact dS (thn (ha Ex mt ξ s σ H _ I h) λu s1 ⟨x,H1,I1,r1,q1⟩=>d8 (thn (a01 hc I1 r1 q1) λv s2 q=>d8 q))
def Vi{a:Expr}{da:DE}{p2 pos2:Pos}(hc:X.calm=true)(hg:Gl X "list")(hm:X.mg "list"=none)(hg2:Gl X "range")(hm2:X.mg "range"=none)(ha:QE X a da)(hs:A9 a=true) :
  QE X (.Call (.Name "list" p) [.Call (.Name "range" p2) [a] [] pos2] [] pos) (dUn Ls da):=by
 intro Ex mt ξ s σ H Q I h
 refine cz (Cu I hg hm gO (bS (dS ?_) rfl rfl) (by decide) (by decide))
 refine cz (Cu I hg2 hm2 boot_range (bS ?_ (A7 hs [] X.env) rfl) (by decide) (by decide))
 rw[A7 hs]
 refine dS (thn (ha Ex mt ξ s σ H _ I h) λu s1 ⟨x,H1,I1,r1,q1⟩=>d8 ?_)
 cases x with
 |int n=>
  obtain⟨t,rfl⟩:=r1
  exact thn (al3 hc I1 q1.1 q1.2.1 q1.2.2) λv s2 q=>d8 q
 |_=>exact(q1).elim
def Sz{o:Expr}{do':DE}{ap cp:Pos}(hc:X.calm=true)(hg:Gl X "sorted")(hm:X.mg "sorted"=none)(ho:QE X o do')(h1:Cw o=true)(h4:(ap.endLine==cp.line)=true) :
  QE X (.Call (.Name "sorted" p) [.Call (.Attribute o "items" ap) [] [] cp] [] pos) (dUn (Oe X.K) do'):=by
 intro Ex mt ξ s σ H Q I h
 refine cz (Cu I hg hm Ed (eW (dS ?_) rfl rfl) (by decide) (by decide))
 refine jv (C7 h1 "items" X.env _) h4 (thn (ho Ex mt ξ s σ H _ I h) λv s1 ⟨x,H1,I1,r1,q1⟩=>?_)
 cases x with
 |ref a=>
  cases r1
  obtain⟨zs,f,rd,nd,few,q⟩:=q1
  obtain⟨_,lo,vs,rel,dof⟩:=Cm I1.hok rd
  obtain⟨ob,es,ep,e,c,_⟩:=id dof
  refine⟨"dict","dict.items", gJ,jo,PySem.F.type_dict_items,dof.typeIs,λa' e'=>?_,gN rfl (kO ?_)⟩
  .cases e';exact⟨ob,e,c.2.1⟩
  .exact thn (ac0 hc I1 rd nd few q) λv s2 q=>d8 q
 |_=>exact(q1).elim
end
noncomputable def ai5(K:ac)(m:Str)(l:List MI)(a o:DE):DE:=λσ H Q E=>Ac a Ag σ H (λxs H1=>o σ H1 (λy H2=>∃(p b dx:Addr)(fs:List (Str×V))(mi:MI)(zs:List Str)(kf:Str->Int),xs=[.ref p]/\(SqL K H2 p (zs.map V.str) \/ ∃kvs,Rd H2 p (.dK kvs)/\kvs.map (·.1)=zs.map cV)/\zs.Nodup/\zs.length<64/\y=.ref b/\mi∈l/\H2 b=some (.ins mi.C dx fs)/\fs.lookup m=none /\
 (∀z∈zs,∀H3,Same H2 H3->spE mi.i.sp [] [.ref b,.str z] H3 (λv H4=>∃q,v=.ref q/\Same H3 H4/\H4 q=some (.tup [.int (kf z),.str z])) (λ_ _=>False))/\∀H3 D,Same H2 H3->H2 D=none->H3 D=some (.lst ((Bq (ltK kf) zs).map V.str))->Q (.ref D) H3) E) E
section
variable {X:Cx}{a o:Expr}{da do':DE}{p ap kp pos:Pos}{m:Str}
def a37{l:List MI}(hc:X.calm=true)(hl:∀mi∈l,bb9 X m mi)(hg:Gl X "sorted")(hm:X.mg "sorted"=none)(ha:QE X a da)(ho:QE X o do')(hs:A9 a=true)(h1:Cw o=true):QE X (.Call (.Name "sorted" p) [a] [⟨some "key", .Attribute o m ap,kp⟩] pos) (ai5 X.K m l da do'):=by
 intro Ex mt ξ s σ H Q I h
 have hA:=Km ha P3 hs
 refine cz (Cu I hg hm Ed ?_ (by decide) (by decide))
 refine kg ?_ rfl ?_
 .rw[A7 hs [] X.env];rfl
 have e0:df [a] X.env=[(false,eval a X.env)]:=by rw[A7 hs [] X.env];rfl
 have hh:=hA Ex mt pos ξ s σ H _ I h
 rw[e0] at hh ⊢
 refine ag (thn hh λus s1 ⟨vs,H1,I1,r1,q1⟩=>ag (ar (bz ?_)))
 show aY (model X.prog X.w) X.A (do
  let l <- evalAll [do let v <- eval (.Attribute o m ap) X.env;standAt pos;pure v]
  let ps <- (pure us:Sem (List am))
  pure (⟨ps,[("key" : Str)].zip l⟩:Args)) _ _ s1
 refine ag (lA (ag (Xp (C7 h1 _ X.env _) (thn (ho Ex mt ξ s1 σ H1 _ I1 q1) λov s2 ⟨y,H2,I2,ry,q2⟩=>?_))))
 obtain⟨pp,b,dx,fs,mi,zs,kf,rfl,hp,nd,h64,rfl,hm,eb,hf,hk,q⟩:=q2
 cases ry
 obtain⟨u,rfl,ru⟩:=Dn r1
 cases ru
 have K:=hl mi hm
 refine Zt I2 eb K.c K.k K.sg K.tk K.cn hf λs3 g3 l3 I3=>?_
 refine ag (fW (ar (wpAny_evalAll_nil (ag (ar (ar ?_))))))
 have fb:=I2.fpOk (af _) (I2.hok.fresh (af _))
 have I4:Inv X (ξ++[(s2.heap.objs.size,i8 (.ref mi.i.f) (.ref b))]) σ H2 s3:=I3.pins_of λp hp=>by
  rcases List.mem_append.mp hp with hp|hp
  .exact I3.pin p (aE _ hp)
  .rw[List.mem_singleton.mp hp]
   exact⟨g3,fb.1,fb.2.1,fb.2.2.1,λv z=>by cases z⟩
 exact bU (Y1 (v:=V.str) (KR:=bf4 kf) cQ hc I4 (X6 hp) (a04 nd) h64 (λS ⟨q,e,h⟩=>⟨q,e,S _ _ h⟩) (λz hz pl s' H3 u I' S ru=>(bU (a47 K I' (I'.pin (s2.heap.objs.size,_) (by simp)).1 ru (hk z hz H3 S)) (λv s'' ⟨w,H4,J,r,q,e,S2,h⟩=>⟨w,H4,J,r,⟨q,e,h⟩,S2⟩) λ_ _ z=>z)) (λa b c d=>@λ_ e=>bv9 a b c d e) q) (λv s' ⟨y,H',J,r,qq⟩=>⟨y,H',J.unpinned,r,qq⟩) λ_ _ z=>z
end
def QI(X:Cx)(tg e:Expr)(t:DI):Prop:=∀Ex,Meets X Ex->PI X tg e (λσ H R=>t σ H R (Ex σ))
noncomputable def iNo:DI:=λ_ _ _ _=>False
def onD(p:Addr)(H:Hp)(R:Obj->List (Key×V)->Hp->Prop):Prop:=(∃kvs,H p=some (.dK kvs)/\∀o,R o kvs (upd H p (.frz o (.dK kvs)))) \/ ∃o kvs,H p=some (.frz o (.dK kvs))/\R o kvs H
def an8{X:Cx}{ξ:List (Addr×Obj)}{σ:St}{H:Hp}{s:av}{p:Addr}{R:Obj->List (Key×V)->Hp->Prop}(I:Inv X ξ σ H s)(h:onD p H R):∃o kvs H',Inv X ξ σ H' s/\H' p=some (.frz o (.dK kvs))/\R o kvs H':=by
 rcases h with⟨kvs,e,q⟩|⟨o,kvs,e,q⟩
 .obtain⟨o,ep,_,_,I'⟩:=I.froze e
  exact⟨o,kvs,_,I',Aa,q o⟩
 .exact⟨o,kvs,H,I,e,q⟩
noncomputable def Bh(K:ac)(a:DE):DI:=λσ H R E=>a σ H (λx H1=>match x with
 |.str z=>R (Its z) H1
 |.ref p=>((∃xs,SqL K H1 p xs)/\R (Itl K p) H1)\/((∃xs,SqT K H1 p xs)/\R (Itt K p) H1)\/(onD p H1 λo kvs H2=>R (Itd p o kvs) H2) \/ ∃kvs,H1 p=some (.dT kvs)/\∀o,R (ay0 p o kvs) (upd H1 p (.frz o (.dT kvs)))
 |_=>False) E
noncomputable def Hd(t:DA):DI:=λσ H R E=>t σ H (λvs H1=>match vs with
 |[.int j]=>(-(2^62)<=j/\j<2^62)/\R (Itr 0 j.toNat) H1
 |[.int i,.int j]=>(-(2^62)<=i/\i<2^62 /\ -(2^62)<=j/\j<2^62)/\R (Itr i (j-i).toNat) H1
 |_=>False) E
noncomputable def iZp(K:ac)(t:DA):DI:=λσ H R E=>t σ H (λvs H1=>match vs with
 |[.ref a,.ref b]=>(∃xs,SqL K H1 a xs)/\(∃ys,SqL K H1 b ys)/\R (Itz K a b) H1
 |_=>False) E
noncomputable def iEn(K:ac)(t:DA):DI:=λσ H R E=>t σ H (λvs H1=>match vs with
 |[.ref a]=>((∃xs,SqL K H1 a xs)/\R (Ite K a) H1)\/onD a H1 λo kvs H2=>R (ax9 a o kvs) H2
 |_=>False) E
section
variable {X:Cx}{tg e a b:Expr}{da:DE}{r:DA}{p pos:Pos}
def ap8:QI X tg e iNo:=λ_ _ _ _ _ _ _ _ h=>h.elim
def Jb(ha:QE X e da):QI X tg e (Bh X.K da):=by
 intro Ex mt ξ s σ H R I h
 refine thn (ha Ex mt ξ s σ H _ I h) λv s1 ⟨x,H1,I1,r1,q1⟩=>?_
 cases x with
 |str z=>
  obtain⟨t,rfl⟩:=r1
  refine wpAny_pyIter_strU ?_
  refine⟨s1.heap.objs.size,[s1.heap.objs.size],_,_,H1,rfl,I1.kept λb o e=>ai _ e,av1 s1.heap.objs.size z t (strIterType z) (by unfold strIterType;split <;> simp),⟨_,aK _ rfl,rfl,rfl⟩,λb hb=>?_,q1⟩
  have e:b=s1.heap.objs.size:=by simpa using hb
  subst e
  exact I1.fpOk (af _) (I1.hok.fresh (af _))
 |ref a=>
  cases r1
  rcases q1 with⟨⟨xs,hq⟩,q⟩|⟨⟨xs,hq⟩,q⟩|q|⟨kvs,hq,q⟩
  .obtain⟨χ,rv,p,hz⟩:=I1.list hq
   refine jd p.isList ?_
   refine⟨s1.heap.objs.size,[s1.heap.objs.size],_,_,H1,rfl,I1.kept λb o e=>ai _ e,ac7 a _,⟨_,aK _ rfl,rfl,rfl⟩,λb hb=>?_,q⟩
   have e:b=s1.heap.objs.size:=by simpa using hb
   subst e
   exact I1.fpOk (af _) (I1.hok.fresh (af _))
  .obtain⟨χ,rv,p,hz⟩:=I1.tuple hq
   refine wpAny_pyIter_tuple (p) ?_
   refine⟨s1.heap.objs.size,[s1.heap.objs.size],_,_,H1,rfl,I1.kept λb o e=>ai _ e,Wx a _,⟨_,aK _ rfl,rfl,rfl⟩,λb hb=>?_,q⟩
   have e:b=s1.heap.objs.size:=by simpa using hb
   subst e
   exact I1.fpOk (af _) (I1.hok.fresh (af _))
  .obtain⟨o,kvs,H2,I2,e,q⟩:=an8 I1 q
   exact az0 I2 e q
  .exact bu2 I1 hq q
 |_=>exact(q1).elim
variable {es:List Expr}
def ap9(hg:Gl X "range")(hm:X.mg "range"=none)(ha:QA X (a::es) r)(hs:(a::es).all A9=true):QI X tg (.Call (.Name "range" p) (a::es) [] pos) (Hd r):=by
 intro Ex mt ξ s σ H R I h
 have h2:=bV▸hs
 rw[aU] at h2
 refine Call_ (Cu I hg hm boot_range (bS (thn (ha Ex mt pos ξ s σ H _ I h) λus s1 ⟨vs,H1,I1,r1,q1⟩=>?_) (A7 h2.1 es X.env) (Cb h2.2 X.env pos)))
 dsimp only at q1
 split at q1
 .obtain⟨⟨h1,h2⟩,q⟩:=q1
  obtain⟨u,rfl,t,rfl⟩:=Dn r1
  exact call_range_1 (Th I1 (by first|exact af _|exact bn _ _|omega|(dsimp only;omega)) (by omega) (by omega) h1 h2 (by simpa using q))
 .obtain⟨⟨h1,h2,h3,h4⟩,q⟩:=q1
  obtain⟨u,v,rfl,⟨t,rfl⟩,⟨t',rfl⟩⟩:=b74 r1
  exact call_range_2 (Th I1 (by first|exact af _|exact bn _ _|omega|(dsimp only;omega)) h1 h2 h3 h4 q)
 .exact q1.elim
def bq1{elts:List Expr}{kt:Nat}{pt:Pos}(hg:Gl X "zip")(hm:X.mg "zip"=none)(ha:QA X (a::es) r)(hs:(a::es).all A9=true):QI X (.Tuple elts kt pt) (.Call (.Name "zip" p) (a::es) [] pos) (iZp X.K r):=by
 intro Ex mt ξ s σ H R I h
 have hh:=bV▸hs
 rw[aU] at hh
 refine Call_ (Cu I hg hm boot_zip (bS (thn (ha Ex mt pos ξ s σ H _ I h) λus s1 ⟨vs,H1,I1,r1,q1⟩=>?_) (A7 hh.1 es X.env) (Cb hh.2 X.env pos)))
 dsimp only at q1
 split at q1
 .rename_i l1 l2
  obtain⟨⟨xs,q1⟩,⟨ys,q2⟩,q⟩:=q1
  obtain⟨u,v,rfl,ru,rv⟩:=r1.two
  cases ru
  cases rv
  obtain⟨its1,t1,p1,z1⟩:=I1.list q1
  obtain⟨its2,t2,p2,z2⟩:=I1.list q2
  refine call_zip_2 p1.isList p2.isList λh' hz hTI hTO hi1 hi2 hsz hk=>?_
  refine wpAny_pyIter_zip hz ?_
  have a1:l1<s1.heap.objs.size:=by obtain⟨_,e,_⟩:=p1.isList;exact aO e
  have a2:l2<s1.heap.objs.size:=by obtain⟨_,e,_⟩:=p2.isList;exact aO e
  refine⟨_,_,_,_,H1,rfl,I1.kept hk,av2 (PyProof.Rows.zipApart_new a1 a2),⟨hz,hTI,⟨_,_,hTO⟩,hi1,hi2⟩,λb hb=>?_,q⟩
  have le:s1.heap.objs.size<=b:=by
   simp only[aB,cf,or_false] at hb
   rcases hb with e|e|e|e|e <;> (rw[e];first|exact af _|exact bn _ _)
  exact I1.fpOk le (I1.hok.fresh le)
 .exact q1.elim
def a39{elts:List Expr}{kt:Nat}{pt:Pos}(hg:Gl X "enumerate")(hm:X.mg "enumerate"=none)(ha:QA X (a::es) r)(hs:(a::es).all A9=true):QI X (.Tuple elts kt pt) (.Call (.Name "enumerate" p) (a::es) [] pos) (iEn X.K r):=by
 intro Ex mt ξ s σ H R I h
 have hh:=bV▸hs
 rw[aU] at hh
 refine Call_ (Cu I hg hm boot_enumerate (bS (thn (ha Ex mt pos ξ s σ H _ I h) λus s1 ⟨vs,H1,I1,r1,q1⟩=>?_) (A7 hh.1 es X.env) (Cb hh.2 X.env pos)))
 dsimp only at q1
 split at q1
 .rename_i l
  obtain⟨u,rfl,ru⟩:=Dn r1
  cases ru
  rcases q1 with⟨⟨xs,q1⟩,q⟩|q
  case inr=>
   obtain⟨o,kvs,H2,I2,e,q⟩:=an8 I1 q
   exact aj3 I2 e q
  obtain⟨its1,t1,p1,z1⟩:=I1.list q1
  refine call_enumerate_list p1.isList λh' he hit hsz hk=>?_
  refine gZ he ?_
  refine⟨_,_,_,_,H1,rfl,I1.kept hk,ac6 (Nat.succ_ne_self _),⟨⟨_,he⟩,hit⟩,λb hb=>?_,q⟩
  have hb:b=s1.heap.objs.size+1\/b=s1.heap.objs.size:=by simpa using hb
  have le:s1.heap.objs.size<=b:=by
   rcases hb with e|e
   .rw[e];exact bn _ 1
   .rw[e];exact af _
  exact I1.fpOk le (I1.hok.fresh le)
 .exact q1.elim
noncomputable def gNo:DG:=λ_ _ _ _=>False
def gdS:List DG->List V->St->Hp->(St->Hp->Prop)->Prop
 |[],[],σ,H,Q=>Q σ H
 |g::gs,v::vs,σ,H,Q=>g v σ H λσ' H'=>gdS gs vs σ' H' Q
 |_,_,_,_,_=>False
noncomputable def gdT(K:ac)(n:Nat)(gs:List DG):DG:=λv σ H Q=>match v with
 |.ref a=>∃xs,(SqT K H a xs\/SqL K H a xs)/\xs.length=n/\gdS gs xs σ H Q
 |_=>False
def Sy:PG X tg gNo:=λ_ _ _ _ _ _ _ _ _ h=>h.elim
def bz8:PGs X [] (gdS []):=by
 intro ξ s σ H vs us Q I r h
 cases vs with
 |nil=>exact a23 ξ s σ H [] us Q I r ⟨rfl,h⟩
 |cons v vs=>exact(h).elim
def bz7{g:DG}{gs:List DG}{ts:List Expr}(h1:PG X tg g)(h2:PGs X ts (gdS gs))(hs:(dA (tg::ts) X.env).map (·.2)=ma tg X.env::(dA ts X.env).map (·.2)):PGs X (tg::ts) (gdS (g::gs)):=by
 intro ξ s σ H vs us Q I r h
 cases vs with
 |nil=>exact(h).elim
 |cons v vs=>exact ao3 h1 h2 hs ξ s σ H (v::vs) us Q I r ⟨v,vs,rfl,h⟩
def b93{ts:List Expr}{k n:Nat}{gs:List DG}(hc:X.calm=true)(h:PGs X ts (gdS gs))(hn:(dA ts X.env).length=n)(hst:(dA ts X.env).findIdx? (·.1)=none):PG X (.Tuple ts k pos) (gdT X.K n gs):=by
 intro ξ s σ H v u Q I r hw
 cases v with
 |ref a=>
  obtain⟨xs,h1|h1,h2,h3⟩:=hw
  .exact bo0 hc h hn hst ξ s σ H _ u Q I r ⟨a,xs,rfl,h1,h2,h3⟩
  cases r
  obtain⟨χ,rv,pl,_⟩:=I.list h1
  refine ag (fW ?_)
  unfold unpack
  rw[hst,show(dA ts X.env).length=χ.toArray.size by rw[hn,<- h2,rv.length];rfl]
  refine ag (bz (PySem.W.kun_itemsOf (I.ok.hd hc) pl.isList λh' hx=>?_))
  have I1:=I.kept λb o e=>hx b o (aQ (aO e)) e
  exact h ξ _ σ H xs _ Q I1 (rv) h3
 |_=>exact(hw).elim
end
def Oo(K:ac)(a:Addr)(n:Nat):It:=
 ⟨λi H=>i<n/\∃xs,SqL K H a xs/\xs.length=n,λi H x H'=>H'=H/\∀xs,SqL K H a xs->xs[n-1-i]?=some x,λi _=>n<=i⟩
def av0{P:a_}{w:bB}{K:ac}{tg:Expr}(a it:Addr)(n:Nat):Kv P w K tg (Oo K a n) [it] it (λi h=>i<=n/\h.IsRevIter it a ((n:Int)-1-(i:Int))) where
 mem:=by simp
 obj:=λi h st b hb=>by
  have e:b=it:=by simpa using hb
  subst e
  obtain⟨_,o,e,c,d⟩:=st
  exact⟨o,e,λv z=>by rw[d] at z;cases z⟩
 keep:=λi h h' st k=>⟨st.1,by
  obtain⟨_,o,e,c,d⟩:=st
  exact⟨o,k it (by simp) o e,c,d⟩⟩
 item:=by
  intro X hP hw hK hc i ξ s σ H E I hf st hg
  subst hP hw hK
  obtain⟨hi,xs,hq,hl⟩:=hg
  obtain⟨χ,rv,p,hz⟩:=I.list hq
  have hx:xs[n-1-i]?=some (xs[n-1-i]'(by omega)):=ak _
  obtain⟨u,hu,ru⟩:=rv.get hx
  obtain⟨f0,f1,f2,f3,f4,f5⟩:=hf it (by simp)
  have e0:(n:Int)-1-(i:Int)=((n-1-i:Nat):Int):=by omega
  have st2:=st.2
  rw[e0] at st2
  refine wpAny_pyNext_rev_item st2 p.isList (by simpa using hu) λh' st' sb=>?_
  have I1:=I.turned (λb o hb e=>(sb.2 b hb).trans e) f0 f1 f3 f4 f5
  obtain⟨o,e,c,d⟩:=id st'
  refine⟨u,rfl,La e c d (by decide) ⟨_,H,I1,ru,⟨rfl,λys hy=>by rw[I.list_inj hy hq];exact hx⟩,⟨hi,?_⟩,λb hb=>(hf b hb).1⟩⟩
  rw[show(n:Int)-1-((i+1:Nat):Int)=((n-1-i:Nat):Int)-1 by omega]
  exact st'
 done:=by
  intro X hP hw hK hc i ξ s σ H E I hf st hg
  subst hP hw hK
  obtain⟨f0,f1,f2,f3,f4,f5⟩:=hf it (by simp)
  have hg:n<=i:=hg
  have st2:=st.2
  rw[show(n:Int)-1-(i:Int) = -1 by have:=st.1;omega] at st2
  exact wpAny_pyNext_rev_end (I.ok.hd hc) st2 λh' eb=>⟨rfl,I.turned (t':=s.toks) (λb o hb e=>eb b o hb e) f0 f1 f3 f4 f5⟩
 self:=λ_ _ _ _ _ st h=>km st.2 h
noncomputable def Uz(K:ac)(a:DE):DI:=λσ H R E=>a σ H (λx H1=>match x with
 |.ref p=>∃xs,SqL K H1 p xs/\R (Oo K p xs.length) H1
 |_=>False) E
def ah1:cO "reversed"=some (.type "reversed"):=by decide +kernel
def bq0{X:Cx}{tg a:Expr}{da:DE}{p pos:Pos}(hg:Gl X "reversed")(hm:X.mg "reversed"=none)(ha:QE X a da)(hs:A9 a=true):QI X tg (.Call (.Name "reversed" p) [a] [] pos) (Uz X.K da):=by
 intro Ex mt ξ s σ H R I h
 have hA:=Km ha P3 hs
 refine Call_ (Cu I hg hm ah1 (bS (thn (hA Ex mt pos ξ s σ H (λvs H1=>∃x,vs=[x]/\(match x with | .ref p=>∃xs,SqL X.K H1 p xs/\R (Oo X.K p xs.length) H1|_=>False)) I ?_) λus s1 ⟨vs,H1,I1,r1,q1⟩=>?_) (A7 hs [] X.env) rfl))
 .have h2:da σ H (λx H1=>∃y,[x]=[y]/\(match y with | .ref p=>∃xs,SqL X.K H1 p xs/\R (Oo X.K p xs.length) H1|_=>False)) (Ex σ):=by
   have e:(λ(x:V) H1=>∃y,[x]=[y]/\(match y with | .ref p=>∃xs,SqL X.K H1 p xs/\R (Oo X.K p xs.length) H1|_=>False))=λx H1=>(match x with | .ref p=>∃xs,SqL X.K H1 p xs/\R (Oo X.K p xs.length) H1|_=>False):=by
    funext x H1
    apply propext
    constructor
    .rintro⟨y,e,h⟩
     cases e
     exact h
    .exact λh=>⟨x,rfl,h⟩
   rw[e]
   exact h
  exact h2
 .obtain⟨x,rfl,q⟩:=q1
  obtain⟨u,rfl,ru⟩:=Dn r1
  cases x with
  |ref l=>
   cases ru
   obtain⟨xs,hq,q⟩:=q
   obtain⟨χ,rv,pl,hz⟩:=I1.list hq
   refine call_reversed_list pl.isList ?_
   have e:((χ.toArray.size:Nat):Int)-1=(xs.length:Int)-1-((0:Nat):Int):=by rw[ay,rv.length];omega
   rw[e]
   have st:(s1.heap.push (revObj l ((xs.length:Int)-1-((0:Nat):Int)))).IsRevIter s1.heap.objs.size l ((xs.length:Int)-1-((0:Nat):Int)):=⟨_,aK _ rfl,rfl,rfl⟩
   refine km st ?_
   refine⟨s1.heap.objs.size,[s1.heap.objs.size],_,_,H1,rfl,I1.kept λb o e=>ai _ e,av0 l s1.heap.objs.size xs.length,⟨bw _,st⟩,λb hb=>?_,q⟩
   have e:b=s1.heap.objs.size:=by simpa using hb
   subst e
   exact I1.fpOk (af _) (I1.hok.fresh (af _))
  |_=>exact(q).elim
def Dj(cs:List (Str×Addr)):List (Str×cX)->List (Str×Addr)->List (Str×Addr)
 |[],acc=>acc
 |(n,k)::r,acc=>if k==.free then Dj cs r ((n,(cs.lookup n).getD 0)::acc) else Dj cs r acc
def Mq{scope:Scope}{env:Env}(h:∀y∈scope.names,y.2=.free -> ∃c,env.cells.lookup y.1=some c):j5 scope env=pure (Dj env.cells scope.names []):=by
 unfold j5
 generalize scope.names=names at h
 suffices ∀acc,(forIn names acc λx cs=>do
   if(x.2==.free)=true then do
    let c <- cellOf env x.1
    pure (fC ((x.1,c)::cs))
   else pure (fC cs):Sem (List (Str×Addr)))=pure (Dj env.cells names acc) by
  have:=this []
  simp only[bind_pure]
  exact this
 induction names with
 |nil=>intro acc;rfl
 |cons y r ih=>
  intro acc
  obtain⟨n,k⟩:=y
  rw[List.forIn_cons]
  unfold Dj
  by_cases e:(k==fc)=true
  .obtain⟨c,hc⟩:=h (n,k) (by simp) (cK e)
   have ec:cellOf env n=pure c:=by
    unfold cellOf
    rw[hc]
   simp only[e,if_true,ec,pure_bind]
   rw[ih (λy hy=>h y (aA _ hy)),show env.cells.lookup n=some c from hc]
   rfl
  .have e':(k==fc)=false:=by simpa using e
   simp only[e',dR,if_false,pure_bind]
   rw[ih (λy hy=>h y (aA _ hy))]
theorem Ih{cs:List (Str×Addr)}:∀{names} {acc} {p},p∈Dj cs names acc->p∈acc\/((p.1,fc)∈names/\p.2=(cs.lookup p.1).getD 0)
 |[],_,_,h=>.inl h
 | (n,k)::r,acc,p,h=>by
  unfold Dj at h
  by_cases e:(k==fc)=true
  .rw[if_pos e] at h
   rcases Ih h with h|⟨h1,h2⟩
   .rcases List.mem_cons.mp h with h|h
    .subst h
     exact .inr ⟨by rw[cK e];simp,rfl⟩
    .exact .inl h
   .exact .inr ⟨aA _ h1,h2⟩
  .rw[if_neg e] at h
   rcases Ih h with h|⟨h1,h2⟩
   .exact .inl h
   .exact .inr ⟨aA _ h1,h2⟩
theorem Ig{cs:List (Str×Addr)}:∀{names} {acc} {p},p∈acc->p∈Dj cs names acc
 |[],_,_,h=>h
 | (n,k)::r,acc,p,h=>by
  unfold Dj
  split
  .exact Ig (aA _ h)
  .exact Ig h
theorem Np{cs:List (Str×Addr)}:∀{names} {acc} {n},(n,fc)∈names->n∈(Dj cs names acc).map (·.1)
 |[],_,_,h=>by cases h
 | (m,k)::r,acc,n,h=>by
  unfold Dj
  rcases List.mem_cons.mp h with e|h
  .cases e
   rw[if_pos (show(fc==fc)=true from rfl)]
   exact List.mem_map.mpr ⟨_,Ig (aD),rfl⟩
  .split <;> exact Np h
def ab4(sc:List (Str×cX))(names:List (Str×cX)):List (Str×cX):=names.map λ(n,k)=>if(k==.free&&sc.lookup n==some .cell) then(n,.cell) else(n,k)
def R7(names:List (Str×cX)):List Str:=(names.filter λy=>(y.2==.local) && !(y.1==(".0" : Str))).map (·.1)
def Uv(names:List (Str×cX)):List Str:=(names.filter λy=>y.2==.free).map (·.1)
def cfV(o:Option cX):Bool:=o==some .cell||o==some .free
def Dk(G:Sg)(names:List (Str×cX)):Sg:={G with N:=R7 names++Uv names,sc:=ab4 G.sc names,top:=false}
def F4(G:Sg)(names:List (Str×cX)):List (Option Nat):=(R7 names).map (λ_=>none)++(Uv names).map (λx=>Eg G.N x 0)
def Fg(G:Sg)(sc:Scope):Bool:=
 (sc.names.all λy=>!(y.2==.cell))&&(sc.names.all λy=>!(y.2==.local)||(sc.names.lookup y.1==some .local))&&(sc.kind==.function) &&
 decide (R7 sc.names++Uv sc.names).Nodup&&((Uv sc.names).all λx=>(Eg G.N x 0).isSome&&cfV (G.sc.lookup x)&&cfV ((ab4 G.sc sc.names).lookup x)) &&
 ((R7 sc.names).all λx=>(ab4 G.sc sc.names).lookup x==some .local)
section
variable {X:Cx}{G:Sg}{sc:Scope}
def G0{o:Option cX}(h:cfV o=true):o=some .cell\/o=some .free:=by
 unfold cfV at h
 rw[cJ] at h
 exact h.elim (λe=>.inl (cK e)) λe=>.inr (cK e)
def Gj(O:GOk X G):(ju sc X.env).names=ab4 G.sc sc.names:=by
 apply bu
 rintro⟨n,k⟩ _
 have e:X.env.kindOf n=G.sc.lookup n:=O.sc n
 dsimp only
 rw[e,O.kind]
 simp
def Oz(O:GOk X G)(h:Fg G sc=true):Kr X (Dk G sc.names).N (F4 G sc.names) sc (Dj X.env.cells sc.names []):=by
 unfold Fg at h
 simp only[aU,bh,iX,decide_eq_true_eq,cJ] at h
 obtain⟨⟨⟨⟨⟨h1,h2⟩,h3⟩,h4⟩,h5⟩,h6⟩:=h
 have fr:∀y∈sc.names,y.2=.free -> ∃c,X.env.cells.lookup y.1=some c:=λy hy hf=>by
  refine O.cel y.1 ?_
  rw[O.sc]
  exact G0 (h5 y.1 (List.mem_map.mpr ⟨y,List.mem_filter.mpr ⟨hy,by rw[hf];rfl⟩,rfl⟩)).1.2
 have nc:∀y∈sc.names,y.2≠.cell:=λy hy e=>by
  have:=h1 y hy
  rw[e] at this
  cases this
 refine⟨Mq fr,nc,cK h3,λy hy hl=>?_,λx c hx=>?_,λx hx=>?_,?_,λk j x e1 e2=>?_⟩
 .rcases h2 y hy with z|z
  .rw[hl] at z;cases z
  .exact cK z
 .have hm:=ce hx
  rcases Ih hm with z|⟨z1,z2⟩
  .cases z
  .obtain⟨c',hc'⟩:=fr _ z1 rfl
   have z2':c=(X.env.cells.lookup x).getD 0:=z2
   rw[hc'] at z2' ⊢
   rw[z2']
   rfl
 .have hn:(ju sc X.env).names=ab4 G.sc sc.names:=Gj O
  have key:∀kd,(ju sc X.env).names.lookup x=some kd->cfV (some kd)=true -> ∃c,(Dj X.env.cells sc.names []).lookup x=some c:=λkd hkd hc=>by
   rw[hn] at hkd
   have hm:=ce hkd
   obtain⟨⟨n,k⟩,hy,e⟩:=List.mem_map.mp hm
   dsimp only at e
   have hfree:k=.free/\n=x:=by
    have hkc:=nc _ hy
    by_cases e1:(k==fc&&G.sc.lookup n==some .cell)=true
    .rw[if_pos e1] at e
     rw[aU] at e1
     exact⟨cK e1.1,congrArg lP e⟩
    .rw[if_neg e1] at e
     cases e
     rcases G0 hc with z|z
     .exact absurd (aJ z) hkc
     .exact⟨aJ z,rfl⟩
   obtain⟨rfl,rfl⟩:=hfree
   exact al5 (Np hy)
  rcases hx with hx|hx
  .exact key _ hx rfl
  .exact key _ hx rfl
 .unfold F4 Dk
  simp
 .have e1':(R7 sc.names++Uv sc.names)[k]?=some x:=e1
  have e2':((R7 sc.names).map (λ_=>(none:Option Nat))++(Uv sc.names).map (λx=>Eg G.N x 0))[k]?=some (some j):=e2
  by_cases hlt:k<(R7 sc.names).length
  .rw[bE (by simpa using hlt),ao] at e2'
   cases q:(R7 sc.names)[k]? with
   |none=>rw[q] at e2';cases e2'
   |some z=>rw[q] at e2';cases e2'
  .rw[bq (by simpa using hlt)] at e1' 
   rw[bq (by simpa using hlt),ae,ao,e1'] at e2'
   have hs:Eg G.N x 0=some j:=aJ e2'
   have hx:x∈Uv sc.names:=ah e1'
   obtain⟨⟨_,c1⟩,c2⟩:=h5 x hx
   refine⟨by rw[O.N];exact Ft hs,?_,?_⟩
   .rw[O.sc];exact G0 c1
   .rw[Gj O];exact G0 c2
def Xw(O:GOk X G)(h:Fg G sc=true)(fp:List Addr)(C:Addr)(s:av)(H:Hp)(xe:am->av->Prop) :
  GOk (X.comp (Dk G sc.names).N sc (Dj X.env.cells sc.names []) fp C s H xe) (Dk G sc.names):=by
 have S:=Oz O h
 unfold Fg at h
 simp only[aU,bh,iX,decide_eq_true_eq,cJ] at h
 obtain⟨⟨⟨⟨⟨h1,h2⟩,h3⟩,h4⟩,h5⟩,h6⟩:=h
 have hn:(ju sc X.env).names=ab4 G.sc sc.names:=Gj O
 refine⟨O.K,cK h3,(λz=>by cases z),rfl,h4,λx=>?_,λx hx=>?_,λz=>(by cases z),O.calm,O.hd,O.units,λx hx=>S.has x hx,λx g e=>?_,O.bl,λz=>(by cases z),O.fr⟩
 .show (ju sc X.env).names.lookup x=_
  rw[hn]
  rfl
 .show Vis (ju sc X.env) x
  unfold Vis
  rw[hn]
  rcases List.mem_append.mp hx with q|q
  .exact .inl (cK (h6 x q))
  .exact .inr (G0 (h5 x q).2)
 .refine GBOk.to ?_ ?_ ?_ ?_ ?_ ?_ (O.gb x g e)
  .rfl
  .rfl
  .rfl
  .rfl
  .exact λ_ r=>r
  .exact λi F=>⟨F.kp,F.ok,F.room,F.binds,F.vals⟩
end
def bs1{prog:a_}{w:bB}{A:bv}{E:am->av->Prop}{s:av}{t sl:Addr}{ψ:Array am}{k:Nat}{u:Tok}{Q:am->av->Prop}(ht:my s.heap t ψ)(hs:s.heap.IsSliceOf sl .none (.int k u) .none)(hk:k<ψ.size)(hsz:ψ.size<=sizeLine)(h:Q (.ref s.heap.objs.size) {s with heap:=s.heap.push {cls:=.type "tuple", data:=.seq (ψ.toList.take k).toArray}}):aY (model prog w) A (l7 (.ref t) (.ref sl)) Q E s:=by
 have htk:sizeOk (.seq (ψ.toList.take k).toArray):=by
  show(ψ.toList.take k).toArray.size<=sizeLine
  rw[ay,aF]
  omega
 obtain⟨os,hos,hcs,hds⟩:=hs
 unfold l7
 try with_reducible refine bz ?_
 refine ag (je ht.typeIs (by decide) (ag (cF ht.typeIs slot_tuple_getitem (cq slot_tuple_getitem ht.typeIs entry_tuple_getitem ?_ (args_tuple_getitem _ _)))))
 show aY _ _ (iB (.ref t) >>= _) _ _ s
 refine ag (tupleItemsOf_ ht (ag (wpAny_typeOf ⟨os,hos,hcs⟩ ?_)))
 have ap:∀{A:bv}{E:am->av->Prop}{Q:Int×Int×Nat->av->Prop},Q (0,1,k) s->aY (model prog w) A (iA (.ref sl) (pure (ψ.size:Int))) Q E s:=λ{A E Q} h=>by
  unfold iA Builtin.Slice.sliceFields
  refine ag (ag (kX hos hds (x:=.none) rfl (ag (kX hos hds (x:=.int k u) rfl (ag (kX hos hds (x:=.none) rfl (ar ?_)))))))
  refine ag (slicePart_none ?_)
  show aY _ _ (if((1:Int)==0)=true then _ else _) _ _ s
  rw[if_neg (by decide)]
  refine ag (slicePart_none (ag (slicePart_int (ag (ar ?_)))))
  have e:f9 none (some (k:Int)) 1 (ψ.size:Int)=(0,(k:Int)):=by
   unfold f9
   simp only[show ¬ ((1:Int)<0) by omega,show ¬ ((k:Int)<0) by omega,if_false]
   congr 1
   omega
  show aY _ _ (match f9 none (some (k:Int)) 1 (ψ.size:Int) with|(lo,hi)=>pure (lo,(1:Int),dZ lo hi 1)) _ _ s
  rw[e]
  show aY _ _ (pure ((0:Int),(1:Int),dZ 0 (k:Int) 1)) _ _ s
  rw[show dZ 0 (k:Int) 1=k by
   unfold dZ
   simp only[show(1:Int) > 0 by omega,if_true,Int.ediv_one]
   split <;> omega]
  exact ar h
 refine ag (ap ?_)
 show aY _ _ (if((0:Int)==0&&(1:Int)==1&&k==ψ.size)=true then _ else _) _ _ _
 rw[if_neg (by simp;omega)]
 have pk:((aV k).filterMap λ(m:Nat)=>ψ[((0:Int)+(m:Int)*1).toNat]?).toArray=(ψ.toList.take k).toArray:=by
  have e:(λ(m:Nat)=>ψ[((0:Int)+(m:Int)*1).toNat]?)=λm=>ψ[0+m]?:=by
   funext m
   rw[show((0:Int)+(m:Int)*1).toNat=0+m by omega]
  have:=pick_run ψ 0 k
  rw[List.filterMap_map] at this
  rw[e]
  exact congrArg dX this
 rw[pk]
 first
  |exact ag (m:=d7 _) (cG (ar ⟨_,rfl,ar h⟩) htk)
  |exact ag (m:=d7 _) (cG (ag (ar (ar ⟨_,rfl,ar h⟩))) htk)
  |exact ag (ag (m:=d7 _) (cG (ar (ar ⟨_,rfl,ar h⟩)) htk))
  |exact ag (ag (m:=d7 _) (cG (ar ⟨_,rfl,ar h⟩) htk))
def Gd:St->Hp->(Option Int->Hp->Prop)->EK->Prop:=λ_ H Q _=>Q none H
def K3(a:DE):St->Hp->(Option Int->Hp->Prop)->EK->Prop:=λσ H Q E=>a σ H (λx H1=>match x with
 |.int i=>Q (some i) H1
 |_=>False) E
abbrev DO:=St->Hp->(Option Int->Hp->Prop)->EK->Prop
def b98(K:ac):V->Option Int->Option Int->Hp->VK->Prop:=λx lo hi H Q=>match x with
 |.str z=>z.length<=sizeLine/\Q (.str (Txt.slice z lo hi)) H
 |.ref a=>∃xs,∃k:Nat,SqT K H a xs/\lo=none/\hi=some (k:Int)/\k<xs.length/\∀p,H p=none->Q (.ref p) (upd H p (.tup (xs.take k)))
 |_=>False
noncomputable def dSl(K:ac)(a:DE)(l h:DO):DE:=λσ H Q E=>a σ H (λx H1=>l σ H1 (λlo H2=>h σ H2 (λhi H3=>b98 K x lo hi H3 Q) E) E) E
def QO(X:Cx)(e:Option Expr)(t:DO):Prop:=∀Ex,Meets X Ex->PO X e (λσ H Q=>t σ H Q (Ex σ))
section
variable {X:Cx}{G:Sg}{e:Expr}{de:DE}{lo hi:Option Expr}{dl dh:DO}{pos p2:Pos}
def Ym:QO X none Gd:=λ_ _=>a24
def Yn(h:QE X e de):QO X (some e) (K3 de):=by
 intro Ex m ξ s σ H Q I hw
 rw[evalPart_some]
 refine thn (h Ex m ξ s σ H _ I hw) λu s1 ⟨x,H1,I1,r1,q1⟩=>?_
 cases x with
 |int i=>obtain⟨t,rfl⟩:=r1;exact⟨some i,H1,I1,.int i t,q1⟩
 |_=>exact(q1).elim
def Px(e:Expr)(z:Str)(t:Tok)(r:am):letTemporaryGo e (.str z t) r=pure ():=by
 cases e <;> rfl
def ap7(he:QE X e de)(hl:QO X lo dl)(hh:QO X hi dh):QE X (.Subscript e (.Slice lo hi none p2) pos) (dSl X.K de dl dh):=by
 intro Ex m ξ s σ H Q I h
 refine Subscript_ (thn (he Ex m ξ s σ H _ I h) λv s1 ⟨x,H1,I1,r1,q1⟩=>?_)
 refine wpAny_Slice (thn (hl Ex m ξ s1 σ H1 _ I1 q1) λvl s2 ⟨l,H2,I2,pl,q2⟩=>thn (hh Ex m ξ s2 σ H2 _ I2 q2) λvu s3 ⟨u,H3,I3,pu,q3⟩=>?_)
 rw[evalPart_none]
 refine ar ?_
 have I4:Inv X ξ σ H3 {s3 with heap:=s3.heap.push {cls:=.type "slice", data:=.fields #[vl,vu,.none]}}:=I3.kept λb ob q=>ai _ q
 cases x with
 |str z=>
  obtain⟨hz,q⟩:=q3
  obtain⟨t,rfl⟩:=r1
  have hk:KeptH (λh=>Inv X ξ σ H3 {s3 with heap:=h}):=λh ob J=>J.kept λb o eb=>ai _ eb
  have fin:∀h' t' k,Inv X ξ σ H3 {s3 with heap:=h'}->(λa s'=>s3.toks<=s'.toks->EP X ξ σ Q a s') (.str (Txt.slice z l u) t') {s3 with heap:=h',toks:=k}:=λh' t' k J htk=>⟨.str _,H3,J.tok k htk,⟨_,rfl⟩,q⟩
  refine bA (af _) ?_
  cases pl with
  |none=>
   cases pu with
   |none=>exact iU (SBH.sliceItem_nn hk I3 fin hz) (by with_unfolding_all rfl) (Px e z t)
   |int j uj=>exact iU (SBH.sliceItem_ns hk I3 fin hz) (by with_unfolding_all rfl) (Px e z t)
  |int i ui=>
   cases pu with
   |none=>exact iU (SBH.sliceItem_sn hk I3 fin hz) (by with_unfolding_all rfl) (Px e z t)
   |int j uj=>exact iU (SBH.sliceItem_ss hk I3 fin hz) (by with_unfolding_all rfl) (Px e z t)
 |ref a=>
  cases r1
  obtain⟨xs,k,hx,rfl,rfl,hk,q⟩:=q3
  obtain⟨χ,r,ht,hz⟩:=I4.tuple hx
  cases pl
  cases pu
  have hl:=r.length
  refine tail_any (ops:=[.ref s3.heap.objs.size,.ref a]) ht.typeIs PyProof.Rows.slot_tuple_getitem.lookup (bs1 ht (Heap.IsSliceOf.new ..) (by rw[ay];omega) (by rw[ay];omega) ?_) (by with_unfolding_all rfl)
  exact⟨.ref _,_,I4.laid (o:=.tup (xs.take k)) (λb ob q=>ai _ q) (af _) ⟨by rw[aF];omega,_,r.take k,IsTup.new _ _⟩,rfl,q _ (I4.hok.fresh (af _))⟩
 |_=>exact(q3).elim
def Ll:Expr->Bool
 |.Set _ _ _=>false
 |_=>true
def Lm{e:Expr}(h:Ll e=true)(env:Env)(x:am):fT e env x=pure x:=by
 cases e with
 |Set _ _ _=>cases h
 |_=>rfl
def Li:Meets X (λ_ _ _=>False):=λ_ _ _ h=>h
variable {tg iter elt:Expr}{ifs:List Expr}{sc:Scope}{wi:DI}{g:DG}{tc:DT}
def Vc(G:Sg)(x:Str):Bool:=(G.sc.lookup x==some .local)||(G.top&&(G.sc.lookup x==some .cell))
noncomputable def wG:Nat->Sg->Expr->DG
 |0,_,_=>gNo
 | n+1,G,e=>match e with
  | .Name x _=>match Eg G.N x 0 with
   |some i=>if Vc G x=true then gdN i else gNo
   |none=>gNo
  |.Tuple ts _ _=>if G.calm=true/\ts.all A9=true then gdT G.K ts.length (ts.map (wG n G)) else gNo
  |_=>gNo
def P0(O:GOk X G){x:Str}(h:Vc G x=true):Loc X.env.scope x/\(X.fn x=true\/X.env.scope.names.lookup x=some .local):=by
 unfold Vc at h
 rw[cJ,aU] at h
 rcases h with h|⟨h1,h2⟩
 .have:X.env.scope.names.lookup x=some .local:=by rw[O.sc];exact cK h
  exact⟨.inl this,.inr this⟩
 .have:X.env.scope.names.lookup x=some .cell:=by rw[O.sc];exact cK h2
  exact⟨.inr this,.inl (O.top h1 x)⟩
def E9{e:Expr}(h:A9 e=true)(es:List Expr)(env:Env):dA (e::es) env=(false,ma e env)::dA es env:=by
 cases e with
 |Starred _ _=>cases h
 |_=>rfl
def Kx{es:List Expr}(h:es.all A9=true)(env:Env):(dA es env).length=es.length/\(dA es env).findIdx? (·.1)=none:=by
 induction es with
 |nil=>exact⟨rfl,rfl⟩
 |cons e es ih=>
  rw[bV,aU] at h
  obtain⟨h1,h2⟩:=ih h.2
  rw[E9 h.1]
  refine⟨by rw[aP,aP,h1],?_⟩
  rw[List.findIdx?_cons,h2]
  rfl
theorem Ua:∀n X G,GOk X G -> ∀e,PG X e (wG n G e)
 |0,_,_,_,_=>Sy
 | n+1,X,G,O,e=>by
  cases e with
  |Name x p=>
   unfold wG
   dsimp only
   split
   .rename_i i e
    split
    .rename_i h
     obtain⟨h1,h2⟩:=P0 O h
     exact a22 (by rw[O.N];exact O.nd) (by rw[O.N];exact Ft e) h1 h2
    .exact Sy
   .exact Sy
  |Tuple ts k p=>
   unfold wG
   dsimp only
   split
   .rename_i h
    obtain⟨h1,h2⟩:=h
    obtain⟨h3,h4⟩:=Kx h2 X.env
    rw[<- O.K]
    refine b93 (O.calm▸h1) ?_ h3 h4
    clear h3 h4
    induction ts with
    |nil=>exact bz8
    |cons t ts ih=>
     rw[bV,aU] at h2
     refine bz7 (Ua n X G O t) (ih h2.2) ?_
     rw[E9 h2.1]
     rfl
   .exact Sy
  |_=>exact Sy
end
section
variable {X:Cx}{G:Sg}{elt tg iter:Expr}{ifs:List Expr}{sc:Scope}{wi:DI}{g:DG}{tc:DT}{de:DE}{pos:Pos}
def ay1(X:Cx)(ifs:List Expr)(t:DT):Prop:=∀Ex,Meets X Ex->Zg X ifs (λσ H Q=>t σ H Q (Ex σ))
def Ta:ay1 X [] Bv:=λ_ _=>ao5
def Tc{c:Expr}{t:DT}(h:QT X c t):ay1 X [c] t:=λEx m=>ao6 (h Ex m)
def Yk(O:GOk X G)(hc:X.calm=true)(hk:Fg G sc=true)(hs:Ll iter=true)(hi:QI X tg iter wi)(hg:∀X',GOk X' (Dk G sc.names)->PG X' tg g)(ht:∀X',GOk X' (Dk G sc.names)->ay1 X' ifs tc)(he:∀X',GOk X' (Dk G sc.names)->QE X' elt de) :
  QE X (.ListComp elt [⟨tg,iter,ifs,0⟩] sc pos) (Be (F4 G sc.names) wi g tc de):=by
 intro Ex m ξ s σ H Q I h
 exact ai3 hc (Oz O hk) (hi Ex m) (λQ2 fp C D s2 H2 I2 f2 hC=>
  have M:=λ_ a H=>m σ a H
  have K:=Xw O hk fp C s2 H2 (B4 X sc (Dj X.env.cells sc.names []) none Q2 D C)
  ⟨hg _ K,ht _ K _ M,he _ K _ M⟩) I h (λx=>Lm hs X.env x)
end
noncomputable def Xu(K:ac)(op:BoolOp):List DE->DE
 |[]=>dNo
 |[a]=>a
 | a::r=>match op with
  |.And=>Nt K a (Xu K op r)
  |.Or=>bu0 K a (Xu K op r)
noncomputable def Xt(op:BoolOp):List DT->DT
 |[]=>λ_ _ _ _=>False
 |[a]=>a
 | a::r=>match op with
  |.And=>O7 a (Xt op r)
  |.Or=>dOr a (Xt op r)
noncomputable def tNo:DT:=λ_ _ _ _=>False
noncomputable def Q9(G:Sg)(ops:List lR)(bs:List Expr)(a:DE)(ds:List DE):DE:=match ops,bs,ds with
 |[op],[b],[d]=>if gM op b=false then Ah (Jc G.K op) a d else dNo
 |[op,op'],[b,c],[d,d']=>if lq [op,op'] [b,c]=false then Dv (Jc G.K op) (Jc G.K op') a d d' else dNo
 |_,_,_=>dNo
def exJ(n:Nat)(i:FI):Nat:=min i.dfs.length (n+i.dfs.length-i.ps.length)
def exO(n:Nat):Option FI->Nat
 |none=>0
 |some i=>exJ n i
noncomputable def ba4(G:Sg)(x:Str)(es:List Expr)(ds:List DE):DE:=
 if Pi G x=true/\es.all A9=true then(match G.gb.lookup x with
  |some (.fn i)=>dFn (spE i.sp (i.dfs.drop (exJ es.length i))) (Du ds)
  |some (.cls C oi)=>dFn (mkC C oi (exO (es.length+1) oi)) (Du ds)
  |some _=>dNo
  | none=>if G.bl.contains x=true then(match bc7 G.K G.calm x with
   |some (_,r)=>if es.isEmpty=true then dNo else dFn (λvs H Q _=>r vs H Q) (Du ds)
   |none=>dNo) else dNo) else dNo
noncomputable def ba5(G:Sg)(o:Expr)(m:Str)(es:List Expr)(ap cp:Pos)(d:DE)(ds:List DE):DE:=
 if Cw o=true/\es.all A9=true/\es.length<30/\(ap.endLine==cp.line)=true then(match Ct G.gb m with
  |none=>dMt (rMt G.K (mtR G.K m)) d (Du ds)
  |some l=>Bf m es.length l d (Du ds)) else dNo
noncomputable def Xy(d:DE):DE:=λσ H Q E=>d σ H (λv H'=>Thaw H H' (Q v)) E
def Yl{X:Cx}{e:Expr}{d:DE}(h:QE X e d):QE X e (Xy d):=λEx mt ξ s σ H Q I q=>
 thn (h Ex mt ξ s σ H _ I q) λv s1 ⟨x,H1,I1,r1,q1⟩=>
  let⟨H2,I2,q2⟩:=Thaw.inv I I1 q1
  ⟨x,H2,I2,r1,q2⟩
noncomputable def thw(e:Expr)(d:DE):DE:=match e with
 |.ListComp _ _ _ _=>Xy d
 |_=>d
def Vj{X:Cx}{e e':Expr}{d:DE}(h:QE X e d):QE X e (thw e' d):=by
 cases e' with
 |ListComp=>exact Yl h
 |_=>exact h
inductive Fz where
 |lenSet (a:Expr)|rngList (a:Expr)|srtItems (o:Expr)
noncomputable def fzD(K:ac)(w:Expr->DE):Fz->DE
 |.lenSet a=>dUn (Ko K) (w a)
 |.rngList a=>dUn Ls (w a)
 |.srtItems o=>dUn (Oe K) (w o)
def U0(G:Sg)(x:Str):Bool:=Pi G x&&(G.gb.lookup x).isNone&&G.bl.contains x
def fz1(G:Sg)(x:Str):Expr->Option Fz
 | .Call f as ks cp=>(match f with
  | .Name y _=>(match as with
   | [a]=>if x="len" /\ y="set" /\ ks.isEmpty=true/\U0 G x=true/\U0 G y=true/\A9 a=true/\G.calm=true then some (.lenSet a)
    else if x="list" /\ y="range" /\ ks.isEmpty=true/\U0 G x=true/\U0 G y=true/\A9 a=true/\G.calm=true then some (.rngList a) else none
   |_=>none)
  |.Attribute o m ap=>if x="sorted" /\ m="items" /\ ks.isEmpty=true/\as.isEmpty=true/\U0 G x=true/\Cw o=true/\(ap.endLine==cp.line)=true/\G.calm=true then some (.srtItems o) else none
  |_=>none)
 |_=>none
def aj6(G:Sg)(x:Str):List Expr->Option Fz
 |[a]=>fz1 G x a
 |_=>none
noncomputable def wUn(K:ac)(op:UnaryOp)(d:DE):DE:=match op with
 |.USub=>dUn Yq d
 |.Not=>ai4 K d
 |.Invert=>dUn Yp d
 |_=>dNo
noncomputable def wNm(G:Sg)(w:Expr->DE)(x:Str)(es:List Expr):DE:=match aj6 G x es with
 |some z=>fzD G.K w z
 |none=>ba4 G x es (es.map λe=>if x="sum" then thw e (w e) else w e)
noncomputable def wKw(G:Sg)(w:Expr->DE)(x:Str)(a:Expr)(k:Str)(v:Expr):DE:=match v with
 | .Attribute o m _=>if x="sorted" /\ k="key" /\ Pi G x=true/\G.bl.contains x=true/\A9 a=true/\Cw o=true/\G.calm=true then(match G9 G.gb m with
   |some l=>ai5 G.K m l (w a) (w o)
   |none=>dNo) else dNo
 |_=>dNo
mutual
noncomputable def wE:Nat->Sg->Expr->DE
 |0,_,_=>dNo
 | n+1,G,e=>match e with
  |.Constant c _ _=>av7 c
  |.Name x _=>av8 G x
  |.BinOp a op b _=>thw b (Ah (rOp G.K op) (wE n G a) (wE n G b))
  |.UnaryOp op a _=>wUn G.K op (wE n G a)
  |.BoolOp op es _=>Xu G.K op (es.map (wE n G))
  |.Compare a ops bs _=>Q9 G ops bs (wE n G a) (bs.map (wE n G))
  |.List es _=>if es.all A9=true then B9 (Du (es.map (wE n G))) else dNo
  |.Tuple es _ _=>if es.all A9=true then C4 (Du (es.map (wE n G))) else dNo
  | .Subscript a b _=>(match b with
   |.Slice lo hi st _=>if st.isNone=true then dSl G.K (wE n G a) (match lo with|none=>Gd|some l=>K3 (wE n G l)) (match hi with|none=>Gd|some h=>K3 (wE n G h)) else dNo
   |b=>Ah (Av G.K) (wE n G a) (wE n G b))
  |.Attribute o f _=>if Cw o=true then dUn (Bm G.K f) (wE n G o) else dNo
  | .Call f es ks cp=>(match f with
   | .Name x _=>(match ks with
    |[]=>wNm G (wE n G) x es
    | [⟨some k,v,_⟩]=>(match es with
     |[a]=>wKw G (wE n G) x a k v
     |_=>dNo)
    |_=>dNo)
   |.Attribute o m ap=>if ks.isEmpty=true then ba5 G o m es ap cp (wE n G o) (es.map (wE n G)) else dNo
   |_=>dNo)
  |.Dict ks vs _=>if ks.isEmpty=true/\vs.isEmpty=true then Cl else(match ks,vs with | [some k],[v]=>bd0 (wE n G k) (wE n G v)|_,_=>dNo)
  | .ListComp elt gs sc _=>(match gs with
   | [⟨tg,iter,ifs,a⟩]=>if a=0/\G.calm=true/\Fg G sc=true/\Ll iter=true then
    Be (F4 G sc.names) (wI n G tg iter) (wG n (Dk G sc.names) tg) (match ifs with | []=>Bv | [c]=>wT n (Dk G sc.names) c|_=>tNo) (wE n (Dk G sc.names) elt) else dNo
   |_=>dNo)
  |_=>dNo
noncomputable def wT:Nat->Sg->Expr->DT
 |0,_,_=>tNo
 | n+1,G,e=>match e with
  | .UnaryOp op a p=>(match op with
   |.Not=>Fd (wT n G a)
   |op=>Dw G.K (wE n G (.UnaryOp op a p)))
  |.BoolOp op es _=>Xt op (es.map (wT n G))
  |.Compare a ops bs _=>Bb (Q9 G ops bs (thw a (wE n G a)) (bs.map λe=>thw e (wE n G e)))
  |.IfExp _ _ _ _=>tNo
  |e=>Dw G.K (wE n G e)
noncomputable def wI:Nat->Sg->Expr->Expr->DI
 |0,_,_,_=>iNo
 | n+1,G,tg,e=>match e with
  | .Call f es ks p=>(match f with
   | .Name x q=>(match es with
    | a::es=>if ks.isEmpty=true/\Pi G x=true/\G.bl.contains x=true/\(a::es).all A9=true then
      (if x="range" then Hd (Du ((a::es).map (wE n G)))
      else if x="enumerate" then(match tg with
       |.Tuple _ _ _=>iEn G.K (Du ((a::es).map (wE n G)))
       |_=>iNo)
      else if x="zip" then(match tg with
       |.Tuple _ _ _=>iZp G.K (Du ((a::es).map (wE n G)))
       |_=>iNo)
      else if x="reversed" /\ es.isEmpty=true then Uz G.K (wE n G a)
      else Bh G.K (wE n G (.Call (.Name x q) (a::es) ks p)))
     else Bh G.K (wE n G (.Call (.Name x q) (a::es) ks p))
    |[]=>Bh G.K (wE n G (.Call (.Name x q) [] ks p)))
   |f=>Bh G.K (wE n G (.Call f es ks p)))
  |.ListComp a b c d=>Bh G.K (Xy (wE n G (.ListComp a b c d)))
  |e=>Bh G.K (wE n G e)
end
def a93{X:Cx}{e:Expr}:QT X e tNo:=λ_ _ _ _ _ _ _ _ h=>h.elim
theorem P4{X:Cx}{w:Expr->DE}{op:BoolOp}{pos:Pos}(h:∀e,QE X e (w e)):∀{es:List Expr},QE X (.BoolOp op es pos) (Xu X.K op (es.map w))
 |[]=>Bu
 |[e]=>bp6 (h e)
 | e::e'::es=>by
  cases op with
  |And=>exact bo7 (h e) (P4 h)
  |Or=>exact b05 (h e) (P4 h)
theorem P5{X:Cx}{w:Expr->DT}{op:BoolOp}{pos:Pos}(h:∀e,QT X e (w e)):∀{es:List Expr},QW X (.BoolOp op es pos) (Xt op (es.map w))
 |[]=>λ_ _ _ _ _ _ _ _ _ h=>h.elim
 | [e]=>by
  cases op with
  |And=>exact a45 (h e)
  |Or=>exact bq9 (h e)
 | e::e'::es=>by
  cases op with
  |And=>exact bq8 (h e) (P5 h)
  |Or=>exact b07 (h e) (P5 h)
section
variable {X:Cx}{G:Sg}
def Fp{c:Prop} [Decidable c]{e:Expr}{d:DE}(h:c->QE X e d):QE X e (if c then d else dNo):=by
 by_cases z:c
 .rw[if_pos z];exact h z
 .rw[if_neg z];exact Bu
def Xv{P:List lR->List Expr->DE->Prop}{w:Expr->DE}(a:Expr)(h1:∀op b,gM op b=false->P [op] [b] (Ah (Jc G.K op) (w a) (w b)))(h2:∀op op' b c,lq [op,op'] [b,c]=false->P [op,op'] [b,c] (Dv (Jc G.K op) (Jc G.K op') (w a) (w b) (w c)))(h0:∀ops bs,P ops bs dNo)(ops:List lR)(bs:List Expr):P ops bs (Q9 G ops bs (w a) (bs.map w)):=by
 rcases ops with _|⟨op,_|⟨op',_|_⟩⟩ <;> rcases bs with _|⟨b,_|⟨c,_|_⟩⟩ <;> try exact h0 _ _
 .exact dite (gM op b=false) (λz=>by rw[show Q9 G [op] [b] (w a) ([b].map w)=_ from if_pos z];exact h1 op b z) λz=>by rw[show Q9 G [op] [b] (w a) ([b].map w)=_ from if_neg z];exact h0 _ _
 .exact dite (lq [op,op'] [b,c]=false) (λz=>by rw[show Q9 G [op,op'] [b,c] (w a) ([b,c].map w)=_ from if_pos z];exact h2 op op' b c z) λz=>by rw[show Q9 G [op,op'] [b,c] (w a) ([b,c].map w)=_ from if_neg z];exact h0 _ _
def a32(O:GOk X G){w:Expr->DE}(h:∀e,QE X e (w e))(a:Expr)(ops:List lR)(bs:List Expr)(pos:Pos):QE X (.Compare a ops bs pos) (Q9 G ops bs (w a) (bs.map w)):=
 Xv (P:=λops bs d=>QE X (.Compare a ops bs pos) d) a (λop b z=>by rw[<- O.K];exact bp0 O.units op (h a) (h b) z) (λop op' b c z=>by rw[<- O.K];exact ap4 O.units op op' (h a) (h b) (h c) z) (λ_ _=>Bu) ops bs
def a44(O:GOk X G){w:Expr->DE}(h:∀e,QE X e (w e))(a:Expr)(ops:List lR)(bs:List Expr)(pos:Pos):QT X (.Compare a ops bs pos) (Bb (Q9 G ops bs (w a) (bs.map w))):=
 Xv (P:=λops bs d=>QT X (.Compare a ops bs pos) (Bb d)) a (λop b z=>by rw[<- O.K];exact bq6 O.units op (h a) (h b) z) (λop op' b c z=>by rw[<- O.K];exact aq3 O.units op op' (h a) (h b) (h c) z) (λ_ _=>λ_ _ _ _ _ _ _ _ h=>h.elim) ops bs
def ap3(O:GOk X G){w:Expr->DE}(h:∀e,QE X e (w e))(x:Str)(es:List Expr)(p pos:Pos):QE X (.Call (.Name x p) es [] pos) (ba4 G x es (es.map w)):=by
 refine Fp fun⟨hg,hs⟩=>?_
 have dd:=ak8 hg
 cases e:G.gb.lookup x with
 |some b=>
  have A:=O.at_ x _ e
  cases b with
  |fn i=>exact a92 h hs (O.gl hg) dd.1 A.1 A.2.kp λmt I r q=>Yw A.2 (Nat.min_le_left _ _) mt I r q
  |cls C oi=>exact a92 h hs (O.gl hg) dd.1 A.1 A.2.1 λmt I r q=>a50 A.2.2 (λi z=>by subst z;exact Nat.min_le_left _ _) mt I r A.2.1 q
  |_=>exact Bu
 |none=>
  refine Fp λhb=>?_
  cases er:bc7 G.K G.calm x with
  |none=>exact Bu
  |some f=>
   obtain⟨f,r⟩:=f
   cases es with
   |nil=>exact Bu
   |cons e es=>
    rw[<- O.K] at er
    obtain⟨b1,b2⟩:=ay7 O.units er O.calm
    exact bo9 b2 (O.gl hg) (O.bl x hb) b1 (Dq h hs) hs dd.2.2 dd.1
def ap6(O:GOk X G){w:Expr->DE}(h:∀e,QE X e (w e))(o:Expr)(m:Str)(es:List Expr)(ap cp:Pos):QE X (.Call (.Attribute o m ap) es [] cp) (ba5 G o m es ap cp (w o) (es.map w)):=by
 refine Fp fun⟨h1,h2,h3,h4⟩=>?_
 rw[<- O.K]
 cases e:Ct G.gb m with
 |none=>
  cases es with
  |nil=>exact bp3 (λb hb=>am4 O.units hb) (h o) h1 h4
  |cons e es=>exact b03 (λb hb=>am4 O.units hb) (h o) (Dq h h2) h1 h2 h3 h4
 |some l=>exact bp7 (O.met m l e) h h1 h2 h3 h4
end
def Db{X:Cx}{G:Sg}(O:GOk X G){x:Str}(h:U0 G x=true):Gl X x/\X.mg x=none:=by
 unfold U0 at h
 rw[aU,aU] at h
 exact⟨O.gl h.1.1,O.bl _ h.2⟩
def a34{X:Cx}{G:Sg}(O:GOk X G){w:Expr->DE}(h:∀e,QE X e (w e)){x:Str}{es:List Expr}{p pos:Pos}{z:Fz}(e:aj6 G x es=some z) :
  QE X (.Call (.Name x p) es [] pos) (fzD G.K w z):=by
 rw[<- O.K]
 rcases es with _|⟨f,_|_⟩
 .cases e
 .cases f with
  |Call f as ks cp=>
   cases f with
   |Name y q=>
    rcases as with _|⟨a,_|_⟩
    .cases e
    .refine B0 e (fun⟨e1,e2,h0,h1,h2,h3,h4⟩ ez=>?_) λe=>B0 e (fun⟨e1,e2,h0,h1,h2,h3,h4⟩ ez=>?_) λe=>nomatch e <;> (subst e1 e2 ez;rw[List.isEmpty_iff.mp h0])
     .exact aa9 (O.calm▸h4) (Db O h1).1 (Db O h1).2 (Db O h2).1 (Db O h2).2 (h _) h3
     .exact Vi (O.calm▸h4) (Db O h1).1 (Db O h1).2 (Db O h2).1 (Db O h2).2 (h _) h3
    .cases e
   |Attribute o m ap=>
    refine B0 e (fun⟨e1,e2,h0,h5,h1,h2,h3,h4⟩ ez=>?_) λe=>nomatch e
    subst e1 e2 ez
    rw[List.isEmpty_iff.mp h0,List.isEmpty_iff.mp h5]
    exact Sz (O.calm▸h4) (Db O h1).1 (Db O h1).2 (h _) h2 h3
   |_=>cases e
  |_=>cases e
 .cases e
def b04{X:Cx}{G:Sg}(O:GOk X G){w:Expr->DE}(h:∀e,QE X e (w e)){x:Str}{es:List Expr}{p pos:Pos}:QE X (.Call (.Name x p) es [] pos) (wNm G w x es):=by
 unfold wNm
 split
 .exact a34 O h ‹_›
 ·(refine ap3 O ?_ _ _ _ _;exact λe=>by split <;> first|exact Vj (h e)|exact h e)
def b02{X:Cx}{G:Sg}(O:GOk X G){w:Expr->DE}(h:∀e,QE X e (w e)){x k:Str}{a v:Expr}{p q pos:Pos}:QE X (.Call (.Name x p) [a] [⟨some k,v,q⟩] pos) (wKw G w x a k v):=by
 cases v with
 |Attribute o m ap=>
  refine Fp λhh=>?_
  obtain⟨rfl,rfl,h1,h2,h3,h4,h5⟩:=hh
  split
  .rename_i l el
   obtain⟨k,hk⟩:=Fi el
   rw[<- O.K]
   exact a37 (O.calm▸h5) (O.gb _ _ hk) (O.gl h1) (O.bl _ h2) (h _) (h _) h3 h4
  .exact Bu
 |_=>exact Bu
def av9:∀(n:Nat)(X:Cx)(G:Sg),GOk X G->(∀e,QE X e (wE n G e))/\(∀e,QT X e (wT n G e))/\(∀tg e,QI X tg e (wI n G tg e)):=by
 intro n
 induction n with
 |zero=>
  intro X G O
  exact⟨λ_=>Bu,λ_=>a93,λ_ _=>ap8⟩
 |succ n ih=>
  intro X G O
  obtain⟨hE,hT,hI⟩:=ih X G O
  obtain⟨K,N,sc0,gb,bl,top,cm⟩:=G
  obtain rfl:X.K=K:=O.K
  refine⟨λe=>?_,λe=>?_,λtg e=>?_⟩
  .cases e with
   |Constant=>exact ap5 _ _ _
   |Name=>exact a35 O _ _
   |BinOp=>exact Vj (bo8 _ (hE _) (hE _))
   |UnaryOp op=>
    cases op with
    |USub=>exact bp4 (hE _)
    |Not=>exact bp5 (hE _)
    |Invert=>exact bp1 (hE _)
    |_=>exact Bu
   |BoolOp=>exact P4 hE
   |Compare=>exact a32 O hE _ _ _ _
   |List=>exact Fp λh=>bp2 (Dq hE h)
   |Tuple=>exact Fp λh=>bp8 (Dq hE h)
   |Subscript a b=>
    cases b with
    |Slice lo hi st=>
     cases st with
     |none=>exact ap7 (hE _) (by cases lo <;> first|exact Ym|exact Yn (hE _)) (by cases hi <;> first|exact Ym|exact Yn (hE _))
     |some=>exact Bu
    |_=>exact b01 O.units (hE _) (hE _) rfl
   |Attribute=>exact Fp λh=>a31 (hE _) (C7 h _ X.env _)
   |Call f es ks=>
    cases f with
    |Name x=>
     rcases ks with _|⟨⟨_|k,v,_⟩,_|_⟩
     .exact b04 O hE
     .exact Bu
     .exact Bu
     .rcases es with _|⟨a,_|_⟩
      .exact Bu
      .exact b02 O hE
      .exact Bu
     .exact Bu
    |Attribute=>
     cases ks with
     |nil=>exact ap6 O hE _ _ _ _ _
     |cons=>exact Bu
    |_=>exact Bu
   |Dict ks vs=>
    rcases ks with _|⟨_|k,_|_⟩ <;> rcases vs with _|⟨v,_|_⟩ <;> first|exact a33|exact a36 (hE _) (hE _)|exact Bu
   |ListComp elt gs=>
    rcases gs with _|⟨⟨tg,it,ifs,a⟩,_|_⟩
    .exact Bu
    .refine Fp fun⟨h0,h1,h2,h3⟩=>?_
     subst h0
     refine Yk O (O.calm▸h1) h2 h3 (hI _ _) (λX' O'=>Ua n X' _ O' _) (λX' O'=>?_) (λX' O'=>(ih X' _ O').1 _)
     rcases ifs with _|⟨c,_|_⟩
     .exact Ta
     .exact Tc ((ih X' _ O').2.1 _)
     .exact λ_ _ _ _ _ _ _ _ h=>h.elim
    .exact Bu
   |_=>exact Bu
  .cases e with
   |UnaryOp op=>
    cases op with
    |Not=>exact bq7 (hT _)
    |_=>exact aq4 (hE _) rfl
   |BoolOp=>exact λEx m=>PW.pt (P5 hT Ex m)
   |Compare=>exact a44 O (λe=>Vj (hE e)) _ _ _ _
   |IfExp=>exact a93
   |_=>exact aq4 (hE _) rfl
  .cases e with
   |Call f es ks p=>
    cases f with
    |Name x q=>
     cases es with
     |nil=>exact Jb (hE _)
     |cons a es=>
      show QI X tg _ (if _ then _ else _)
      split
      .rename_i hh
       obtain⟨h0,h1,h2,h3⟩:=hh
       rw[List.isEmpty_iff.mp h0]
       split
       .rename_i e;subst e;exact ap9 (O.gl h1) (O.bl _ h2) (Dq hE h3) h3
       split
       .rename_i e
        subst e
        cases tg with
        |Tuple=>exact a39 (O.gl h1) (O.bl _ h2) (Dq hE h3) h3
        |_=>exact ap8
       split
       .rename_i e
        subst e
        cases tg with
        |Tuple=>exact bq1 (O.gl h1) (O.bl _ h2) (Dq hE h3) h3
        |_=>exact ap8
       split
       .rename_i e
        obtain⟨rfl,h4⟩:=e
        rw[List.isEmpty_iff.mp h4]
        rw[bV,aU] at h3
        exact bq0 (O.gl h1) (O.bl _ h2) (hE _) h3.1
       .exact Jb (hE _)
      .exact Jb (hE _)
    |_=>exact Jb (hE _)
   |ListComp=>exact Jb (Yl (hE _))
   |_=>exact Jb (hE _)
def Cx.tr(X:Cx)(pn:List (Addr×Obj))(xe:am->av->Prop):Cx:={X with pn:=pn,xe:=xe}
section
variable {X:Cx}{ξ pins':List (Addr×Obj)}{σ:St}{H:Hp}{s:av}{a C:Addr}{dx:Option Addr}{xe:am->av->Prop}
def bw4{pn:List (Addr×Obj)}(o:X.Ok):(X.tr pn xe).Ok:=⟨o.mod,o.kind,o.glob,o.blt,o.above,o.inj,o.has,o.cab,o.hd,o.frames,o.stk,o.exf,o.bs,o.bsz,o.noex,o.exfs,o.funs,o.frf,o.tk⟩
def a13{pn:List (Addr×Obj)}(o:(X.tr pn xe).Ok):X.Ok:=⟨o.mod,o.kind,o.glob,o.blt,o.above,o.inj,o.has,o.cab,o.hd,o.frames,o.stk,o.exf,o.bs,o.bsz,o.noex,o.exfs,o.funs,o.frf,o.tk⟩
def be8(I:Inv X ξ σ H s):Inv (X.tr X.pn xe) ξ σ H s:=⟨bw4 I.ok,I.os,I.bare,I.base,I.loc,I.cell,I.free,I.freeC,I.pin,I.hok,I.len⟩
def Hg(I:Inv (X.tr X.pn xe) ξ σ H s):Inv X ξ σ H s:=⟨a13 I.ok,I.os,I.bare,I.base,I.loc,I.cell,I.free,I.freeC,I.pin,I.hok,I.len⟩
def a55{D:Rf}{f:Flow}(h:SP (X.tr X.pn xe) ξ D f s):SP X ξ D f s:=by
 cases f with
 |next=>obtain⟨σ',H',I,q⟩:=h;exact⟨σ',H',Hg I,q⟩
 |brk=>obtain⟨σ',H',I,q⟩:=h;exact⟨σ',H',Hg I,q⟩
 |cont=>obtain⟨σ',H',I,q⟩:=h;exact⟨σ',H',Hg I,q⟩
 |ret u=>obtain⟨v,σ',H',I,r,q⟩:=h;exact⟨v,σ',H',Hg I,r,q⟩
noncomputable def ai6(tb:DS):DS:=λD σ H=>tb {D with ex:=λ_ _ _=>False} σ H
def a43{Y:Cx}{body:List Stmt}{h0:ExceptHandler}{hs:List ExceptHandler}{pos:Pos}{tb:DS}(hb:QSs (Y.tr Y.pn λ_ _=>False) body tb):QS Y (.Try body (h0::hs) [] [] pos) (ai6 tb):=by
 intro Ex m ξ s σ H D I hw
 refine wpAny_Try_except ?_
 refine bU (hb _ Li ξ s σ H D (be8 I) hw) (λf s1 q=>?_) λ_ _ z=>z.elim
 have q:=a55 q
 cases f with
 |next=>exact iy q
 |_=>exact q
end
def Iq:Expr->Bool
 |.ListComp _ _ _ _=>false
 |.SetComp _ _ _ _=>false
 |.DictComp _ _ _ _ _=>false
 |_=>true
def Ir{e:Expr}(h:Iq e=true)(t:Option Expr)(l:Nat)(env:Env):jb e t l env=pure false:=by
 cases e with
 |ListComp _ _ _ _=>cases h
 |SetComp _ _ _ _=>cases h
 |DictComp _ _ _ _ _=>cases h
 |_=>rfl
section
variable {X:Cx}{G:Sg}{st:Stmt}{rest:List Stmt}{t u:DS}{e:Expr}{de:DE}{pos p':Pos}
def Cy:QS X st A8:=λ_ _ _ _ _ _ _ _ h=>h.elim
def Yo:QSs X [] Af:=λ_ _=>a28
def Td(h1:QS X st t)(h2:QSs X rest u):QSs X (st::rest) (Ae t u):=λEx m=>ap1 (h1 Ex m) (h2 Ex m)
def a41:QS X (.Pass pos) Af:=λ_ _=>a26
def aq0(h:QE X e de):QS X (.Return (some e) pos) (Ar de):=λEx m=>bo2 (h Ex m)
def a42:QS X (.Return none pos) a75:=λ_ _=>a27
def a40(h:QE X e de)(hn:Iq e=true):QS X (.Expr e pos) (C0 de):=λEx m=>a25 (h Ex m) (Ir hn _ _ _)
def b06{c:Expr}{a b:List Stmt}{tc:DT}(hc:QT X c tc)(ha:QSs X a t)(hb:QSs X b u):QS X (.If c a b pos) (dIf tc t u):=λEx m=>bz9 (hc Ex m) (ha Ex m) (hb Ex m)
def aq1{i:Nat}{x:Str}(O:GOk X G)(hi:Eg G.N x 0=some i)(hx:Vc G x=true)(h:QE X e de)(hn:jb e (some (.Name x p')) pos.line X.env=pure false):QS X (.Assign [.Name x p'] e pos) (Ao i de):=by
 obtain⟨h1,h2⟩:=P0 O hx
 exact λEx m=>bo3 (by rw[O.N];exact O.nd) (by rw[O.N];exact Ft hi) h1 (h Ex m) hn h2
variable {tg iter elt:Expr}{ifs:List Expr}{sc:Scope}{wi:DI}{g:DG}{tc:DT}
def Vk{i:Nat}{x:Str}{cp:Pos}(O:GOk X G)(hi:Eg G.N x 0=some i)(hx:Vc G x=true)(hc:X.calm=true)(hk:Fg G sc=true)(hs:Ll iter=true)(hq:QI X tg iter wi)(hg:∀X',GOk X' (Dk G sc.names)->PG X' tg g)(ht:∀X',GOk X' (Dk G sc.names)->ay1 X' ifs tc)(he:∀X',GOk X' (Dk G sc.names)->QE X' elt de) :
  QS X (.Assign [.Name x p'] (.ListComp elt [⟨tg,iter,ifs,0⟩] sc cp) pos) (Ao i (Be (F4 G sc.names) wi g tc de)):=by
 obtain⟨h1,h2⟩:=P0 O hx
 have sw:jb (.ListComp elt [⟨tg,iter,ifs,0⟩] sc cp) (some (.Name x p')) pos.line X.env=pure (X.env.blockKind==.function&&X.env.kindOf x==some .local&&p'.line==(Expr.ListComp elt [⟨tg,iter,ifs,0⟩] sc cp).pos.line
   && !(sc.names.any λ(n,k)=>n==x&&(k==.local||k==.cell))):=rfl
 cases hb:(X.env.blockKind==.function&&X.env.kindOf x==some .local&&p'.line==(Expr.ListComp elt [⟨tg,iter,ifs,0⟩] sc cp).pos.line
   && !(sc.names.any λ(n,k)=>n==x&&(k==.local||k==.cell))) with
 |false=>
  rw[hb] at sw
  exact aq1 O hi hx (Yk O hc hk hs hq hg ht he) sw
 |true=>
  rw[hb] at sw
  simp only[aU] at hb
  have hl:=cK hb.1.1.2
  intro Ex m ξ s σ H D I h
  exact ai2 hc (by rw[O.N];exact O.nd) (by rw[O.N];exact Ft hi) hl (Oz O hk) (hq Ex m) (λus Q2 fp C D s2 H2 I2 f2 hC=>
   have M:=λ_ a H=>m σ a H
   have K:=Xw O hk fp C s2 H2 (B4 X sc (Dj X.env.cells sc.names []) us Q2 D C)
   ⟨hg _ K,ht _ K _ M,he _ K _ M⟩) I h sw (λx=>Lm hs X.env x)
def bq4{body:List Stmt}(O:GOk X G)(ht:G.top=true)(hc:X.calm=true)(hi:QI X tg iter wi)(hg:PG X tg g)(hb:QSs X body t)(hs:Ll iter=true):QS X (.For tg iter body [] pos) (By wi g t):=by
 intro Ex m ξ s σ H D I h
 refine bU (bo1 (O.own ht) hc (hi Ex m) hg (hb Ex m) (λx=>Lm hs X.env x) ξ s σ H {D with nx:=λσ' H'=>Thaw H H' (D.nx σ')} I h) (λf s' q=>?_) λ_ _ z=>z
 cases f with
 |next=>
  obtain⟨σ',H',I',q⟩:=q
  obtain⟨H2,I2,q2⟩:=Thaw.inv I I' q
  exact⟨σ',H2,I2,q2⟩
 |_=>exact q
def aq2{c:Expr}{body:List Stmt}(O:GOk X G)(ht:G.top=true)(hc:QT X c tc)(hb:QSs X body t):QS X (.While c body [] pos) (Uq tc t):=λEx m=>ap0 (O.own ht) (hc Ex m) (hb Ex m)
def an0:Expr->Bool
 |.Tuple _ _ _=>false
 |_=>true
def an1{e:Expr}{ts:List Expr}{kt:Nat}{pt:Pos}(h:an0 e=true)(env:Env):swappedStores [.Tuple ts kt pt] e env=pure none:=by
 cases e with
 |Tuple _ _ _=>cases h
 |_=>rfl
def bq2{ts:List Expr}{kt:Nat}{pt:Pos}{g:DG}(h:QE X e de)(hg:PG X (.Tuple ts kt pt) g)(hn:Iq e=true)(ht:an0 e=true):QS X (.Assign [.Tuple ts kt pt] e pos) (Cz de g):=
 λEx m=>ao9 (h Ex m) hg (Ir hn (some (.Tuple ts kt pt)) pos.line X.env) (an1 ht _)
noncomputable def B8(K:ac)(o i:DE):DG:=λv σ H Q=>o σ H (λx H1=>i σ H1 (λy H2=>a99 x y v H2 (Q σ)) λ_ _=>False) λ_ _=>False
def bq5{o i:Expr}{do' di:DE}(hu:X.A.units+64<cLine)(ho:QE X o do')(hi:QE X i di)(h:QE X e de)(hsl:Kk i=true):QS X (.Assign [.Subscript o i p'] e pos) (Cz de (B8 X.K do' di)):=by
 intro Ex m
 have hg:PG X (.Subscript o i p') (B8 X.K do' di):=bn9 (ho _ Li) (hi _ Li) (b17 hu) (by
  intro v
  cases i with
  |Slice _ _ _ _=>cases hsl
  |_=>rfl)
 exact ao9 (h Ex m) hg (by show jb e (some (.Subscript o i p')) pos.line X.env=pure false;cases e <;> rfl) (by cases e <;> rfl)
noncomputable def G4(K:ac)(f:Str)(o e:DE):DS:=λD σ H=>e σ H (λy H1=>o σ H1 (λx H2=>aq9 K f x y H2 (D.nx σ)) (D.ex σ)) (D.ex σ)
def bq3{o:Expr}{f:Str}{do':DE}(ho:QE X o do')(h:QE X e de):QS X (.Assign [.Attribute o f p'] e pos) (G4 X.K f do' de):=by
 intro Ex m ξ s σ H D I hw
 exact plainObj_wpAny_Assign_Attribute (thn (h Ex m ξ s σ H _ I hw) λu s1 ⟨y,H1,I1,ry,q⟩=>thn (ho Ex m ξ s1 σ H1 _ I1 q) λov s2 ⟨x,H2,I2,rx,q2⟩=>(b16 I2 rx ry q2 λH' s' I' hN=>⟨σ,H',I',hN⟩)) (by cases e <;> rfl)
end
def b72{X:Cx}{pn:List (Addr×Obj)}{xe:am->av->Prop}{i:FI}(F:Ku X i):Ku (X.tr pn xe) i:=⟨F.kp,F.ok,F.room,F.binds,F.vals⟩
def bs0{X:Cx}{G:Sg}(O:GOk X G){pn:List (Addr×Obj)}{xe:am->av->Prop}(ho:i6 (model X.prog X.w) X.A X.env xe):GOk (X.tr pn xe) G where
 K:=O.K
 kind:=O.kind
 own:=λ_=>ho
 N:=O.N
 nd:=O.nd
 sc:=O.sc
 vis:=O.vis
 top:=O.top
 calm:=O.calm
 hd:=O.hd
 units:=O.units
 cel:=O.cel
 gb:=λx g e=>by
  refine GBOk.to ?_ ?_ ?_ ?_ ?_ ?_ (O.gb x g e)
  .rfl
  .rfl
  .rfl
  .rfl
  .exact λ_ r=>r
  .exact λi F=>b72 F
 bl:=O.bl
 frm:=O.frm
 fr:=O.fr
mutual
noncomputable def wS:Nat->Sg->Stmt->DS
 |0,_,_=>A8
 | n+1,G,st=>match st with
  |.Pass _=>Af
  | .Return v _=>(match v with
   |some e=>Ar (wE n G e)
   |none=>a75)
  |.Expr e _=>if Iq e=true then C0 (wE n G e) else A8
  |.If c a b _=>dIf (wT n G c) (wSs n G a) (wSs n G b)
  | .Assign ts e _=>(match ts with
   | [t]=>(match t with
    | .Name x _=>(match Eg G.N x 0 with
     | some i=>(match e with
      | .ListComp elt gs sc _=>(match gs with
       | [⟨tg,iter,ifs,a⟩]=>if a=0/\Vc G x=true/\G.calm=true/\Fg G sc=true/\Ll iter=true then
        Ao i (Be (F4 G sc.names) (wI n G tg iter) (wG n (Dk G sc.names) tg) (match ifs with | []=>Bv | [c]=>wT n (Dk G sc.names) c|_=>tNo) (wE n (Dk G sc.names) elt)) else A8
       |_=>A8)
      |e=>if Vc G x=true/\Iq e=true then Ao i (wE n G e) else A8)
     |none=>A8)
    |.Tuple ts kt pt=>if Iq e=true/\an0 e=true then Cz (wE n G e) (wG n G (.Tuple ts kt pt)) else A8
    |.Attribute o f _=>G4 G.K f (wE n G o) (wE n G e)
    |.Subscript o i _=>if Kk i=true then Cz (wE n G e) (B8 G.K (wE n G o) (wE n G i)) else A8
    |_=>A8)
   |_=>A8)
  |.For tg iter body el _=>if el.isEmpty=true/\G.calm=true/\Ll iter=true/\G.top=true then By (wI n G tg iter) (wG n G tg) (wSs n G body) else A8
  |.While c body el _=>if el.isEmpty=true/\G.top=true then Uq (wT n G c) (wSs n G body) else A8
  |.Try body hs el fi _=>if hs.isEmpty=false/\el.isEmpty=true/\fi.isEmpty=true then ai6 (wSs n G body) else A8
  |_=>A8
noncomputable def wSs:Nat->Sg->List Stmt->DS
 |0,_,_=>A8
 |_+1,_,[]=>Af
 |n+1,G,s::r=>Ae (wS n G s) (wSs n G r)
end
def Fq{X:Cx}{c:Prop} [Decidable c]{st:Stmt}{d:DS}(h:c->QS X st d):QS X st (if c then d else A8):=by
 by_cases z:c
 .rw[if_pos z];exact h z
 .rw[if_neg z];exact Cy
def b75:∀n X G,GOk X G->(∀s,QS X s (wS n G s))/\(∀ss,QSs X ss (wSs n G ss)):=by
 intro n
 induction n with
 |zero=>exact λ_ _ _=>⟨λ_=>Cy,λ_ _ _ _ _ _ _ _ _ h=>h.elim⟩
 |succ n ih=>
  intro X G O
  obtain⟨hS,hSs⟩:=ih X G O
  obtain⟨hE,hT,hI⟩:=av9 n X G O
  refine⟨λs=>?_,λs=>?_⟩
  .obtain⟨K,N,sc0,gb,bl,top,cm⟩:=G
   obtain rfl:X.K=K:=O.K
   cases s with
   |Pass=>exact a41
   |Return v=>
    cases v with
    |some=>exact aq0 (hE _)
    |none=>exact a42
   |Expr=>exact Fq λh=>a40 (hE _) h
   |If=>exact b06 (hT _) (hSs _) (hSs _)
   |Assign ts e p=>
    rcases ts with _|⟨t,_|_⟩
    .exact Cy
    .cases t with
     |Name x q=>
      show QS X _ (match Eg N x 0 with|some i=>_|none=>A8)
      split
      .rename_i i ei
       cases e with
       |ListComp elt gs sc=>
        rcases gs with _|⟨⟨tg,it,ifs,a⟩,_|_⟩
        .exact Cy
        .refine Fq fun⟨h0,h1,h2,h3,h4⟩=>?_
         subst h0
         refine Vk O ei h1 (O.calm▸h2) h3 h4 (hI _ _) (λX' O'=>Ua n X' _ O' _) (λX' O'=>?_) (λX' O'=>(av9 n X' _ O').1 _)
         rcases ifs with _|⟨c,_|_⟩
         .exact Ta
         .exact Tc ((av9 n X' _ O').2.1 _)
         .exact λ_ _ _ _ _ _ _ _ h=>h.elim
        .exact Cy
       |_=>exact Fq λh=>aq1 O ei h.1 (hE _) (Ir h.2 _ _ _)
      .exact Cy
     |Tuple=>exact Fq λh=>bq2 (hE _) (Ua n X _ O _) h.1 h.2
     |Attribute=>exact bq3 (hE _) (hE _)
     |Subscript=>exact Fq λh=>bq5 O.units (hE _) (hE _) (hE _) h
     |_=>exact Cy
    .exact Cy
   |For=>exact Fq λh=>by rw[List.isEmpty_iff.mp h.1];exact bq4 O h.2.2.2 (O.calm▸h.2.1) (hI _ _) (Ua n X _ O _) (hSs _) h.2.2.1
   |While=>exact Fq λh=>by rw[List.isEmpty_iff.mp h.1];exact aq2 O h.2 (hT _) (hSs _)
   |Try b hs=>
    refine Fq λh=>?_
    rw[List.isEmpty_iff.mp h.2.1,List.isEmpty_iff.mp h.2.2]
    cases hs with
    |nil=>cases h.1
    |cons=>exact a43 ((ih _ _ (bs0 O jQ)).2 _)
   |_=>exact Cy
  .cases s with
   |nil=>exact Yo
   |cons a r=>exact Td (hS a) (hSs r)
section
variable {P:a_}{w:bB}{K:ac}{mg:Str->Option am}{base:Heap}
structure FnIn (P:a_) (w:bB) (K:ac) (mg:Str->Option am) (base:Heap) (k:Nat) (x:Str) (i:FI):Prop where
 at_:mg x=some (.ref i.f)
 kp:bF K (.ref i.f)=true
 ok:FnOk P w K mg base CX0 i.k i.f i.fd i.ps i.sp
 le:i.k<=k
 binds:∀j,j<=i.dfs.length->Binds K i.fd i.ps (i.ds.drop j)
 vals:Vals i.dfs i.ds
structure FiIn (P:a_) (w:bB) (K:ac) (mg:Str->Option am) (base:Heap) (k:Nat) (i:FI):Prop where
 kp:bF K (.ref i.f)=true
 ok:FnOk P w K mg base CX0 i.k i.f i.fd i.ps i.sp
 le:i.k<=k
 binds:∀j,j<=i.dfs.length->Binds K i.fd i.ps (i.ds.drop j)
 vals:Vals i.dfs i.ds
def FiIn.mono{k k':Nat}{i:FI}(F:FiIn P w K mg base k i)(h:k<=k'):FiIn P w K mg base k' i:=⟨F.kp,F.ok,aT F.le h,F.binds,F.vals⟩
def b80(P:a_)(w:bB)(K:ac)(mg:Str->Option am)(base:Heap)(k:Nat)(C:Addr):Option FI->Prop
 |none=>dJ K C=true/\bR K (.ref C) "__init__"=some (some (.builtin "object.__init__"))
 |some i=>dJ K C=true/\bR K (.ref C) "__init__"=some (some (.ref i.f))/\dF K (.ref i.f)=true/\FiIn P w K mg base k i/\i.k+1<=k
structure ClsIn (P:a_) (w:bB) (K:ac) (mg:Str->Option am) (base:Heap) (k:Nat) (x:Str) (C:Addr) (oi:Option FI):Prop where
 at_:mg x=some (.ref C)
 kp:bF K (.ref C)=true
 made:b80 P w K mg base k C oi
theorem ClsIn.mono{k k':Nat}{x:Str}{C:Addr}{oi:Option FI}(F:ClsIn P w K mg base k x C oi)(h:k<=k'):ClsIn P w K mg base k' x C oi:=by
 refine⟨F.at_,F.kp,?_⟩
 cases oi with
 |none=>exact F.made
 |some i=>obtain⟨a,b,c,d,e⟩:=F.made;exact⟨a,b,c,d.mono h,aT e h⟩
structure MetIn (P:a_) (w:bB) (K:ac) (mg:Str->Option am) (base:Heap) (k:Nat) (m:Str) (mi:MI):Prop where
 cls:Cls K mi.C
 at_:Mn K mi.C m mi.i.f
 fi:FiIn P w K mg base k mi.i
theorem MetIn.mono{k k':Nat}{m:Str}{mi:MI}(F:MetIn P w K mg base k m mi)(h:k<=k'):MetIn P w K mg base k' m mi:=⟨F.cls,F.at_,F.fi.mono h⟩
structure b76 (P:a_) (w:bB) (K:ac) (mg:Str->Option am) (base:Heap) (k:Nat) (m:Str) (mi:MI):Prop where
 met:MetIn P w K mg base k m mi
 sg:eI K (.ref mi.i.f) "__get__"=some (some (.builtin "function.__get__"))
 tk:fJ K (.ref mi.i.f)=some false
 cn:PySem.W.copiedNames.contains m=false
 le:mi.i.k+2<=k
def GBIn(P:a_)(w:bB)(K:ac)(mg:Str->Option am)(base:Heap)(k:Nat)(x:Str):GB->Prop
 |.fn i=>FnIn P w K mg base k x i
 |.val v u=>mg x=some u/\RelV v u
 |.cls C oi=>ClsIn P w K mg base k x C oi
 |.met m l=>∀mi∈l,MetIn P w K mg base k m mi
 |.key m l=>∀mi∈l,b76 P w K mg base k m mi
structure Tab (P:a_) (w:bB) (K:ac) (mg:Str->Option am) (base:Heap) (k:Nat) (gb:List (Str×GB)) (bl:List Str):Prop where
 all:∀x g,(x,g)∈gb->GBIn P w K mg base k x g
 bl:∀x∈bl,mg x=none
def FnIn.mono{k k':Nat}{x:Str}{i:FI}(F:FnIn P w K mg base k x i)(h:k<=k'):FnIn P w K mg base k' x i:=⟨F.at_,F.kp,F.ok,aT F.le h,F.binds,F.vals⟩
theorem GBIn.mono{k k':Nat}{x:Str}{g:GB}(F:GBIn P w K mg base k x g)(h:k<=k'):GBIn P w K mg base k' x g:=by
 cases g with
 |fn i=>exact FnIn.mono F h
 |val v u=>exact F
 |cls C oi=>exact ClsIn.mono F h
 |met m l=>exact λmi hm=>(F mi hm).mono h
 |key m l=>exact λmi hm=>let q:=F mi hm;⟨q.met.mono h,q.sg,q.tk,q.cn,aT q.le h⟩
def GBIn.there{X:Cx}{k:Nat}{x:Str}{g:GB}(F:GBIn X.prog X.w X.K X.mg X.base k x g)(hr:Room k X.A):GBOk X x g:=by
 cases g with
 |fn i=>exact⟨F.at_,F.kp,F.ok,hr.mono F.le,F.binds,F.vals⟩
 |val v u=>exact F
 |cls C oi=>
  refine⟨F.at_,F.kp,?_⟩
  cases oi with
  |none=>exact F.made
  |some i=>obtain⟨a,b,c,d,e⟩:=F.made;exact⟨a,b,c,⟨d.kp,d.ok,hr.mono d.le,d.binds,d.vals⟩,hr.mono e⟩
 |met m l=>exact λmi hm=>⟨(F mi hm).cls,(F mi hm).at_,⟨(F mi hm).fi.kp,(F mi hm).fi.ok,hr.mono (F mi hm).fi.le,(F mi hm).fi.binds,(F mi hm).fi.vals⟩⟩
 |key m l=>exact λmi hm=>let q:=F mi hm;⟨q.met.cls,q.met.at_,q.sg,q.tk,q.cn,⟨q.met.fi.kp,q.met.fi.ok,hr.mono q.met.fi.le,q.met.fi.binds,q.met.fi.vals⟩,hr.mono q.le⟩
def Rs(K:ac)(N:List Str)(sc:Scope)(gb:List (Str×GB))(bl:List Str):Sg:=⟨K,N,sc.names,gb,bl,true,true⟩
def Ol(N:List Str)(sc:Scope):Bool:=N.all λx=>(sc.names.lookup x==some .local)||(sc.names.lookup x==some .cell)
def Ur(Q:VK)(E:EK):Outs:=⟨λ_ H'=>Q .non H',Q,λ_ _=>False,λ_ _=>False,λ_=>E⟩
structure FunD (K:ac) (x qual:Str) (st:Stmt) (f:Addr) (fd:bj) (dV:am):Prop where
 ex:∃(oc:am)(od:Option Addr)(kV doc pm:am)(an:Option Addr)(θ ct:am)(osl:Array (Option am)),
  fd=cC x qual (B6 st) (Bl st) (Aq st) dV kV doc pm an θ ct/\K.lookup f=some ⟨oc,od,.func fd,osl⟩/\dE K θ qual=true
 kp:bF K (.ref f)=true
def Fun.toD{x qual:Str}{st:Stmt}{f:Addr}{fd:bj}(F:Fun K x qual st f fd):FunD K x qual st f fd .none:=⟨F.ex,F.kp⟩
def az6{x qual:Str}{st:Stmt}{f:Addr}{oc:am}{od an:Option Addr}{osl:Array (Option am)}{dV kV doc pm θ ct:am}(l:K.lookup f=some ⟨oc,od,.func (cC x qual (B6 st) (Bl st) (Aq st) dV kV doc pm an θ ct),osl⟩)(c:dE K θ qual=true)(k:bF K (.ref f)=true):FunD K x qual st f (cC x qual (B6 st) (Bl st) (Aq st) dV kV doc pm an θ ct) dV:=⟨⟨oc,od,kV,doc,pm,an,θ,ct,osl,rfl,l,c⟩,k⟩
def FunD.ok{x qual:Str}{st:Stmt}{f:Addr}{fd:bj}{dV:am}{N ps:List Str}{k:Nat}{sp:Sp}(F:FunD K x qual st f fd dV)(S:C9 N ps (Aq st))(len:∀vs H Q E,sp vs H Q E->vs.length=ps.length)(hbody:∀θ A outer s H vs Q E,Room k (A.deeper (kz qual (Aq st) s.heap.objs.size f θ))->sp vs H Q E ->
   ∃t,PSs (K2 CX0 P w K mg base N qual (Aq st) f θ A outer s H E).nox (Bl st) t/\t {nx:=λ_ H'=>Q .non H',rt:=Q} (Dm N vs) H):FnOk P w K mg base CX0 (k+1) f fd ps sp:=by
 obtain⟨oc,od,kV,doc,pm,an,θ,ct,osl,rfl,lk,hcd⟩:=F.ex
 refine a77 lk hcd S len λA outer s H vs Q E hr hsp=>?_
 obtain⟨t,h,q⟩:=hbody θ A outer s H vs Q E hr hsp
 exact⟨t,h.nox,q⟩
def Ue{fd:bj}{ps:List Str}{T:Addr}{o:Obj}{ψ:Array am}{n:Nat}{ds:List am}(hd:fd.defaults=.ref T)(ho:K.lookup T=some o)(hs:o.data=.seq ψ n)(h:∀us,(us++ds).length=ps.length -> ∃k,h9 fd ⟨us,[]⟩=seqItems? fd.defaults >>= k/\k (some ψ)=pure (ps.zip (us++ds))):Binds K fd ps ds:=λs us X hl=>by
 obtain⟨k,h1,h2⟩:=h us hl
 exact PySem.W.binds_K X hd ho hs h1 h2
def FunD.okW0{x qual:Str}{st:Stmt}{f:Addr}{fd:bj}{N ps:List Str}{k n:Nat}{sp:Sp}{gb:List (Str×GB)}{bl:List Str}{t:DS}{dV:am}(F:FunD K x qual st f fd dV)(S:C9 N ps (Aq st))(hv:Ol N (Aq st)=true)(T:Tab P w K mg base k gb bl)(rd:wSs n (Rs K N (Aq st) gb bl) (Bl st)=t)(len:∀vs H Q E,sp vs H Q E->vs.length=ps.length)(hbody:∀vs H Q E,sp vs H Q E->t (Ur Q λ_ _=>False) (Dm N vs) H):FnOk P w K mg base CX0 (k+1) f fd ps sp:=by
 refine F.ok S len λθ A outer s H vs Q E hr h=>?_
 have O:GOk (K2 CX0 P w K mg base N qual (Aq st) f θ A outer s H E).nox (Rs K N (Aq st) gb bl):=by
  refine⟨rfl,S.kind,(λ_=>jQ),rfl,S.nd,λx=>rfl,λx hx=>?_,λ_ _=>rfl,rfl,(λ_=>hr.hd),hr.units,λx hx=>?_,λx g e=>?_,λx hx=>?_,(λ_=>⟨rfl,rfl⟩),⟨_,_,_,rfl,rfl,rfl⟩⟩
  .have:=List.all_eq_true.mp hv x hx
   rw[cJ] at this
   exact this.elim (λz=>.inl (cK z)) λz=>.inr (.inl (cK z))
  .rcases hx with hx|hx
   .exact Gz hx
   .exact absurd rfl (S.nofree _ (ce hx))
  .exact (T.all x g e).there hr
  .exact T.bl x (by have hx':bl.contains x=true:=hx;simpa using hx')
 refine⟨_,(b75 n _ _ O).2 (Bl st) (λ_ _ _=>False) (λ_ _ _ h=>h),?_⟩
 rw[rd]
 exact hbody vs H Q E h
end
def Op(p:Addr)(H H':Hp):Prop:=∀b u,b≠p->H b=some u->H' b=some u
def ak0{P:a_}{w:bB}{K:ac}{mg:Str->Option am}{base:Heap}{N ps:List Str}{qual:Str}{scope:Scope}{f:Addr}{θ:am}{A:bv}{outer:List Env}{s:av}{H:Hp}{E:XK}{k:Nat}{gb:List (Str×GB)}{bl:List Str}(S:C9 N ps scope)(hv:Ol N scope=true)(T:Tab P w K mg base k gb bl)(hr:Room k (A.deeper (kz qual scope s.heap.objs.size f θ))):GOk (K2 CX0 P w K mg base N qual scope f θ A outer s H E).nox (Rs K N scope gb bl):=by
 refine⟨rfl,S.kind,(λ_=>jQ),rfl,S.nd,λx=>rfl,λx hx=>?_,λ_ _=>rfl,rfl,(λ_=>hr.hd),hr.units,λx hx=>?_,λx g e=>?_,λx hx=>?_,(λ_=>⟨rfl,rfl⟩),⟨_,_,_,rfl,rfl,rfl⟩⟩
 .have:=List.all_eq_true.mp hv x hx
  rw[cJ] at this
  exact this.elim (λz=>.inl (cK z)) λz=>.inr (.inl (cK z))
 .rcases hx with hx|hx
  .exact Gz hx
  .exact absurd rfl (S.nofree _ (ce hx))
 .exact (T.all x g e).there hr
 .exact T.bl x (by have hx':bl.contains x=true:=hx;simpa using hx')
def a48{P:a_}{w:bB}{K:ac}{mg:Str->Option am}{base:Heap}{k:Nat}{f c':Addr}{name qual:Str}{params:Arguments}{lb:Expr}{scope:Scope}{pm ctv:am}{N ps:List Str}{A:bv}{outer:List Env}{s:av}{H:Hp}{us:List am}{vs:List V}{Q:VK}{E:XK}(hr:Room (k+1) A)(e0:Env0 P w K mg base A outer s H)(ho:s.heap.get? f=some (gL name qual params lb scope [] pm c' ctv))(hcd:s.heap.CodeRec (.ref c') qual)(S:C9 N ps scope)(hb:h9 (ky name qual params lb scope [] pm (.ref c') ctv) ⟨us,[]⟩=pure (ps.zip us))(hl:vs.length=ps.length)(r:Vals vs us)(hbody:Room k (A.deeper (kz qual scope s.heap.objs.size f (.ref c'))) -> ∃t,PE (K2 CX0 P w K mg base N qual scope f (.ref c') A outer s H E).nox lb t/\t (Dm N vs) H Q) :
  jX (model P w) A (.call (.ref f) ⟨us,[]⟩) (CR CX0 outer P w H s Q E) s:=by
 have lim:=e0.mod.nolimit.keeps λb o e=>(e0.bs b o e).1
 have hkind:∀y∈ps.zip us,scope.names.lookup y.1=some .local\/(scope.names.lookup y.1=some .cell/\((lY (s.heap.objs.size+1) scope.names []).lookup y.1).isSome=true):=fun⟨n,v⟩ hy=>by
  rcases S.par n (gE hy).1 with q|q
  .exact .inl q
  .exact .inr ⟨q,gR _ _ _ (.inl q)⟩
 refine PySem.W.kla_callFunE hr.depth ho rfl S.co S.gen rfl hcd ?_
 rw[hb]
 refine ar (bA (af _) (iG S.kind hkind λenv he s1 x htk=>?_))
 subst he
 refine⟨lim.keeps x.toInCall.keep,PySem.W.kla_codeExpr ?_⟩
 obtain⟨t,ht,hq⟩:=hbody (hr.deeper _)
 have I:Inv (K2 CX0 P w K mg base N qual scope f (.ref c') A outer s H E) [] (Dm N vs) H s1:=N0 S hr.hd e0 htk hl r x
 exact bU (ht.nox [] s1 (Dm N vs) H _ I hq) (λu s' ⟨v,H',J,rv,q⟩=>⟨v,H',J.os,J.bare,J.base,J.hok,rv,q⟩) λe s' hs=>hs
section
variable {X:Cx}{ξ:List (Addr×Obj)}{σ:St}{H:Hp}{s:av}
def Inv.grow{p:Addr}{ps more:Array am}{h':Heap}{t':Nat}(I:Inv X ξ σ H s)(hp:H p=some (.tbl ps))(k:∀b o,b≠p->s.heap.get? b=some o->h'.get? b=some o)(g:h'.get? p=some (iS (ps++more)))(ht:s.toks<=t'):Inv X ξ σ (upd H p (.tbl (ps++more))) {s with heap:=h',toks:=t'}:=by
 have ne:∀{b},H b=none->b≠p:=λe z=>by rw[z,hp] at e;cases e
 refine I.step (ch:=[]) (λ_ z=>nomatch z) (λb o _ _ _ e n=>k b o (ne n) e) (λb o _ _ _ e n=>⟨o.slots,k b o (ne n) e⟩) (λb o _ _ n=>by rw[Ad (ne n)];exact n)
  (λb o _ e=>?_) (λb xs e=>by rw[Ad λz=>by rw[z,hp] at e;cases e];exact e) (λb o u e=>by rw[Ad λz=>by rw[z,hp] at e;cases e];exact e) (λb qs e=>?_) (λm hm=>?_) (λb u e=>?_) I.bare ht
 .by_cases z:b=p
  .exact⟨_,z▸g⟩
  .exact⟨o,k b o z e⟩
 .by_cases z:b=p
  .subst z
   rw[hp] at e
   cases e
   exact⟨more,Aa⟩
  .exact⟨#[],by rw[Ad z,e];simp⟩
 .obtain⟨o,es,ep,ho,r⟩:=hm
  exact⟨o,es,ep,k _ o (ne I.free) ho,r⟩
 .by_cases z:b=p
  .subst z
   rw[Aa] at e
   cases e
   exact g
  .rw[Ad z] at e
   refine(I.hok b u e).stay (λc v hc q=>k c v ?_ q) (λc q=>by rw[Ad λz=>by rw[z,hp] at q;cases q];exact q) λc xs q=>by rw[Ad λz=>by rw[z,hp] at q;cases q];exact q
   rcases hc with hc|hc
   .rw[hc];exact z
   .exact λz=>by rw[z,hp] at hc;cases hc
def bv8{ds:List (Int×V)}{pins':List (Addr×Obj)}{H3:Hp}{s3:av}{ks:List am}{A:bv}(_:Inv X pins' σ H3 s3)(hl:ks.length=ds.length)(h2:2<=ks.length)(ka:ag5 (λd w _=>w=.int d.1) H3 ds ks){G:ml->av->Prop}(hG:∀ κ,(∀i j C,i<ds.length->j<ds.length->C (decide ((ds.getD i (0,.non)).1<(ds.getD j (0,.non)).1)) s3->eG X.prog X.w A κ ks i j C s3)->G κ s3):aY (model X.prog X.w) A (jr ks.toArray) G (λ_ _=>False) s3:=by
 have rv:Vals (ds.map λd=>V.int d.1) ks:=Q7 (by rw[ae];exact hl.symm) λi x u h1 h2=>by
  rw[ao] at h1
  obtain⟨d,hd,rfl⟩:=Option.map_eq_some_iff.mp h1
  obtain⟨_,r,rfl⟩:=ka i u d h2 hd
  exact r
 rw[ksk_kind (Ld (by rw[au];exact rv)) (by rw[ay];exact h2)]
 refine ar (hG _ λi j C hi hj hC=>?_)
 unfold eG
 obtain⟨t,e⟩:=Ro (0,.non) rv hi
 obtain⟨u,e'⟩:=Ro (0,.non) rv hj
 rw[e,e']
 exact PySem.W.kat_lt_int hC
def ltI(a b:Int×V):Bool:=decide (a.1<b.1)
def a03{ds:List (Int×V)}(h:(ds.map (·.1)).Nodup):OrdL ltI ds:=by
 refine⟨λa ha b hb n=>?_,λa _ b _ c _ h1 h2=>decide_eq_true (Int.lt_trans (of_decide_eq_true h1) (of_decide_eq_true h2)),(List.pairwise_map.mp h).imp λh e=>h (congrArg (·.1) e)⟩
 have ne:a.1≠b.1:=λe=>n (Pu h a ha b hb e)
 unfold ltI
 by_cases c:a.1<b.1
 .rw[decide_eq_true c,decide_eq_false (by omega)];rfl
 .rw[decide_eq_false c,decide_eq_true (by omega)];rfl
def ai0(c:Addr)(q:Str):HO:=.ext λh=>h.CodeRec (.ref c) q
def Tb(H:Hp)(Pt:Addr)(lp:Pos)(q:Str):Prop:=H Pt=some (.tbl #[]) \/ ∃c,H Pt=some (.tbl #[hO lp.line,hO lp.col,.ref c])/\H c=some (ai0 c q)
def b77(K:ac)(Pt bm:Addr)(lp:Pos)(q:Str)(N:List Str)(dl:DE)(v:V)(H:Hp)(Q:VK):Prop:=∃(b:Addr)(ob:Obj)(u:HO)(ds:List (Int×V)),v=.ref b/\SqL K H b (ds.map (·.2))/\ds.length<64/\(ds.map (·.1)).Nodup/\Tb H Pt lp q/\H bm=some (.frz ob u) /\
 (ob.cls=.type "module" /\ ob.dict=some h_/\ob.data=.plain)/\(∀d∈ds,∀H3,Op Pt H H3->dl (Dm N [d.2]) H3 (λv H4=>v=.int d.1/\Same H3 H4) (λ_ _=>False))/\∀H' D,∀ds':List (Int×V),Op Pt H H'->Tb H' Pt lp q->ds'.Perm ds->(ds'.map (·.1)).Pairwise (· < ·)->H' D=some (.lst (ds'.map (·.2)))->Q (.ref D) H'
noncomputable def a76(K:ac)(Pt bm:Addr)(lp:Pos)(q:Str)(N:List Str)(dl a:DE):DE:=λσ H Q E=>Ac a Ag σ H (λxs H1=>∃v,xs=[v]/\b77 K Pt bm lp q N dl v H1 Q) E
def a38{a lb:Expr}{da dl:DE}{p kp lpos pos:Pos}{c Pt bm:Addr}{lp:Arguments}{ls:Scope}{N:List Str}{j n:Nat}{gb:List (Str×GB)}{bl:List Str}(hc:X.calm=true)(hg:Gl X "sorted")(hm:X.mg "sorted"=none)(ha:QE X a da)(hs:A9 a=true)(hr:Room (j+3) X.A)(T:Tab X.prog X.w X.K X.mg X.base j gb bl)(hcode:X.env.code=.ref c)(hd:dQ X.K c Pt=true)(hbm:X.mg "__builtins__"=some (.ref bm))(hcl:j5 ls X.env=pure [])(hdf:defaultsOf lp X.env=([],[]))(S:C9 N N ls)(hv:Ol N ls=true)(hN:N.length=1)(hb:∀q pm cd ct u,h9 (ky "<lambda>" q lp lb ls [] pm cd ct) ⟨[u],[]⟩=pure (N.zip [u]))(rd:wE n (Rs X.K N ls gb bl) lb=dl) :
  QE X (.Call (.Name "sorted" p) [a] [⟨some "key", .Lambda lp lb ls lpos,kp⟩] pos) (a76 X.K Pt bm lpos (X.env.qual ++ "<lambda>") N dl da):=by
 intro Ex mt ξ s σ H Q I h
 have hA:=Km ha P3 hs
 refine cz (Cu I hg hm Ed ?_ (by decide) (by decide))
 refine kg ?_ rfl ?_
 .rw[A7 hs [] X.env];rfl
 have e0:df [a] X.env=[(false,eval a X.env)]:=by rw[A7 hs [] X.env];rfl
 have hh:=hA Ex mt pos ξ s σ H _ I h
 rw[e0] at hh ⊢
 refine ag (thn hh λus s1 ⟨vs,H1,I1,r1,q1⟩=>ag (ar (bz ?_)))
 obtain⟨v,rfl,b,ob,u,ds,rfl,hp,h64,ndk,tb,hB,⟨b1,b2,b3⟩,hk,q⟩:=q1
 have hPs:∃ps,H1 Pt=some (.tbl ps):=tb.elim (λh=>⟨_,h⟩) fun⟨_,h,_⟩=>⟨_,h⟩
 obtain⟨u1,rfl,ru⟩:=Dn r1
 cases ru
 show aY (model X.prog X.w) X.A (do
  let l <- evalAll [do let v <- eval (.Lambda lp lb ls lpos) X.env;standAt pos;pure v]
  let ps <- (pure [bC b]:Sem (List am))
  pure (⟨ps,[("key" : Str)].zip l⟩:Args)) _ _ s1
 have gB:=(I1.hok bm _ hB).1
 have ns:=I1.mod.glob.keeps I1.bk
 have nG:∀{z} {o},s1.heap.get? z=some o->(∀es ep,o.data≠.dict es ep)->z≠mainGlobals:=λe d z=>by
  obtain⟨o',es,ep,e2,d2,_⟩:=ns
  rw[z,e2] at e;cases e;exact d _ _ d2
 have bi:s1.heap.BuiltinsAt X.mg Pt:=by
  refine⟨bm,ob,hbm,?_,nG gB (λes ep z=>by rw[b3] at z;cases z),?_,gB,b1,b2,b3⟩
  .obtain⟨mb,nb,_⟩:=I1.mod.blt
   obtain⟨o',es,ep,e2,d2,_⟩:=nb.keeps I1.bk
   rintro rfl
   rw[e2] at gB;cases gB;rw[b3] at d2;cases d2
  .rintro rfl
   obtain⟨ps,hP⟩:=hPs
   rw[hP] at hB;cases hB
 have nP:∀{b},s1.heap.objs.size<=b->b≠Pt:=λh z=>by
  obtain⟨ps,hP⟩:=hPs
  exact absurd (I1.hok.lt hP) (Nat.not_lt.mpr (z▸h))
 have made:∀{Qx:am->av->Prop},(∀(c':Addr)(ctv:am)(h2:Heap)(tk:Nat)(H2:Hp),Inv X ξ σ H2 {s1 with heap:=h2.push (gL "<lambda>" (X.env.qual ++ "<lambda>") lp lb ls [] ((X.mg "__name__").getD .none) c' ctv),toks:=tk}->Ec X ξ H2 h2.objs.size->Op Pt H1 H2->Tb H2 Pt lpos (X.env.qual ++ "<lambda>")->H2 c'=some (ai0 c' (X.env.qual ++ "<lambda>"))->Qx (.ref h2.objs.size) {s1 with heap:=h2.push (gL "<lambda>" (X.env.qual ++ "<lambda>") lp lb ls [] ((X.mg "__name__").getD .none) c' ctv),toks:=tk}) ->
   aY (model X.prog X.w) X.A (makeFunction "<lambda>" (X.env.qual ++ "<lambda>") lp (.expr lb) ls X.env [] [] [] lpos lpos.line) Qx X.xe s1:=λ{Qx} go=>by
  rcases tb with hP|⟨c0,hP,hc0⟩
  .refine bA (af _) (PySem.W.kla_makeFunction hcl I1.ok.glob ns hcode (ij I1.kIn hd) (I1.hok Pt _ hP) trivial rfl (cj (nG (I1.hok Pt _ hP) λ_ _ z=>by cases z)) bi λc' ctv h' tk hx hge hlt hrec htb htk=>?_)
   have I2:=I1.grow hP (λb o nb e=>ai _ (hx b o nb e)) (ai (gL "<lambda>" (X.env.qual ++ "<lambda>") lp lb ls [] ((X.mg "__name__").getD .none) c' ctv) htb) htk
   have hle:=fF (be hge hlt)
   have f1:Ec X ξ (upd H1 Pt (.tbl (#[] ++ #[hO lpos.line,hO lpos.col,.ref c']))) c':=I1.fpOk hge (by rw[Ad (nP hge)];exact I1.hok.fresh hge)
   have f2:Ec X ξ (upd H1 Pt (.tbl (#[] ++ #[hO lpos.line,hO lpos.col,.ref c']))) h'.objs.size:=I1.fpOk hle (by rw[Ad (nP hle)];exact I1.hok.fresh hle)
   obtain⟨c2,oc,vs,t,e2,hoc,hdc,hvc⟩:=hrec
   cases e2
   have ne:=aQ hlt
   refine go c' ctv h' tk _ (I2.adopt (o:=ai0 c' (X.env.qual ++ "<lambda>")) f1 f2 (λb u _ _ e=>e) ⟨⟨c',oc,vs,t,rfl,ai _ hoc,hdc,hvc⟩,⟨oc,ai _ hoc⟩,?_⟩) (I1.fpOk hle (by rw[Ad (cj ne)];exact f2.1)) (λb u nb e=>?_) (.inr ⟨c',by rw[Ad (cj (nP hge)),Aa];rfl,Aa⟩) Aa
   .rintro h1 h2 ⟨c,o,vs,t,z,r1,r2⟩ k
    cases z
    exact⟨_,o,vs,t,rfl,k _ r1,r2⟩
   .have nc:b≠c':=Ai e (I1.hok.fresh hge)
    rw[Ad nc,Ad nb]
    exact e
  .exact bA (af _) (PySem.W.kla_makeFunctionHit (cv:=.ref c0) hcl I1.ok.glob ns hcode (ij I1.kIn hd) (I1.hok Pt _ hP) trivial (by simp[codeAmong,hO]) bi λctv h' tk hx hge htk=>go c0 ctv h' tk H1 (I1.kept (t':=tk) (λb o e=>ai _ (hx b o e)) htk) (I1.fpOk hge (I1.hok.fresh hge)) (λ_ _ _ e=>e) (.inr ⟨c0,hP,hc0⟩) hc0)
 refine ag (lA (ag (PySem.W.kla_eval hdf (made λc' ctv h' tk H2 I2 f2 O2 tb2 hc2=>?_))))
 generalize ef:gL "<lambda>" (X.env.qual ++ "<lambda>") lp lb ls [] ((X.mg "__name__").getD .none) c' ctv=fo at I2
 have gF:(h'.push fo).get? h'.objs.size=some fo:=by rw[<- ef];exact aK _ rfl
 have I3:Inv X (ξ++[(h'.objs.size,fo)]) σ H2 {s1 with heap:=h'.push fo,toks:=tk}:=I2.pins_of λp hp=>by
  rcases List.mem_append.mp hp with hp|hp
  .exact I2.pin p (aE _ hp)
  .rw[aH] at hp
   subst hp
   exact⟨gF,f2.1,f2.2.1,f2.2.2.1,λv z=>by have z:fo.data=.cell v:=z;rw[<- ef] at z;cases z⟩
 have hp2:SqL X.K H2 b (ds.map (·.2)):=by
  obtain⟨ps,hP⟩:=hPs
  rcases hp with hp|hp
  .rcases hp with hp|⟨o,hp⟩
   .exact .inl (.inl (O2 _ _ (λz=>by rw[z,hP] at hp;cases hp) hp))
   .exact .inl (.inr ⟨o,O2 _ _ (λz=>by rw[z,hP] at hp;cases hp) hp⟩)
  .exact .inr hp
 refine ag (fW (ar (wpAny_evalAll_nil (ag (ar (ar ?_))))))
 have od:=a03 ndk
 have tbk:∀{H3},Same H2 H3->Tb H3 Pt lpos (X.env.qual ++ "<lambda>"):=λS3=>tb2.imp (S3 _ _) fun⟨c,a,b⟩=>⟨c,S3 _ _ a,S3 _ _ b⟩
 refine bU (Y1 (α:=Int×V) (KR:=λd w _=>w=.int d.1) (0,.non) hc I3 (.inl hp2) od h64 (λ{_ _ _ _} _ h=>h) (λd hd pl s' H3 u I' S' ru=>?_) bv8 λH3 D S3 nd e3=>q H3 D _ (λb u nb e=>S3 _ _ (O2 b u nb e)) (tbk S3) (Aw ltI ds) (List.pairwise_map.mpr ((C8 od).imp λh=>of_decide_eq_true h)) e3) (λv s' ⟨y,H',J,r,qq⟩=>⟨y,H',J.unpinned,r,qq⟩) λ_ _ z=>z
 have g1:=(I'.pin (h'.objs.size,fo) (by simp)).1
 have g2:=(I'.hok c' _ (S' _ _ hc2)).1
 rw[<- ef] at g1
 have hl:[d.2].length=N.length:=hN.symm
 refine jc (fO (a48 (k:=j) (E:=λ_ _ _=>False) (Q:=λv H4=>v=.int d.1/\Same H3 H4) hr.in1.in1 I'.env0.in1.in1 g1 g2 S (hb _ _ _ _ u) hl (.cons ru .nil) λhr'=>?_) λr s'' hq=>?_)
 .refine⟨_,(av9 n _ _ (ak0 S hv T hr')).1 lb (λ_ _ _=>False) (λ_ _ _ h=>h),?_⟩
  rw[rd]
  exact hk d hd H3 (λb u nb e=>S' _ _ (O2 b u nb e))
 .cases r with
  |error e=>exact ca hq
  |ok fl=>
   cases fl with
   |ret u=>exact I'.after hq
   |next=>exact ca hq
   |brk=>exact ca hq
   |cont=>exact ca hq
end
def be0{P:a_}{w:bB}{K:ac}{mg:Str->Option am}{base:Heap}{x qual:Str}{st:Stmt}{f:Addr}{fd:bj}{dV:am}{a lb:Expr}{da dl:DE}{p kp lpos pos rp:Pos}{c Pt bm:Addr}{lp:Arguments}{ls:Scope}{N ps N':List Str}{j m n:Nat}{gb gb':List (Str×GB)}{bl:List Str}{sp:Sp}(F:FunD K x qual st f fd dV)(S:C9 N ps (Aq st))(hv:Ol N (Aq st)=true)(T:Tab P w K mg base (j+3) gb bl)(T':Tab P w K mg base j gb' bl)(hst:Bl st=[.Return (some (.Call (.Name "sorted" p) [a] [⟨some "key", .Lambda lp lb ls lpos,kp⟩] pos)) rp])(hg:(Aq st).names.lookup ("sorted" : Str)=some .globalImplicit)(hm:mg "sorted"=none)(hs:A9 a=true)(hcode:fd.code=.ref c)(hd:dQ K c Pt=true)(hbm:mg "__builtins__"=some (.ref bm))(hcl:∀env,j5 ls env=pure [])(hdf:∀env,defaultsOf lp env=([],[]))(S':C9 N' N' ls)(hv':Ol N' ls=true)(hN:N'.length=1)(hb:∀q pm cd ct u,h9 (ky "<lambda>" q lp lb ls [] pm cd ct) ⟨[u],[]⟩=pure (N'.zip [u]))(rd:wE n (Rs K N' ls gb' bl) lb=dl)(ra:wE m (Rs K N (Aq st) gb bl) a=da)(len:∀vs H Q E,sp vs H Q E->vs.length=ps.length)(hsp:∀vs H Q E,sp vs H Q E->a76 K Pt bm lpos (qual ++ ".<locals>." ++ "<lambda>") N' dl da (Dm N vs) H Q (λ_ _=>False)):FnOk P w K mg base CX0 (j+4) f fd ps sp:=by
 obtain⟨oc,od,kV,doc,pm,an,θ,ct,osl,rfl,lk,hcd⟩:=F.ex
 obtain rfl:θ=.ref c:=hcode
 refine a77 lk hcd S len λA outer s H vs Q E hr hq=>?_
 have O:=ak0 (outer:=outer) (H:=H) (E:=E) S hv T hr
 have ha:=(av9 m _ _ O).1 a
 rw[ra] at ha
 have h:=Td (aq0 (pos:=rp) (a38 (X:=(K2 CX0 P w K mg base N qual (Aq st) f (.ref c) A outer s H E).nox) (p:=p) (kp:=kp) (lpos:=lpos) (pos:=pos) (bm:=bm) rfl hg hm ha hs hr T' rfl hd hbm (hcl _) (hdf _) S' hv' hN hb rd)) Yo (λ_ _ _=>False) (λ_ _ _ h=>h)
 rw[hst]
 exact⟨_,h.nox,hsp vs H Q E hq⟩
def a72(H:Hp)(Pt bm:Addr):Prop:=H Pt=some (.tbl #[])/\∃ob u,H bm=some (.frz ob u)/\ob.cls=.type "module" /\ ob.dict=some h_/\ob.data=.plain
def Z2{P:a_}{w:bB}{K:ac}{mg mb:Str->Option am}{k:Nat}{fa a c Pt bm:Addr}{fd:bj}{x:Str}{sp:Sp}{s₁:av}{vs:List am}{ns:List Int}{ob:Obj}(KX:K.In s₁.heap)(hns:s₁.heap.Ns mainGlobals mg)(hb:s₁.heap.Ns h_ mb)(hbb:∀x:Str,x ≠ "__name__" -> mb x=cO x)(htk:Xi K s₁.toks)(hlim:s₁.heap.NoLimit)(hg:s₁.gens = #[])(ha:s₁.heap.get? a=some {cls:=.type "list", data:=.seq vs.toArray})(hi:lU vs ns)(hl:ns.length<=sizeLine)(hr:Room k lX)(F:∀base:Heap,K.In base->base.Ns mainGlobals mg->FnOk P w K mg base CX0 k fa fd [x] sp)(hbind:∀(s:av)(u:am),lC s fd ⟨[u],[]⟩ [(x,u)])(hP:s₁.heap.get? Pt=some (iS #[]))(hT:isCodeTable s₁.heap Pt)(hB:s₁.heap.get? bm=some ob)(b1:ob.cls=.type "module")(b2:ob.dict=some h_)(b3:ob.data=.plain)(kP:K.lookup Pt=none)(kB:K.lookup bm=none)(kA:K.lookup a=none)(hsp:∀H:Hp,a72 H Pt bm->SqL K H a (ns.map V.int)->sp [.ref a] H (λv _=>v=.bl true) λ_ _ _=>False) :
  jX (model P w) lX (.call (.ref fa) ⟨[.ref a],[]⟩) (λr s'=>r=.ok (.ret (.bool true))/\OldK s₁.heap s'.heap/\s'.os=s₁.os/\kH s'.gens) s₁:=by
 have rv:=Oj hi
 have n1:Pt≠a:=λz=>by rw[z,ha] at hP;cases hP
 have n2:bm≠a:=λz=>by
  rw[z,ha] at hB
  cases hB
  have b1:=b1
  injection b1 with b1
  exact absurd b1 (by decide)
 have n3:bm≠Pt:=λz=>by rw[z,hP] at hB;cases hB;cases b1
 let H:Hp:=λb=>if b=a then some (.frz {cls:=.type "list", data:=.seq vs.toArray} (.lst (ns.map V.int))) else if b=Pt then some (.tbl #[]) else if b=bm then some (.frz ob (.ext λ_=>True)) else none
 have eA:H a=some (.frz {cls:=.type "list", data:=.seq vs.toArray} (.lst (ns.map V.int))):=if_pos rfl
 have eP:H Pt=some (.tbl #[]):=by show(if _ then _ else _)=_;rw[if_neg n1,if_pos rfl]
 have eB:H bm=some (.frz ob (.ext λ_=>True)):=by show(if _ then _ else _)=_;rw[if_neg n2,if_neg n3,if_pos rfl]
 have only:∀b u,H b=some u->(b=a/\u=.frz {cls:=.type "list", data:=.seq vs.toArray} (.lst (ns.map V.int)))\/(b=Pt/\u=.tbl #[])\/(b=bm/\u=.frz ob (.ext λ_=>True)):=λb u e=>by
  by_cases z:b=a
  .rw[z,eA] at e;exact .inl ⟨z,(aJ e).symm⟩
  by_cases z2:b=Pt
  .rw[z2,eP] at e;exact .inr (.inl ⟨z2,(aJ e).symm⟩)
  by_cases z3:b=bm
  .rw[z3,eB] at e;exact .inr (.inr ⟨z3,(aJ e).symm⟩)
  have e:(if b=a then _ else if b=Pt then _ else if b=bm then _ else none)=some u:=e
  rw[if_neg z,if_neg z2,if_neg z3] at e
  cases e
 have hok:HOk P w H s₁.heap:=λb u e=>by
  rcases only b u e with⟨rfl,rfl⟩|⟨rfl,rfl⟩|⟨rfl,rfl⟩
  .exact⟨ha,by rw[ae];exact hl,vs,_,rv,ha⟩
  .exact hP
  .exact⟨hB,trivial,⟨ob,hB⟩,λ_ _ _ _=>trivial⟩
 have base_of:∀{b:Addr}{o:Obj},s₁.heap.get? b=some o->H b=none->(Ph s₁.heap H).get? b=some o:=λe n=>ak1 e n
 have noA:∀{b:Addr}{o:Obj}{es:Array d9}{ep:Nat},s₁.heap.get? b=some o->o.data=.dict es ep->H b=none:=λ{b o es ep} e d=>by
  cases q:H b with
  |none=>rfl
  |some u=>
   rcases only b u q with⟨rfl,_⟩|⟨rfl,_⟩|⟨rfl,_⟩
   .rw[ha] at e;cases e;cases d
   .rw[hP] at e;cases e;cases d
   .rw[hB] at e;cases e;rw[b3] at d;cases d
 have nsK:∀{b:Addr}{m:Str->Option am},s₁.heap.Ns b m->(Ph s₁.heap H).Ns b m:=λ{b m} ⟨o,es,ep,e,d,r⟩=>⟨o,es,ep,base_of e (noA e d),d,r⟩
 have hKb:K.In (Ph s₁.heap H):=λb o e=>base_of (KX b o e) (by
  cases q:H b with
  |none=>rfl
  |some u=>
   rcases only b u q with⟨rfl,_⟩|⟨rfl,_⟩|⟨rfl,_⟩
   .rw[kA] at e;cases e
   .rw[kP] at e;cases e
   .rw[kB] at e;cases e)
 have hM:Mod K mg (Ph s₁.heap H):=⟨hKb,nsK hns,⟨mb,nsK hb,hbb⟩,let⟨mc,h1,h2⟩:=hlim;⟨mc,nsK h1,h2⟩⟩
 have e0:Env0 P w K mg (Ph s₁.heap H) lX [] s₁ H:=⟨rfl,hM,λb o e=>a12 e,lJ (Zw _ _),trivial,λb hb=>absurd (show b∈([]:List Addr) from hb) (by simp),hok,.of_eq hg,htk⟩
 refine fO ((F _ hKb (nsK hns)).run lX [] s₁ H ⟨[.ref a],[]⟩ [.ref a] [.ref a] _ _ hr e0 (hbind s₁ (.ref a)) (.cons rfl .nil) (hsp H ⟨eP,ob,_,eB,b1,b2,b3⟩ (.inl (.inr ⟨_,eA⟩)))) λr s' h=>?_
 cases r with
 |error e=>exact ca h
 |ok fl=>
  cases fl with
  |next=>exact ca h
  |brk=>exact ca h
  |cont=>exact ca h
  |ret u=>
   obtain⟨v,H',os,bare,un,hok',r',q⟩:=h
   have q':=q
   subst q'
   obtain rfl:u=Value.bool true:=r'
   have keep:∀b o,b≠Pt->s₁.heap.get? b=some o->s'.heap.get? b=some o:=λb o nb e=>by
    cases q:H b with
    |none=>exact un.keep b o e q (by intro z;exact absurd (show b∈([]:List Addr) from z) (by simp)) (by simp)
    |some u=>
     have fz:∀{o':Obj}{u':HO},H b=some (.frz o' u')->s'.heap.get? b=some o:=λz=>by
      have z2:=un.frzs b _ _ z
      obtain⟨e1,_⟩:=hok b _ z
      obtain⟨e2,_⟩:=hok' b _ z2
      rw[e] at e1;cases e1
      exact e2
     rcases only b u q with⟨rfl,rfl⟩|⟨rfl,_⟩|⟨rfl,rfl⟩
     .exact fz eA
     .exact absurd rfl nb
     .exact fz eB
   obtain⟨more,hm⟩:=un.tbls Pt #[] eP
   have gP:=hok' Pt _ hm
   refine⟨rfl,⟨λb o e=>?_,λb o e=>?_⟩,os.1,bare⟩
   .by_cases z:b=Pt
    .subst z
     rw[hP] at e
     cases e
     exact .inr (.inl ⟨hT,rfl,#[],#[]++more,rfl,by rw[Array.empty_append];exact gP⟩)
    .exact .inl (keep b o z e)
   .by_cases z:b=Pt
    .exact⟨_,z▸gP⟩
    .exact⟨o,keep b o z e⟩
def walk_ofT{l:jS}{n k:Nat}{q:a_}{loose:List Str}{XP:(Str->Option am)->Heap->Prop}{YP:bB->Heap->Prop}{d:DefRec}{K:Params->ac}{sp:bB->Sp}{x:Str}{Pt bm:Addr}(hT:∀(w:bB)(m:Nat),Xi (K w.params) m)(hn:l.most=some n)(hn2:n<=sizeLine)(hdf:d.params.defaults=[])(hr:Room k lX)(hY:∀(w:bB)(h:Heap),YP w h->(K w.params).In h/\h.get? Pt=some (iS #[]))(hK:∀w:bB,(∃c,dQ (K w.params) c Pt=true)/\(K w.params).lookup Pt=none/\(K w.params).lookup bm=none/\dw (K w.params) mainGlobals "__builtins__"=some (some (.ref bm))/\((K w.params).all λp=>!(p.2.cls==ja "list"))=true)(F:∀(w:bB)(mg:Str->Option am)(fa:Addr)(h:Heap),(K w.params).In h->h.Ns mainGlobals mg->mg d.name=some (.ref fa) ->
   ∃fd:bj,(∀(s:av)(u:am),lC s fd ⟨[u],[]⟩ [(x,u)])/\∀base:Heap,(K w.params).In base->base.Ns mainGlobals mg->FnOk l.prog w (K w.params) mg base CX0 k fa fd [x] (sp w))(hsp:∀(w:bB)(H:Hp)(a:Addr)(ns:List Int),ns.length<=n->a72 H Pt bm->SqL (K w.params) H a (ns.map V.int)->sp w [.ref a] H (λv _=>v=.bl true) λ_ _ _=>False) :
  PySem.W.WalkO q loose XP YP l.row.toRowW d [] (λf vs=>PySem.call f vs):=by
 refine Att.attach_call hn hdf λw s₀ s₁ mg mb fa o pm cd doc a vs ns G Y ho hd hcd hmg hobj hints hlen hg=>?_
 obtain⟨KX,hP⟩:=hY w _ Y
 obtain⟨⟨c,k1⟩,k2,k3,k4,k5⟩:=hK w
 obtain⟨fd,hb,hF⟩:=F w mg fa _ KX G.T.g hmg
 obtain⟨bm',ob,c1,c2,c3,c4,c5,c6⟩:=G.T.bmain
 have eb:bm'=bm:=by
  have:=h7 KX G.T.g k4
  rw[c1] at this
  injection this with this
  injection this
 subst eb
 have kA:(K w.params).lookup a=none:=by
  cases e:(K w.params).lookup a with
  |none=>rfl
  |some o=>
   have:=KX a o e
   rw[hobj] at this
   cases this
   have:=List.all_eq_true.mp k5 _ (PySem.W.mem_of_lookupK e)
   simp at this
 exact Z2 (c:=c) KX G.T.g G.T.b G.T.builtins (hT _ _) G.T.nolimit hg hobj hints (aT hlen hn2) hr hF hb hP (((ij KX k1).tab hP).isCodeTable) c3 c4 c5 c6 k2 k3 kA λH h1 h2=>hsp w H a ns hlen h1 h2
theorem Same.upd{H:Hp}{a:Addr}{o:HO}(h:H a=none):Same H (upd H a o):=λb u e=>by rw[Ad (Ai e h)];exact e
def Same.set{H H':Hp}{a:Addr}{o:HO}(s:Same H H')(h:H a=none):Same H (L2.upd H' a o):=λb u e=>by rw[Ad (Ai e h)];exact s b u e
def Same.seqT{K:ac}{H H':Hp}{a:Addr}{xs:List V}(e:Same H H')(h:SqT K H a xs):SqT K H' a xs:=by
 rcases h with(h|⟨o,h⟩)|h
 .exact .inl (.inl (e _ _ h))
 .exact .inl (.inr ⟨o,e _ _ h⟩)
 .exact .inr h
structure C1 (J:It) (χ:List V) (ok:Hp->Prop):Prop where
 go:∀i H,ok H->i<χ.length->J.go i H
 stop:∀H,ok H->J.stop χ.length H
 yld:∀i H x H',ok H->i<χ.length->J.yld i H x H'->H'=H/\χ[i]?=some x
structure Gv (J:It) (χ:List (V×V)) (ok:Hp->Prop):Prop where
 go:∀i H,ok H->i<χ.length->J.go i H
 stop:∀H,ok H->J.stop χ.length H
 yld:∀i H v H',ok H->i<χ.length->J.yld i H v H' -> ∃T x y,H T=none/\v=.ref T/\χ[i]?=some (x,y)/\H'=upd H T (.tup [x,y])
def Fr(z:Str):List V:=z.cps.toList.map λc=>V.str ⟨#[c]⟩
def bs7(z:Str):C1 (Its z) (Fr z) (λ_=>True):=by
 have e:(Fr z).length=z.cps.size:=by unfold Fr;simp
 refine⟨λi H _ h=>?_,λH _=>?_,λi H x H' _ _ h=>?_⟩
 .show i<z.cps.size;omega
 .show (Fr z).length=z.cps.size;exact e
 .obtain⟨h1,c,h2,h3⟩:=h
  refine⟨h1,?_⟩
  unfold Fr
  rw[ao,cA,h2,h3]
  rfl
def Az{K:ac}{a:Addr}(xs:List V):C1 (Itl K a) xs (λH=>SqL K H a xs):=by
 refine⟨λi H q h=>⟨xs,xs[i],q,by simp[h]⟩,λH q=>⟨xs,q,af _⟩,λi H x H' q _ h=>?_⟩
 obtain⟨h1,h2⟩:=h
 exact⟨h1,h2 xs q⟩
def aw1{K:ac}{a:Addr}(xs:List V):C1 (Itt K a) xs (λH=>SqT K H a xs):=by
 refine⟨λi H q h=>⟨xs,xs[i],q,by simp[h]⟩,λH q=>⟨xs,q,af _⟩,λi H x H' q _ h=>?_⟩
 obtain⟨h1,h2⟩:=h
 exact⟨h1,h2 xs q⟩
def Vn(lo:Int)(n:Nat):List V:=(aV n).map λ(i:Nat)=>V.int (lo+(i:Int))
def Bc(lo:Int)(n:Nat):(Vn lo n).length=n:=by unfold Vn;simp
def Ti{lo:Int}{n i:Nat}(h:i<n):(Vn lo n)[i]?=some (.int (lo+(i:Int))):=by unfold Vn;simp[h]
def B3(lo:Int)(n:Nat):C1 (Itr lo n) (Vn lo n) (λ_=>True):=by
 refine⟨λi H _ h=>?_,λH _=>?_,λi H x H' _ hi h=>?_⟩
 .rw[Bc] at h;exact h
 .show n<=(Vn lo n).length;rw[Bc];exact af _
 .obtain⟨h1,h2⟩:=h
  rw[Bc] at hi
  exact⟨h1,by rw[Ti hi,h2]⟩
def bs8{K:ac}{a b:Addr}(xs ys:List V):Gv (Itz K a b) (xs.zip ys) (λH=>SqL K H a xs/\SqL K H b ys):=by
 have e:(xs.zip ys).length=min xs.length ys.length:=List.length_zip
 refine⟨λi H q h=>bs9 q.1 q.2 (by omega),λH q=>⟨xs,ys,q.1,q.2,by omega⟩,λi H v H' q _ h=>?_⟩
 obtain⟨T,x,y,hT,h1,h2,h3,h4⟩:=h
 refine⟨T,x,y,hT,h1,?_,h4⟩
 rw[iN]
 exact⟨h2 xs q.1,h3 ys q.2⟩
def Ej:Nat->List V->List (V×V)
 |_,[]=>[]
 |k,x::r=>(.int k,x)::Ej (k+1) r
theorem Bs:∀k xs,(Ej k xs).length=xs.length
 |_,[]=>rfl
 |k,_::r=>by rw[Ej,aP,aP,Bs (k+1) r]
theorem C5:∀{k i:Nat} {xs} {x},xs[i]?=some x->(Ej k xs)[i]?=some (.int ((k+i:Nat):Int),x)
 |_,_,[],_,h=>by simp at h
 | k,0,y::r,x,h=>by
  simp only[eZ,gW] at h
  subst h
  rfl
 | k,i+1,y::r,x,h=>by
  rw[bN] at h
  rw[Ej,bN,C5 h]
  congr 4
  omega
def E8{K:ac}{a:Addr}(xs:List V):Gv (Ite K a) (Ej 0 xs) (λH=>SqL K H a xs):=by
 have e:=Bs 0 xs
 refine⟨λi H q h=>⟨xs,xs[i]'(by omega),q,by simp⟩,λH q=>⟨xs,q,by omega⟩,λi H v H' q _ h=>?_⟩
 obtain⟨T,x,hT,h1,h2,h4⟩:=h
 refine⟨T,.int i,x,hT,h1,?_,h4⟩
 have:=C5 (k:=0) (h2 xs q)
 rw[du] at this
 exact this
section
variable {J:It}{χ:List V}{ok:Hp->Prop}{g:DG}{tb:DS}{D:Outs}{σ:St}{H:Hp}
def A5(Y:C1 J χ ok)(Pv:Nat->St->Hp->Prop)(h0:Pv 0 σ H)(hok:∀i σ H,i<=χ.length->Pv i σ H->ok H)(hs:∀i x σ H,χ[i]?=some x->Pv i σ H->g x σ H λσ2 H2=>tb (D.lp (Pv (i+1))) σ2 H2)(hd:∀ σ H,Pv χ.length σ H->D.nx σ H):Rg J g tb D σ H:=by
 refine⟨λi m σ H=>m=χ.length-i/\i<=χ.length/\Pv i σ H,⟨χ.length,by simp,bw _,h0⟩,?_⟩
 rintro i m σ H ⟨rfl,hi,p⟩
 by_cases hlt:i<χ.length
 .refine .inr ⟨Y.go i H (hok i σ H hi p) hlt,Pv (i+1),λσ' H' p'=>⟨χ.length-(i+1),by omega,rfl,hlt,p'⟩,λx H' y=>?_⟩
  obtain⟨e,y2⟩:=Y.yld i H x H' (hok i σ H hi p) hlt y
  subst e
  exact hs i x σ _ y2 p
 .have e:i=χ.length:=by omega
  subst e
  exact .inl ⟨Y.stop H (hok _ σ H hi p),hd σ H p⟩
def Kd{χ:List (V×V)}(Y:Gv J χ ok)(Pv:Nat->St->Hp->Prop)(h0:Pv 0 σ H)(hok:∀i σ H,i<=χ.length->Pv i σ H->ok H)(hs:∀i x y T σ H,χ[i]?=some (x,y)->H T=none->Pv i σ H->g (.ref T) σ (upd H T (.tup [x,y])) λσ2 H2=>tb (D.lp (Pv (i+1))) σ2 H2)(hd:∀ σ H,Pv χ.length σ H->D.nx σ H):Rg J g tb D σ H:=by
 refine⟨λi m σ H=>m=χ.length-i/\i<=χ.length/\Pv i σ H,⟨χ.length,by simp,bw _,h0⟩,?_⟩
 rintro i m σ H ⟨rfl,hi,p⟩
 by_cases hlt:i<χ.length
 .refine .inr ⟨Y.go i H (hok i σ H hi p) hlt,Pv (i+1),λσ' H' p'=>⟨χ.length-(i+1),by omega,rfl,hlt,p'⟩,λx H' y=>?_⟩
  obtain⟨T,u,v,hT,e1,e2,e3⟩:=Y.yld i H x H' (hok i σ H hi p) hlt y
  subst e1 e3
  exact hs i u v T σ _ e2 hT p
 .have e:i=χ.length:=by omega
  subst e
  exact .inl ⟨Y.stop H (hok _ σ H hi p),hd σ H p⟩
variable {tc:DT}{te:DE}{L:Addr}{R:Hp->Prop}{E:EK}
def Dg(Y:C1 J χ ok)(Pv:Nat->St->Hp->Prop)(h0:Pv 0 σ H)(hok:∀i σ H,i<=χ.length->Pv i σ H->ok H)(hs:∀i x σ H,χ[i]?=some x->Pv i σ H->g x σ H λσ3 H3=>tc σ3 H3 (λb H4=>if b=true then te σ3 H4 (λv H5=>∃ys,H5 L=some (.lst ys)/\ys.length<sizeLine/\Pv (i+1) σ3 (upd H5 L (.lst (ys++[v])))) E else Pv (i+1) σ3 H4) E)(hd:∀ σ H,Pv χ.length σ H->R H):Fc J g tc te L R σ H E:=by
 refine⟨λi m σ H=>m=χ.length-i/\i<=χ.length/\Pv i σ H,⟨χ.length,by simp,bw _,h0⟩,?_⟩
 rintro i m σ H ⟨rfl,hi,p⟩
 by_cases hlt:i<χ.length
 .refine .inr ⟨Y.go i H (hok i σ H hi p) hlt,Pv (i+1),λσ' H' p'=>⟨χ.length-(i+1),by omega,rfl,hlt,p'⟩,λx H' y=>?_⟩
  obtain⟨e,y2⟩:=Y.yld i H x H' (hok i σ H hi p) hlt y
  subst e
  exact hs i x σ _ y2 p
 .have e:i=χ.length:=by omega
  subst e
  exact .inl ⟨Y.stop H (hok _ σ H hi p),hd σ H p⟩
def G1{χ:List (V×V)}(Y:Gv J χ ok)(Pv:Nat->St->Hp->Prop)(h0:Pv 0 σ H)(hok:∀i σ H,i<=χ.length->Pv i σ H->ok H)(hs:∀i x y T σ H,χ[i]?=some (x,y)->H T=none->Pv i σ H->g (.ref T) σ (upd H T (.tup [x,y])) λσ3 H3=>tc σ3 H3 (λb H4=>if b=true then te σ3 H4 (λv H5=>∃ys,H5 L=some (.lst ys)/\ys.length<sizeLine/\Pv (i+1) σ3 (upd H5 L (.lst (ys++[v])))) E else Pv (i+1) σ3 H4) E)(hd:∀ σ H,Pv χ.length σ H->R H):Fc J g tc te L R σ H E:=by
 refine⟨λi m σ H=>m=χ.length-i/\i<=χ.length/\Pv i σ H,⟨χ.length,by simp,bw _,h0⟩,?_⟩
 rintro i m σ H ⟨rfl,hi,p⟩
 by_cases hlt:i<χ.length
 .refine .inr ⟨Y.go i H (hok i σ H hi p) hlt,Pv (i+1),λσ' H' p'=>⟨χ.length-(i+1),by omega,rfl,hlt,p'⟩,λx H' y=>?_⟩
  obtain⟨T,u,v,hT,e1,e2,e3⟩:=Y.yld i H x H' (hok i σ H hi p) hlt y
  subst e1 e3
  exact hs i u v T σ _ e2 hT p
 .have e:i=χ.length:=by omega
  subst e
  exact .inl ⟨Y.stop H (hok _ σ H hi p),hd σ H p⟩
def Fb{α β:Type}{χ:List α}{i:Nat}{x:α}(h:χ[i]?=some x)(p:α->Bool)(f:α->β):((χ.take (i+1)).filter p).map f=((χ.take i).filter p).map f++(if p x=true then [f x] else []):=by
 rw[aN,h]
 congr 1
 cases e:p x <;> simp[e]
def Ox(Y:C1 J χ ok)(Sg:St->Prop)(p:V->Bool)(f:V->V)(h0:H L=none)(hok:∀H1,Same H H1->ok H1)(hn:χ.length<sizeLine)(hσ:Sg σ)(hs:∀x σ H1,x∈χ->Sg σ->Same H H1 -> ∀(Fin:V->St->Hp->Prop)(Skip:St->Hp->Prop),(∀v σ3 H5,Sg σ3->Same H1 H5->p x=true->v=f x->Fin v σ3 H5)->(∀ σ3 H4,Sg σ3->Same H1 H4->p x=false->Skip σ3 H4) ->
   g x σ H1 λσ3 H3=>tc σ3 H3 (λb H4=>if b=true then te σ3 H4 (λv H5=>Fin v σ3 H5) E else Skip σ3 H4) E)(hd:∀H',Same H H'->H' L=some (.lst ((χ.filter p).map f))->R H'):Fc J g tc te L R σ (upd H L (.lst [])) E:=by
 refine Dg Y (λi σ' H'=>Sg σ'/\Same H H'/\H' L=some (.lst (((χ.take i).filter p).map f))) ⟨hσ,Same.upd h0,Aa⟩ (λi σ' H' _ q=>hok H' q.2.1) ?_ ?_
 .rintro i x σ' H' hx ⟨q1,q2,q3⟩
  have hi:=(List.getElem?_eq_some_iff.mp hx).1
  refine hs x σ' H' (ah hx) q1 q2 (λv σ3 H5=>∃ys,H5 L=some (.lst ys)/\ys.length<sizeLine/\Sg σ3/\Same H (upd H5 L (.lst (ys++[v])))/\upd H5 L (.lst (ys++[v])) L=some (.lst (((χ.take (i+1)).filter p).map f)))
   (λσ3 H4=>Sg σ3/\Same H H4/\H4 L=some (.lst (((χ.take (i+1)).filter p).map f))) (λv σ3 H5 s1 s2 hp hv=>?_) (λσ3 H4 s1 s2 hp=>?_)
  .refine⟨_,s2 _ _ q3,?_,s1,(q2.trans s2).set h0,?_⟩
   .rw[ae]
    have h1:=bQ p (χ.take i)
    have h2:(χ.take i).length<=i:=by rw[aF];omega
    omega
   .rw[Aa,Fb hx,if_pos hp,hv]
  .refine⟨s1,q2.trans s2,?_⟩
   rw[s2 _ _ q3,Fb hx,if_neg (by rw[hp];exact aM),b5]
 .rintro σ' H' ⟨_,q2,q3⟩
  rw[aI] at q3
  exact hd H' q2 q3
end
section
variable {K:ac}{H H':Hp}
def Same.seqL{a:Addr}{xs:List V}(e:Same H H')(h:SqL K H a xs):SqL K H' a xs:=by
 rcases h with(h|⟨o,h⟩)|h
 .exact .inl (.inl (e _ _ h))
 .exact .inl (.inr ⟨o,e _ _ h⟩)
 .exact .inr h
def ah0{a:Addr}{ds:List Dt}{xs:List V}(h:SqL K H a xs)(g:AtL K H ds xs):At K H (.lst ds) (.ref a):=by unfold At;exact⟨a,xs,rfl,h,g⟩
def ag6{J:It}{χ:List V}{ok:Hp->Prop}{te:DE}{σ:St}{D:Addr}{R:Hp->Prop}{E:EK}(Y:C1 J χ ok)(Sg:St->Prop)(hD:H D=none)(hok:∀H1,Same H H1->ok H1)(hn:χ.length<sizeLine)(hσ:Sg σ)(hS:∀ σ x,Sg σ->Sg (σ.set 0 (some x)))(he:∀x σ H1 Q1,x∈χ->Sg σ->Same H H1->(∀H2,Same H1 H2->Q1 (.bl true) H2)->te (σ.set 0 (some x)) H1 Q1 E)(k:∀H',Same H H'->SqL K H' D ((χ.map λ_=>true).map V.bl)->R H') :
  Fc J (gdN 0) Bv te D R σ (upd H D (.lst [])) E:=by
 refine Ox Y Sg (λ_=>true) (λ_=>.bl true) hD hok hn hσ ?_ ?_
 .intro x σ H1 hx hs S Fin Skip hF hK
  exact he x σ H1 _ hx hs S λH2 S2=>hF _ _ _ (hS _ _ hs) S2 rfl rfl
 .intro H' S hD'
  exact k H' S (SqL.of (hD'.trans (by rw[List.filter_eq_self.mpr (λ_ _=>rfl),au];rfl)))
def Xn(χ:List V):((χ.map λ_=>true).all λb=>b)=true:=by rw[gn,bh];exact λ_ _=>rfl
end
end L2
namespace L2
open PySem PySem.Spec PySem.W
def Jk{K:ac}{fd:bj}{ps:List Str}{T:Addr}{o:Obj}{ψ:Array am}{n:Nat}{ds:List am}(m:Nat)(hd:fd.defaults=.ref T)(ho:K.lookup T=some o)(hs:o.data=.seq ψ n)(hm:m+ds.length=ps.length)(h:∀us,us.length=m -> ∃k,h9 fd ⟨us,[]⟩=seqItems? fd.defaults >>= k/\k (some ψ)=pure (ps.zip (us++ds))):Binds K fd ps ds:=
 Ue hd ho hs λus hl=>h us (by rw[aG] at hl;omega)
end L2
namespace Pn
open PySem L2
abbrev Sw:=List (Str×List Str)
def Kj(c:Nat):Bool:=decide (97<=c)&&decide (c<=122)
def okW(z:Str):Prop:=1<=z.length/\z.length<=8/\z.cps.toList.all Kj=true
def okL(l:List Str):Prop:=(∀z∈l,okW z)/\l.Nodup/\l.length<=8
def Ga(l:List Str):Prop:=okL l/\2<=l.length/\l.length<=4
def Cp(sw:Sw):Nat:=sw.foldl (λn x=>n*x.2.length) 1
def okSw(sw:Sw):Prop:=1<=sw.length/\sw.length<=5/\(sw.map (·.1)).Nodup/\(∀x∈sw,okW x.1/\Ga x.2)/\Cp sw<=256
def Et(acc:List (List Str))(x:Str×List Str):List (List Str):=acc.flatMap λa=>x.2.map λz=>a++[z]
def Al(sw:Sw):List (List Str):=sw.foldl Et [[]]
def ab7(ns:List Nat):Int:=ns.foldl (λc n=>cL c (2^n)) 0
def F0(ms:List Int):Int:=ms.foldl (λc m=>cL c m) 0
def D0(p:Nat)(z:Str):Nat->List (List Str)->List Nat
 |_,[]=>[]
 |k,r::rs=>if r[p]?=some z then k::D0 p z (k+1) rs else D0 p z (k+1) rs
def En(rows:List (List Str))(p:Nat)(z:Str):Int:=ab7 (D0 p z 0 rows)
def Gg(sw:Sw)(w:Str):Nat:=sw.findIdx λx=>decide (x.1=w)
def Jt(sw:Sw)(e:Str×List Str):Int:=F0 (e.2.map (En (Al sw) (Gg sw e.1)))
def Rj(sw:Sw):Int:=2^(Al sw).length-1
def ah2(sw:Sw)(rule:Sw):Int:=rule.foldl (λc e=>cD c (Jt sw e)) (Rj sw)
def Jj(sw:Sw)(ζ:List Sw):List Int:=ζ.map (ah2 sw)
def K9(sw:Sw)(ζ:List Sw):Int:=cD (Rj sw) (cw (F0 (Jj sw ζ)))
def Iw(sw:Sw)(e:Str×List Str):Prop:=e.2≠[]/\okL e.2/\∃x∈sw,x.1=e.1/\∀z∈e.2,z∈x.2
def E3(sw:Sw)(rule:Sw):Prop:=rule≠[]/\rule.length<=100/\(rule.map (·.1)).Nodup/\∀e∈rule,Iw sw e
def Og(acc:List (List Str))(x:Str×List Str):(Et acc x).length=acc.length*x.2.length:=by
 unfold Et
 induction acc with
 |nil=>simp
 |cons a acc ih=>rw[i4,aG,ih,ae,aP,Nat.add_mul,Nat.one_mul,Nat.add_comm]
theorem Ht:∀(sw:Sw) acc,(sw.foldl Et acc).length=sw.foldl (λn x=>n*x.2.length) acc.length
 |[],_=>rfl
 |x::sw,acc=>by rw[b7,b7,Ht sw,Og]
def Hs(sw:Sw):(Al sw).length=Cp sw:=Ht sw [[]]
def Lo(k:Nat)(rs:List (List Str)):Prop:=rs.Nodup/\(∀r∈rs,r.length=k)/\∀r∈rs,∀z∈r,okW z
def au5{k:Nat}{acc:List (List Str)}{x:Str×List Str}(h:Lo k acc)(hx:Ga x.2):Lo (k+1) (Et acc x):=by
 obtain⟨h1,h2,h3⟩:=h
 refine⟨?_,?_,?_⟩
 .unfold Et
  clear h3
  induction acc with
  |nil=>exact f_
  |cons a acc ih=>
   rw[i4,cM]
   rw[bG] at h1
   refine⟨?_,ih h1.2 (λr hr=>h2 r (aA _ hr)),?_⟩
   .refine iZ _ ?_ hx.1.2.1
    intro y z ne e
    exact ne (by simpa using e)
   .intro r hr q hq e
    subst e
    obtain⟨y,hy,rfl⟩:=List.mem_map.mp hr
    obtain⟨b,hb,hq⟩:=List.mem_flatMap.mp hq
    obtain⟨z,hz,e⟩:=List.mem_map.mp hq
    have:b=a/\z=y:=by simpa using e
    rw[this.1] at hb
    exact h1.1 hb
 .intro r hr
  obtain⟨b,hb,hq⟩:=List.mem_flatMap.mp hr
  obtain⟨z,hz,rfl⟩:=List.mem_map.mp hq
  rw[aG,h2 b hb]
  rfl
 .intro r hr y hy
  obtain⟨b,hb,hq⟩:=List.mem_flatMap.mp hr
  obtain⟨z,hz,rfl⟩:=List.mem_map.mp hq
  rcases List.mem_append.mp hy with hy|hy
  .exact h3 b hb y hy
  .have:y=z:=by simpa using hy
   subst this
   exact hx.1.1 _ hz
theorem Js:∀{sw:Sw} {k} {acc},Lo k acc->(∀x∈sw,Ga x.2)->Lo (k+sw.length) (sw.foldl Et acc)
 |[],_,_,h,_=>h
 | x::sw,k,acc,h,hs=>by
  have:=Js (au5 h (hs x (aD))) (λy hy=>hs y (aA _ hy))
  rw[b7,aP,show k+(sw.length+1)=k+1+sw.length by omega]
  exact this
def Hu{sw:Sw}(h:∀x∈sw,Ga x.2):Lo sw.length (Al sw):=by
 have:=Js (k:=0) (acc:=[[]]) ⟨by simp,by simp,by simp⟩ h
 rwa[du] at this
theorem Dc:∀{sw:Sw} {n},1<=n->(∀x∈sw,Ga x.2)->n<=sw.foldl (λn x=>n*x.2.length) n
 |[],n,_,_=>af _
 | x::sw,n,h,hs=>by
  rw[b7]
  have h2:=(hs x aD).2.1
  have:n<=n*x.2.length:=Nat.le_mul_of_pos_right _ (by omega)
  exact aT this (Dc (by omega) (λy hy=>hs y (aA _ hy)))
def okSw.sets{sw:Sw}(h:okSw sw):∀x∈sw,Ga x.2:=λx hx=>(h.2.2.2.1 x hx).2
def okSw.len{sw:Sw}(h:okSw sw):(Al sw).length<=256:=by rw[Hs];exact h.2.2.2.2
def okSw.pos{sw:Sw}(h:okSw sw):1<=(Al sw).length:=by rw[Hs];exact Dc (af 1) h.sets
def aa8{sw:Sw}(h:okSw sw)(i:Nat):Cp (sw.take i)<=Cp sw:=by
 conv=>rhs;rw[<- List.take_append_drop i sw]
 unfold Cp
 rw[fQ]
 exact Dc (Dc (af 1) λx hx=>h.sets x (f6 hx)) λx hx=>h.sets x (List.mem_of_mem_drop hx)
def Dz{α β:Type}{l:List α}{i:Nat}{x:α}(h:l[i]?=some x)(f:β->α->β)(b:β):(l.take (i+1)).foldl f b=f ((l.take i).foldl f b) x:=by
 rw[aN,h,dz,fQ]
 rfl
def Cc{α β:Type}{l:List α}{i:Nat}{x:α}(h:l[i]?=some x)(f:α->β):(l.take (i+1)).map f=(l.take i).map f++[f x]:=by
 rw[aN,h,dz,aw]
 rfl
abbrev Own(ok:Addr->Prop)(H:Hp)(a:Addr)(o:HO):Prop:=ok a/\H a=some o
abbrev Kp(ok:Addr->Prop)(H:Hp)(ok':Addr->Prop)(H':Hp):Prop:=∀a o,Own ok H a o->Own ok' H' a o
abbrev fresh(H:Hp):Addr->Prop:=λa=>H a=none
abbrev any:Addr->Prop:=λ_=>True
def Kp.same{ok:Addr->Prop}{H H':Hp}(S:Same H H'):Kp ok H ok H':=λa o h=>⟨h.1,S _ _ h.2⟩
theorem Kp.any{ok:Addr->Prop}{H:Hp}:Kp ok H Pn.any H:=λa o h=>⟨trivial,h.2⟩
def Kp.weak{ok ok':Addr->Prop}{H:Hp}(h:∀a,ok a->ok' a):Kp ok H ok' H:=λa o q=>⟨h a q.1,q.2⟩
def Kp.trans{ok1 ok2 ok3:Addr->Prop}{H1 H2 H3:Hp}(h:Kp ok1 H1 ok2 H2)(g:Kp ok2 H2 ok3 H3):Kp ok1 H1 ok3 H3:=λa o q=>g a o (h a o q)
def ab5{H H':Hp}(S:Same H H'){a:Addr}(h:H' a=none):H a=none:=by
 cases e:H a with
 |none=>rfl
 |some o=>rw[S _ _ e] at h;cases h
theorem Kp.fresh{H1 H2 H:Hp}(S:Same H1 H2):Kp (fresh H2) H (Pn.fresh H1) H:=Kp.weak λa h=>ab5 S h
def Kp.off{ok:Addr->Prop}{H:Hp}{p:Addr}{o:HO}(h:¬ ok p):Kp ok H ok (upd H p o):=λa u q=>⟨q.1,by
 have n:a≠p:=λe=>h (by rw[<- e];exact q.1)
 rw[Ad n];exact q.2⟩
abbrev kR(x:(Str×List Str)×Addr):Key×V:=(.inr x.1.1,.ref x.2)
abbrev E6(r:List Str):HO:=.tup (r.map V.str)
abbrev Ay(r:List Str):HO:=.lst (r.map V.str)
def SwAt(ok:Addr->Prop)(H:Hp)(d:Addr)(sw:Sw):Prop:=∃ds:List ((Str×List Str)×Addr),ds.map (·.1)=sw/\Own ok H d (.dK (ds.map kR))/\∀x∈ds,Own ok H x.2 (E6 x.1.2)
def RuleAt(ok:Addr->Prop)(H:Hp)(d:Addr)(sw:Sw):Prop:=∃ds:List ((Str×List Str)×Addr),ds.map (·.1)=sw/\Own ok H d (.dK (ds.map kR))/\∀x∈ds,Own ok H x.2 (Ay x.1.2)
def TupsAt(ok:Addr->Prop)(H:Hp)(l:Addr)(rows:List (List Str)):Prop:=∃ds:List (List Str×Addr),ds.map (·.1)=rows/\Own ok H l (.lst (ds.map λx=>.ref x.2))/\∀x∈ds,Own ok H x.2 (E6 x.1)
def SwIn(ok:Addr->Prop)(H:Hp)(l:Addr)(sw:Sw):Prop:=∃ds:List (((Str×List Str)×Addr)×Addr),ds.map (·.1.1)=sw/\Own ok H l (.lst (ds.map λx=>.ref x.2))/\∀x∈ds,Own ok H x.2 (.tup [.str x.1.1.1,.ref x.1.2])/\Own ok H x.1.2 (Ay x.1.1.2)
def a11(r:List Str):TK:=.tup (r.map λz=>.at_ (.inr z))
def NumAt(ok:Addr->Prop)(H:Hp)(n:Addr)(_:List (List Str)):Prop:=∃kvs,Own ok H n (.dT kvs)
def Vo(rows:List (List Str))(i:Nat)(l:List Str):HO:=.dK (l.map λz=>(.inr z,.int (En rows i z)))
def SetsAt(ok:Addr->Prop)(H:Hp)(d:Addr)(sw:Sw):Prop:=∃ds:List ((Str×List Str)×Addr),ds.map (·.1)=sw/\Own ok H d (.dK (ds.map kR))/\∀i x,ds[i]?=some x->Own ok H x.2 (Vo (Al sw) i x.1.2)
def RulesAt(ok:Addr->Prop)(H:Hp)(k:Addr)(ζ:List Sw):Prop:=∃ds:List (Sw×Addr),ds.map (·.1)=ζ/\Own ok H k (.lst (ds.map λx=>.ref x.2))/\∀x∈ds,RuleAt ok H x.2 x.1
section
variable {ok ok':Addr->Prop}{H H':Hp}{d:Addr}{sw:Sw}{rows:List (List Str)}{ζ:List Sw}
def SwAt.mono(h:SwAt ok H d sw)(k:Kp ok H ok' H'):SwAt ok' H' d sw:=by
 obtain⟨ds,e,o,q⟩:=h;exact⟨ds,e,k _ _ o,λx hx=>k _ _ (q x hx)⟩
def RuleAt.mono(h:RuleAt ok H d sw)(k:Kp ok H ok' H'):RuleAt ok' H' d sw:=by
 obtain⟨ds,e,o,q⟩:=h;exact⟨ds,e,k _ _ o,λx hx=>k _ _ (q x hx)⟩
def TupsAt.mono(h:TupsAt ok H d rows)(k:Kp ok H ok' H'):TupsAt ok' H' d rows:=by
 obtain⟨ds,e,o,q⟩:=h;exact⟨ds,e,k _ _ o,λx hx=>k _ _ (q x hx)⟩
def SwIn.mono(h:SwIn ok H d sw)(k:Kp ok H ok' H'):SwIn ok' H' d sw:=by
 obtain⟨ds,e,o,q⟩:=h;exact⟨ds,e,k _ _ o,λx hx=>⟨k _ _ (q x hx).1,k _ _ (q x hx).2⟩⟩
def SetsAt.mono(h:SetsAt ok H d sw)(k:Kp ok H ok' H'):SetsAt ok' H' d sw:=by
 obtain⟨ds,e,o,q⟩:=h;exact⟨ds,e,k _ _ o,λi x hx=>k _ _ (q i x hx)⟩
theorem RulesAt.mono(h:RulesAt ok H d ζ)(k:Kp ok H ok' H'):RulesAt ok' H' d ζ:=by
 obtain⟨ds,e,o,q⟩:=h;exact⟨ds,e,k _ _ o,λx hx=>(q x hx).mono k⟩
def NumAt.mono(h:NumAt ok H d rows)(k:Kp ok H ok' H'):NumAt ok' H' d rows:=let⟨kvs,h⟩:=h;⟨kvs,k _ _ h⟩
end
def bu3(d l n s k b:Addr)(f:Int):List (Str×V):=[("settings", .ref d),("tuples", .ref l),("numbers", .ref n),("sets", .ref s),("kept_rules", .ref k),("bars", .ref b),("free", .int f)]
structure PanAt (C:Addr) (ok:Addr->Prop) (H:Hp) (p:Addr) (sw:Sw) (ζ:List Sw) (dx d l n s k b:Addr):Prop where
 ins:Own ok H p (.ins C dx (bu3 d l n s k b (K9 sw ζ)))
 sws:SwAt ok H d sw
 tps:TupsAt ok H l (Al sw)
 nms:NumAt ok H n (Al sw)
 sts:SetsAt ok H s sw
 rls:RulesAt ok H k ζ
 brs:Own ok H b (.lst ((Jj sw ζ).map V.int))
def PanelAt(C:Addr)(ok:Addr->Prop)(H:Hp)(p:Addr)(sw:Sw)(ζ:List Sw):Prop:=∃dx d l n s k b,PanAt C ok H p sw ζ dx d l n s k b
theorem PanelAt.mono{C p:Addr}{ok ok':Addr->Prop}{H H':Hp}{sw:Sw}{ζ:List Sw}(h:PanelAt C ok H p sw ζ)(k:Kp ok H ok' H'):PanelAt C ok' H' p sw ζ:=by
 obtain⟨dx,d,l,n,s,kk,b,h⟩:=h
 exact⟨dx,d,l,n,s,kk,b,⟨k _ _ h.ins,h.sws.mono k,h.tps.mono k,h.nms.mono k,h.sts.mono k,h.rls.mono k,k _ _ h.brs⟩⟩
def SelfAt(C:Addr)(ok:Addr->Prop)(H:Hp)(p l s:Addr):Prop:=∃dx fs,Own ok H p (.ins C dx fs)/\fs.lookup ("tuples" : Str)=some (.ref l)/\fs.lookup ("sets" : Str)=some (.ref s)/\∀m∈(["all_choices","box","many","term","read_rule","read_rules"]:List Str),fs.lookup m=none
def SelfAt.mono{C p l s:Addr}{ok ok':Addr->Prop}{H H':Hp}(h:SelfAt C ok H p l s)(k:Kp ok H ok' H'):SelfAt C ok' H' p l s:=by
 obtain⟨dx,fs,o,q⟩:=h;exact⟨dx,fs,k _ _ o,q⟩
def Eh{p:Addr}{o:Obj}(kvs:List (Key×V)):C1 (Itd p o kvs) (kvs.map λkv=>kV kv.1) (λH=>H p=some (.frz o (.dK kvs))):=by
 refine⟨λi H q h=>⟨q,by simpa using h⟩,λH q=>⟨q,by simp⟩,λi H x H' q hi h=>?_⟩
 obtain⟨h1,k,v,h2,h3⟩:=h
 refine⟨h1,?_⟩
 rw[ao,h2,h3]
 rfl
def aw0{p:Addr}{o:Obj}(kvs:List (Key×V)):Gv (ax9 p o kvs) (Ej 0 (kvs.map λkv=>kV kv.1)) (λH=>H p=some (.frz o (.dK kvs))):=by
 have e:(Ej 0 (kvs.map λkv=>kV kv.1)).length=kvs.length:=by rw[Bs];simp
 refine⟨λi H q h=>⟨q,by omega⟩,λH q=>⟨q,by omega⟩,λi H x H' q hi h=>?_⟩
 obtain⟨T,k,v,hT,h1,h2,h3⟩:=h
 refine⟨T,.int i,kV k,hT,h1,?_,h3⟩
 have:=C5 (k:=0) (xs:=kvs.map λkv=>kV kv.1) (by rw[ao,h2];rfl)
 rw[du] at this
 exact this
def Same.thaw{H H':Hp}{p:Addr}{o:Obj}{kvs:List (Key×V)}(h:H p=some (.dK kvs))(S:Same (upd H p (.frz o (.dK kvs))) H'):Same H (upd H' p (.dK kvs)):=by
 intro b u e
 by_cases hb:b=p
 .subst hb;rw[Aa,<- h,e]
 .rw[Ad hb];exact S _ _ (by rw[Ad hb];exact e)
def F6{H:Hp}{d:Addr}{u:HO}(h:H d=some u):¬ Pn.fresh H d:=λe=>by
 have e:H d=none:=e
 rw[h] at e
 cases e
def Cg{b:Bool}{A B:Prop}(e:b=false)(h:B):if b=true then A else B:=by subst e;exact Pj h
def F9{b:Bool}{A B:Prop}(e:b=true)(h:A):if b=true then A else B:=by subst e;exact U4 h
def Ak{α β:Type}{l:List α}{f:α->β}{i:Nat}{x:β}(h:(l.map f)[i]?=some x):∃m,l[i]?=some m/\x=f m:=by
 rw[ao] at h
 cases e:l[i]? with
 |none=>rw[e] at h;cases h
 |some m=>rw[e] at h;exact⟨m,rfl,by simpa using h.symm⟩
def Aj{α:Type}{l:List α}{i:Nat}{x:α}(h:l[i]?=some x):i<l.length:=(List.getElem?_eq_some_iff.mp h).1
def Di{n i:Nat}{x:V}(h:(Vn 0 n)[i]?=some x):i<n/\x=.int (i:Int):=by
 have hi:=Aj h
 rw[Bc] at hi
 rw[Ti hi] at h
 refine⟨hi,?_⟩
 have:V.int (0+(i:Int))=x:=by simpa using h
 rw[<- this,Int.zero_add]
def Hw(z:Str):z.cps.toList.length=z.length:=by simp[Str.length]
def an9(a c:Nat):decide ([c]<[a])=decide (c<a):=by
 rw[bK,decide_eq_true_iff,decide_eq_true_iff,List.cons_lt_cons_iff]
 simp
def leL{s:Str}{a c:Nat}(h:s.cps.toList=[a]):(!decide ((⟨#[c]⟩:Str).cps.toList<s.cps.toList))=decide (a<=c):=by
 rw[h]
 rw[an9,<- decide_not]
 exact decide_eq_decide.mpr Nat.not_lt
def leR{s:Str}{a c:Nat}(h:s.cps.toList=[a]):(!decide (s.cps.toList<(⟨#[c]⟩:Str).cps.toList))=decide (c<=a):=by
 rw[h]
 rw[an9,<- decide_not]
 exact decide_eq_decide.mpr Nat.not_lt
def Zm{s1 s2:Str}{a b c:Nat}{Q:VK}{H:Hp}(h1:s1.cps.toList=[a])(h2:s2.cps.toList=[b])(k:Q (.bl (decide (a<=c)&&decide (c<=b))) H) :
  if(!decide ((⟨#[c]⟩:Str).cps.toList<s1.cps.toList))=true then Q (.bl (!decide (s2.cps.toList<(⟨#[c]⟩:Str).cps.toList))) H else Q (.bl false) H:=by
 rw[leL h1,leR h2]
 cases e:decide (a<=c) with
 |true=>rw[e,jg] at k;exact U4 k
 |false=>rw[e,kq] at k;exact Pj k
def No{a b c:Int}{Q:VK}{H:Hp}(k:Q (.bl (decide (a<=c)&&decide (c<=b))) H):if decide (a<=c)=true then Q (.bl (decide (c<=b))) H else Q (.bl false) H:=by
 cases e:decide (a<=c) with
 |true=>rw[e,jg] at k;exact U4 k
 |false=>rw[e,kq] at k;exact Pj k
def ay9{s1 s2:Str}{a b c i:Nat}{Q:VK}{E:EK}{H:Hp}{σ:St}(h1:s1.cps.toList=[a])(h2:s2.cps.toList=[b])(hv:σ[i]?=some (some (.str ⟨#[c]⟩)))(k:Q (.bl (decide (a<=c)&&decide (c<=b))) H) :
  Dv Hr Hr (dC (.str s1)) (Ab i) (dC (.str s2)) σ H Q E:=by
 unfold Dv dC Ab
 rw[hv]
 exact Zm h1 h2 k
def Zh{K:ac}{z:Str}{te:DE}{p:Nat->Bool}{H:Hp}{Q:VK}{E:EK}(hz:z.length<=1000)(he:∀c (σ:St) (H1:Hp) (Q1:VK),σ.length=1->Q1 (.bl (p c)) H1->te (σ.set 0 (some (.str ⟨#[c]⟩))) H1 Q1 E)(k:∀H',Same H H'->Q (.bl (z.cps.toList.all p)) H') :
  ∀D,H D=none->Fc (Its z) (gdN 0) Bv te D (λH'=>P6 K [.ref D] H' Q) (Ul [none] [some (.str z)]) (upd H D (.lst [])) E:=by
 intro D hD
 refine Ox (bs7 z) (λσ=>σ.length=1) (λ_=>true) (λv=>match v with | .str y=>.bl (p (y.cps.getD 0 0))|_=>.non) hD (λ_ _=>aZ) ?_ rfl ?_ ?_
 .unfold Fr
  rw[ae]
  exact be (by have:z.cps.size<=1000:=hz;simpa using this) (by decide)
 .intro x σ H1 hx hσ S Fin Skip hF hS
  obtain⟨c,hc,rfl⟩:=List.mem_map.mp hx
  exact he c σ H1 _ hσ (hF _ _ _ (by rw[ii];exact hσ) (Same.refl _) rfl rfl)
 .intro H' S hD'
  have e:((Fr z).filter λ_=>true).map (λv=>match v with | .str y=>V.bl (p (y.cps.getD 0 0))|_=>.non)=(z.cps.toList.map p).map V.bl:=by
   unfold Fr
   rw[List.filter_eq_self.mpr (λ_ _=>rfl),au,au]
   rfl
  refine⟨z.cps.toList.map p,SqL.of (hD'.trans (by rw[e])),?_⟩
  have e2:(z.cps.toList.map p).all (λb=>b)=z.cps.toList.all p:=by rw[gn];rfl
  rw[e2]
  exact k H' S
def Rn{K:ac}{J:It}{χ:List V}{ok:Hp->Prop}{te:DE}{σ:St}{H:Hp}{R:Hp->Addr->Prop}{E:EK}(Y:C1 J χ ok)(Sg:St->Prop)(hok:∀H1,Same H H1->ok H1)(hn:χ.length<sizeLine)(hσ:Sg σ)(hS:∀ σ x,Sg σ->Sg (σ.set 0 (some x)))(he:∀x σ H1 Q1,x∈χ->Sg σ->Same H H1->(∀H2,Same H1 H2->Q1 (.bl true) H2)->te (σ.set 0 (some x)) H1 Q1 E)(k:∀D H',Same H H'->SqL K H' D ((χ.map λ_=>true).map V.bl)->R H' D) :
  ∀D,H D=none->Fc J (gdN 0) Bv te D (λH'=>R H' D) σ (upd H D (.lst [])) E:=λD hD=>ag6 Y Sg hD hok hn hσ hS he (k D)
theorem Se:∀(xs acc:List Str),(acc++xs).Nodup->xs.foldl (λσ k=>if σ.any (λj=>decide (j=k)) then σ else σ++[k]) acc=acc++xs
 |[],acc,_=>by rw[List.foldl_nil,b5]
 | x::xs,acc,h=>by
  have hx:(acc.any λj=>decide (j=x))=false:=by
   rw[i3]
   intro j hj e
   have e:j=x:=by simpa using e
   subst e
   exact(List.nodup_append.mp h).2.2 j hj j aD rfl
  rw[b7,hx]
  have h2:(acc++[x]++xs).Nodup:=by simpa using h
  show List.foldl _ (acc++[x]) xs=_
  rw[Se xs (acc++[x]) h2]
  simp
def a05{xs:List Str}(h:xs.Nodup):Ff xs=xs:=Se xs [] (h)
theorem Bo{κ:Type} [DecidableEq κ]:∀{kvs}{i:Nat}{k:κ}{v:V},(kvs.map (·.1)).Nodup->kvs[i]?=some (k,v)->Bg kvs k=some v
 |[],_,_,_,_,e=>by simp at e
 | p::r,0,k,v,_,e=>by
  rw[eZ] at e
  cases e
  exact B1 rfl
 | p::r,i+1,k,v,h,e=>by
  rw[bN] at e
  rw[a7,bG] at h
  have ne:¬ p.1=k:=λz=>h.1 (List.mem_map.mpr ⟨(k,v),ah e,z.symm⟩)
  rw[Bx ne]
  exact Bo h.2 e
theorem Cq{κ:Type} [DecidableEq κ]:∀{kvs}{k:κ},¬ k∈kvs.map (·.1)->Bg kvs k=none
 |[],_,_=>rfl
 | p::r,k,h=>by
  rw[a7,aB,not_or] at h
  rw[Bx (λe=>h.1 e.symm)]
  exact Cq h.2
def Iv{l:List Str}(h:l.Nodup):(l.map (cV:Str->Key)).Nodup:=iZ _ (λa b ne e=>ne (by injection e)) h
def Ki(ds:List ((Str×List Str)×Addr)):(ds.map kR).map (·.1)=((ds.map (·.1)).map (·.1)).map (cV:Str->Key):=by simp[au]
def Ey{ds:List ((Str×List Str)×Addr)}{sw:Sw}(e:ds.map (·.1)=sw)(h:(sw.map (·.1)).Nodup):((ds.map kR).map (·.1)).Nodup:=by
 rw[Ki,e]
 exact Iv h
def C2(x y:Nat):cL (x:Int) (y:Int)=((x ||| y:Nat):Int):=by
 unfold cL
 have hx:¬ (0:Int)<=cw (x:Int):=by unfold cw;omega
 have hy:¬ (0:Int)<=cw (y:Int):=by unfold cw;omega
 rw[PyProof.Rows.bitAnd_nn hx hy]
 have e:∀z,(cw (cw (z:Int)))=(z:Int):=λz=>by unfold cw;omega
 rw[e,e,e,bb,bb]
def Ev(x y:Nat):cD (x:Int) (y:Int)=((x &&& y:Nat):Int):=by
 rw[PyProof.Rows.bitAnd_pp (by omega) (by omega),bb,bb]
def Fy(n:Nat):(2:Int)^n=((2^n:Nat):Int):=by simp
def a51(ns:List Nat):Nat:=ns.foldl (λc n=>c ||| 2^n) 0
theorem Tj:∀(ns:List Nat)(c:Nat),ns.foldl (λ(c:Int) n=>cL c (2^n)) (c:Int)=((ns.foldl (λc n=>c ||| 2^n) c:Nat):Int)
 |[],c=>rfl
 |n::ns,c=>by rw[b7,b7,Fy,C2,Tj ns]
def ar4(ns:List Nat):ab7 ns=(a51 ns:Nat):=Tj ns 0
theorem Tk:∀(ns:List Nat) c k,(ns.foldl (λc n=>c ||| 2^n) c).testBit k=(c.testBit k||decide (k∈ns))
 |[],c,k=>by simp
 | n::ns,c,k=>by
  rw[b7,Tk ns,fu,cZ,Bool.or_assoc]
  congr 1
  rw[bK,cJ,decide_eq_true_iff,decide_eq_true_iff,decide_eq_true_iff,aB]
  exact or_congr ⟨Eq.symm,Eq.symm⟩ iL
def ar5(ns:List Nat)(k:Nat):(a51 ns).testBit k=decide (k∈ns):=by
 unfold a51
 rw[Tk,dP,jf]
def F1(ms:List Nat):Nat:=ms.foldl (λc m=>c ||| m) 0
theorem Mi:∀(ms:List Nat)(c:Nat),(ms.map λm:Nat=>(m:Int)).foldl (λc m=>cL c m) (c:Int)=((ms.foldl (λc m=>c ||| m) c:Nat):Int)
 |[],c=>rfl
 |n::ns,c=>by rw[a7,b7,b7,C2,Mi ns]
def Mj(ms:List Nat):F0 (ms.map λm:Nat=>(m:Int))=(F1 ms:Nat):=Mi ms 0
theorem Ml:∀(ms:List Nat) c k,(ms.foldl (λc m=>c ||| m) c).testBit k=(c.testBit k||ms.any λm=>m.testBit k)
 |[],c,k=>by simp
 |n::ns,c,k=>by rw[b7,Ml ns,fu,fP,Bool.or_assoc]
def Mm(ms:List Nat)(k:Nat):(F1 ms).testBit k=ms.any λm=>m.testBit k:=by
 unfold F1
 rw[Ml,dP,jf]
def Zv(rows:List (List Str))(p:Nat)(z:Str)(k:Nat):Bool:=decide ((rows[k]?.bind λr=>r[p]?)=some z)
theorem X2(p:Nat)(z:Str):∀rows j n,n∈D0 p z j rows↔j<=n/\(rows[n-j]?.bind λr=>r[p]?)=some z
 |[],j,n=>by simp[D0]
 | r::rows,j,n=>by
  have ih:=X2 p z rows (j+1) n
  have e:∀b,(n=j/\b)\/(j+1<=n/\(rows[n-(j+1)]?.bind λr=>r[p]?)=some z)↔j<=n/\((n=j/\b)\/(n≠j/\(rows[n-(j+1)]?.bind λr=>r[p]?)=some z)):=λb=>by
   constructor
   .rintro (⟨h1,h2⟩|⟨h1,h2⟩)
    .exact⟨by omega,.inl ⟨h1,h2⟩⟩
    .exact⟨by omega,.inr ⟨by omega,h2⟩⟩
   .rintro⟨h0,⟨h1,h2⟩|⟨h1,h2⟩⟩
    .exact .inl ⟨h1,h2⟩
    .exact .inr ⟨by omega,h2⟩
  have g:j<=n->(((r::rows)[n-j]?.bind λr=>r[p]?)=some z↔((n=j/\r[p]?=some z)\/(n≠j/\(rows[n-(j+1)]?.bind λr=>r[p]?)=some z))):=λh=>by
   by_cases hn:n=j
   .subst hn
    simp
   .have e2:n-j=(n-(j+1))+1:=by omega
    rw[e2,bN]
    simp[hn]
  rw[D0]
  by_cases hr:r[p]?=some z
  .rw[if_pos hr,aB,ih]
   have:=e (r[p]?=some z)
   constructor
   .intro h
    have h2:=this.mp (h.imp (λx=>⟨x,hr⟩) id)
    exact⟨h2.1,(g h2.1).mpr h2.2⟩
   .rintro⟨h1,h2⟩
    exact(this.mpr ⟨h1,(g h1).mp h2⟩).imp (λx=>x.1) id
  .rw[if_neg hr,ih]
   have:=e (r[p]?=some z)
   constructor
   .intro h
    have h2:=this.mp (.inr h)
    exact⟨h2.1,(g h2.1).mpr h2.2⟩
   .rintro⟨h1,h2⟩
    rcases this.mpr ⟨h1,(g h1).mp h2⟩ with h|h
    .exact absurd h.2 hr
    .exact h
def Yb(rows:List (List Str))(p:Nat)(z:Str):Nat:=a51 (D0 p z 0 rows)
def Z4(rows:List (List Str))(p:Nat)(z:Str):En rows p z=(Yb rows p z:Nat):=ar4 _
def Z5(rows:List (List Str))(p:Nat)(z:Str)(k:Nat):(Yb rows p z).testBit k=Zv rows p z k:=by
 unfold Yb Zv
 rw[ar5]
 refine decide_eq_decide.mpr ?_
 rw[X2]
 simp
def Mg(sw:Sw)(e:Str×List Str):Nat:=F1 (e.2.map (Yb (Al sw) (Gg sw e.1)))
def ac3(sw:Sw)(e:Str×List Str):Jt sw e=(Mg sw e:Nat):=by
 unfold Jt Mg
 rw[<- Mj,au]
 congr 1
 exact bu λz _=>Z4 _ _ _
def ac4(sw:Sw)(e:Str×List Str)(k:Nat):(Mg sw e).testBit k=e.2.any λz=>Zv (Al sw) (Gg sw e.1) z k:=by
 unfold Mg
 rw[Mm,jM]
 congr 1
 funext z
 exact Z5 _ _ _ _
def Rl(sw:Sw):Nat:=2^(Al sw).length-1
def Rk(sw:Sw):Rj sw=(Rl sw:Nat):=by
 unfold Rj Rl
 rw[Fy]
 have:0<2^(Al sw).length:=jP _
 omega
def Rm(sw:Sw)(k:Nat):(Rl sw).testBit k=decide (k<(Al sw).length):=by
 unfold Rl
 rw[Nat.testBit_two_pow_sub_one]
def F8(sw:Sw)(rule:Sw):Nat:=rule.foldl (λc e=>c &&& Mg sw e) (Rl sw)
theorem Rp(sw:Sw):∀(rule:Sw)(c:Nat),rule.foldl (λc e=>cD c (Jt sw e)) (c:Int)=((rule.foldl (λc e=>c &&& Mg sw e) c:Nat):Int)
 |[],c=>rfl
 |e::rule,c=>by rw[b7,b7,ac3,Ev,Rp sw rule]
def ah3(sw rule:Sw):ah2 sw rule=(F8 sw rule:Nat):=by
 unfold ah2 F8
 rw[Rk,Rp]
theorem Rq(sw:Sw):∀(rule:Sw) c k,(rule.foldl (λc e=>c &&& Mg sw e) c).testBit k=(c.testBit k&&rule.all λe=>e.2.any λz=>Zv (Al sw) (Gg sw e.1) z k)
 |[],c,k=>by simp
 |e::rule,c,k=>by rw[b7,Rq sw rule,fH,ac4,bV,Bool.and_assoc]
def ah4(sw rule:Sw)(k:Nat):(F8 sw rule).testBit k=(decide (k<(Al sw).length)&&rule.all λe=>e.2.any λz=>Zv (Al sw) (Gg sw e.1) z k):=by
 unfold F8
 rw[Rq,Rm]
def Ek(sw:Sw)(ζ:List Sw):Nat:=Rl sw-(Rl sw &&& F1 (ζ.map (F8 sw)))
def Ik(sw:Sw)(ζ:List Sw):K9 sw ζ=(Ek sw ζ:Nat):=by
 unfold K9 Ek Jj
 have e:ζ.map (ah2 sw)=(ζ.map (F8 sw)).map λm:Nat=>(m:Int):=by
  rw[au]
  exact bu λr _=>ah3 sw r
 rw[e,Mj,Rk,PyProof.Rows.bitAnd_pn (by omega) (by unfold cw;omega),show cw (cw ((F1 (ζ.map (F8 sw)):Nat):Int))=((F1 (ζ.map (F8 sw)):Nat):Int) by unfold cw;omega,bb,bb]
 have:=Nat.and_le_left (n:=Rl sw) (m:=F1 (ζ.map (F8 sw)))
 omega
def a56(a b:Nat):a-(a &&& b)=a ^^^ (a &&& b):=by
 have h:(a ^^^ (a &&& b)) &&& (a &&& b)=0:=by
  refine g_ λk=>?_
  rw[fH,jO,fH,dP]
  cases a.testBit k <;> cases b.testBit k <;> rfl
 have h2:(a ^^^ (a &&& b)) ||| (a &&& b)=a:=by
  refine g_ λk=>?_
  rw[fu,jO,fH]
  cases a.testBit k <;> cases b.testBit k <;> rfl
 have h3:(a ^^^ (a &&& b))+(a &&& b)=(a ^^^ (a &&& b)) ||| (a &&& b):=by
  have e:=PyProof.Rows.bitOr_and ((a ^^^ (a &&& b):Nat):Int) ((a &&& b:Nat):Int)
  rw[C2,Ev,h] at e
  omega
 omega
def Zs(sw:Sw)(ζ:List Sw)(k:Nat):(Ek sw ζ).testBit k=(decide (k<(Al sw).length) && !ζ.any λr=>(F8 sw r).testBit k):=by
 unfold Ek
 rw[a56,jO,fH,Rm,Mm,jM]
 show(_ ^^ (_&&ζ.any λr=>(F8 sw r).testBit k))=_
 cases decide (k<(Al sw).length) <;> cases ζ.any (λr=>(F8 sw r).testBit k) <;> rfl
end Pn
namespace L2
open PySem PySem.Spec PyProof.Rows
section
variable {P:a_}{w:bB}{K:ac}{mg:Str->Option am}{base:Heap}{x q:Str}{st:Stmt}{f:Addr}{d:bj}{ps:List Str}
def bt2(K:ac)(x q:Str)(st:Stmt)(f:Addr):Prop:=∃d,Fun K x q st f d
structure bt5 (K:ac) (q:Str) (st:Stmt) (f:Addr):Prop where
 at_:dw K mainGlobals q=some (some (.ref f))
 d:bt2 K q q st f
structure MetD (K:ac) (x q:Str) (st:Stmt) (f:Addr):Prop where
 fn:dF K (.ref f)=true
 d:bt2 K x q st f
def top_mk{oc:am}{od an:Option Addr}{osl:Array (Option am)}{kV doc pm θ ct:am}(a:dw K mainGlobals q=some (some (.ref f)))(l:K.lookup f=some ⟨oc,od,.func (cC q q (B6 st) (Bl st) (Aq st) .none kV doc pm an θ ct),osl⟩)(c:dE K θ q=true)(k:bF K (.ref f)=true):bt5 K q st f:=⟨a,_,Pf l c k⟩
def met_mk{oc:am}{od an:Option Addr}{osl:Array (Option am)}{kV doc pm θ ct:am}(l:K.lookup f=some ⟨oc,od,.func (cC x q (B6 st) (Bl st) (Aq st) .none kV doc pm an θ ct),osl⟩)(c:dE K θ q=true)(k:bF K (.ref f)=true)(i:dF K (.ref f)=true):MetD K x q st f:=⟨i,_,Pf l c k⟩
structure DOk (K:ac) (mg:Str->Option am) (q:Str) (st:Stmt) (f:Addr) (d:bj) (ps:List Str):Prop where
 F:FunD K q q st f d .none
 b:Binds K d ps []
 m:mg q=some (.ref f)
structure MOk (K:ac) (x q:Str) (st:Stmt) (f:Addr) (d:bj) (ps:List Str):Prop where
 F:FunD K x q st f d .none
 b:Binds K d ps []
 i:dF K (.ref f)=true
def MetD.ok(D:MetD K x q st f)(hb:∀kV doc pm an θ ct us,us.length=ps.length->h9 (cC x q (B6 st) (Bl st) (Aq st) .none kV doc pm an θ ct) ⟨us,[]⟩=pure (ps.zip us)):∃d,MOk K x q st f d ps:=by
 obtain⟨a,d,F⟩:=D
 exact⟨d,F.toD,F.binds hb,a⟩
def bw3{i:FI}(h2:i.ds=[])(b:Binds K i.fd i.ps []):∀j,j<=i.dfs.length->Binds K i.fd i.ps (i.ds.drop j):=λj _=>by
 rw[h2,List.drop_nil];exact b
def one{C:Addr}{i:FI}{m:Str}{k:Nat}(h:MetIn P w K mg base k m ⟨C,i⟩):∀mi∈[(⟨C,i⟩:MI)],MetIn P w K mg base k m mi:=λmi hm=>by
 rw[aH] at hm
 exact hm▸h
end
structure Df where
 x:Str
 q:Str
 st:Stmt
 N:List Str
 np:Nat
 lv:Nat
def Df.ps(d:Df):List Str:=d.N.take d.np
abbrev Ca(D:Df)(f:Addr)(d:bj)(s:Sp):FI:=⟨f,d,D.ps,D.lv,s,[],[]⟩
def ScOk(N P:List Str)(sc:Scope):Prop:=(sc.kind=.function/\sc.isCoroutine=false/\sc.isGenerator=false)/\N.Nodup/\N.take P.length=P/\(∀x∈P,sc.names.lookup x=some .local\/sc.names.lookup x=some .cell)/\(∀y∈sc.names,y.2≠.free)/\Ol N sc=true
noncomputable instance (N P:List Str) (sc:Scope):Decidable (ScOk N P sc):=by unfold ScOk;infer_instance
def ScOk.fn{N P:List Str}{sc:Scope}(h:ScOk N P sc):C9 N P sc:=⟨h.1.1,h.1.2.1,h.1.2.2,h.2.1,h.2.2.1,h.2.2.2.1,h.2.2.2.2.1⟩
structure Ent where
 lv:Nat
 x:Str
 g:GB
def gbT(es:List Ent)(n:Nat):List (Str×GB):=es.filterMap λe=>if e.lv<=n then some (e.x,e.g) else none
def Ni(P:a_)(w:bB)(K:ac)(mg:Str->Option am)(base:Heap)(es:List Ent)(bl:List Str)(n:Nat):Prop:=∀m,m<n->Tab P w K mg base m (gbT es m) bl
def AllE(P:a_)(w:bB)(K:ac)(mg:Str->Option am)(base:Heap)(es:List Ent)(bl:List Str):List Ent->Prop
 |[]=>True
 |e::r=>(Ni P w K mg base es bl e.lv->GBIn P w K mg base e.lv e.x e.g)/\AllE P w K mg base es bl r
section
variable {P:a_}{w:bB}{K:ac}{mg:Str->Option am}{base:Heap}{es:List Ent}{bl:List Str}{f:Nat->Addr}{d:Nat->bj}
theorem AllE.app:∀{a b},AllE P w K mg base es bl a->AllE P w K mg base es bl b->AllE P w K mg base es bl (a++b)
 |[],_,_,h=>h
 |_::_,_,h,g=>⟨h.1,AllE.app h.2 g⟩
theorem AllE.at_:∀{a} {e},AllE P w K mg base es bl a->e∈a->Ni P w K mg base es bl e.lv->GBIn P w K mg base e.lv e.x e.g
 |[],_,_,he=>by cases he
 | _::_,_,h,he=>by
  rcases List.mem_cons.mp he with rfl|he
  .exact h.1
  .exact AllE.at_ h.2 he
def a63(hz:∀x∈bl,mg x=none)(h:AllE P w K mg base es bl es)(n:Nat):Tab P w K mg base n (gbT es n) bl:=by
 induction n using Nat.strongRecOn with
 |ind n ih=>
  refine⟨λx g hx=>?_,hz⟩
  obtain⟨e,he,q⟩:=List.mem_filterMap.mp hx
  split at q
  .rename_i hl
   cases q
   exact(h.at_ he λm hm=>ih m (aR hm hl)).mono hl
  .cases q
def OkD(K:ac)(D:Df)(es:List Ent)(bl:List Str)(f:Addr)(d:bj)(s:Sp):Prop:=∀P w mg base dV,FunD K D.x D.q D.st f d dV->Ni P w K mg base es bl D.lv->FnOk P w K mg base CX0 D.lv f d D.ps s
def OkG(P:a_)(w:bB)(K:ac)(mg:Str->Option am)(base:Heap)(D:Df)(es:List Ent)(bl:List Str)(f:Addr)(d:bj)(s:Sp):Prop:=Ni P w K mg base es bl D.lv->FnOk P w K mg base CX0 D.lv f d D.ps s
def okD{D:Df}{f:Addr}{d:bj}{s:Sp}{k n:Nat}{t:DS}(hl:D.lv=k+1)(c:ScOk D.N D.ps (Aq D.st))(rd:wSs n (Rs K D.N (Aq D.st) (gbT es k) bl) (Bl D.st)=t)(len:∀vs H Q E,s vs H Q E->vs.length=D.ps.length)(body:∀vs H Q E,s vs H Q E->t (Ur Q λ_ _=>False) (Dm D.N vs) H):OkD K D es bl f d s:=λ_ _ _ _ _ F T=>by
 rw[hl] at T ⊢
 exact F.okW0 c.fn c.2.2.2.2.2 (T k (dB k)) rd len body
def A0{D:Df}{f:Addr}{d:bj}{s:Sp}(t:DS)(body:∀vs H Q E,s vs H Q E->vs.length=D.ps.length/\t (Ur Q λ_ _=>False) (Dm D.N vs) H)(hl:D.lv=D.lv-1+1:=by rfl)(c:ScOk D.N D.ps (Aq D.st):=by decide +kernel)(rd:wSs 40 (Rs K D.N (Aq D.st) (gbT es (D.lv-1)) bl) (Bl D.st)=t:=by kernel_rfl):OkD K D es bl f d s:=okD hl c rd (λvs H Q E h=>(body vs H Q E h).1) λvs H Q E h=>(body vs H Q E h).2
def BtD(D:Df)(d:bj):Prop:=∀s us,us.length=D.ps.length->lC s d ⟨us,[]⟩ (D.ps.zip us)
def AllG(K:ac)(mg:Str->Option am)(f:Nat->Addr)(d:Nat->bj):Nat->List Df->Prop
 |_,[]=>True
 |k,D::r=>(DOk K mg D.q D.st (f k) (d k) D.ps/\BtD D (d k))/\AllG K mg f d (k+1) r
theorem AllG.get:∀{L} {k} j {D},AllG K mg f d k L->L[j]?=some D->DOk K mg D.q D.st (f (k+j)) (d (k+j)) D.ps/\BtD D (d (k+j))
 |[],_,_,_,_,e=>by simp at e
 |_::_,_,0,_,h,e=>by cases e;exact h.1
 | _::_,k,j+1,_,h,e=>by
  rw[show k+(j+1)=k+1+j by omega]
  exact AllG.get j h.2 e
def ba7(K:ac):List Df->Prop
 |[]=>True
 |D::r=>(∃a,bt5 K D.q D.st a)/\ba7 K r
def W1(D:Df):Prop:=∀kV doc pm an θ ct us,us.length=D.ps.length->h9 (cC D.x D.q (B6 D.st) (Bl D.st) (Aq D.st) .none kV doc pm an θ ct) ⟨us,[]⟩=pure (D.ps.zip us)
def bt0:List Df->Prop
 |[]=>True
 |D::r=>(D.x=D.q/\W1 D)/\bt0 r
theorem AllG.congr{f':Nat->Addr}{d':Nat->bj}:∀{L} {k},(∀n,k<=n->f' n=f n/\d' n=d n)->AllG K mg f d k L->AllG K mg f' d' k L
 |[],_,_,_=>aZ
 |_::_,k,e,h=>⟨by rw[(e k (af _)).1,(e k (af _)).2];exact h.1,AllG.congr (λn hn=>e n (by omega)) h.2⟩
theorem Xl{h:Heap}(d₀:bj)(X:K.In h)(G:h.Ns mainGlobals mg):∀{L} k,ba7 K L->bt0 L -> ∃f d,AllG K mg f d k L
 |[],_,_,_=>⟨λ_=>0,λ_=>d₀,aZ⟩
 | D::r,k,⟨⟨a,q⟩,t⟩,⟨⟨e,b⟩,bs⟩=>by
  obtain⟨f,d,g⟩:=Xl d₀ X G (k+1) t bs
  obtain⟨m,d0,F⟩:=q
  have b:=b
  unfold W1 at b
  rw[e] at b
  have g0:DOk K mg D.q D.st a d0 D.ps/\BtD D d0:=⟨⟨F.toD,F.binds b,h7 X G m⟩,by
   obtain⟨oc,od,kV,doc,pm,an,θ,ct,osl,rfl,_⟩:=F.ex
   exact λs us hl=>.of_eq (b _ _ _ _ _ _ us hl)⟩
  refine⟨λn=>if n=k then a else f n,λn=>if n=k then d0 else d n,⟨?_,?_⟩⟩
  .simp only[if_true];exact g0
  .exact AllG.congr (λn hn=>by rw[if_neg (by omega),if_neg (by omega)];exact⟨rfl,rfl⟩) g
theorem AllG.pre:∀{a b} {k},AllG K mg f d k (a++b)->AllG K mg f d k a
 |[],_,_,_=>aZ
 |_::_,_,_,h=>⟨h.1,AllG.pre h.2⟩
theorem OkD.g{D:Df}{a:Addr}{fd:bj}{s:Sp}(h:OkD K D es bl a fd s)(g:DOk K mg D.q D.st a fd D.ps)(e:D.x=D.q:=by rfl):OkG P w K mg base D es bl a fd s:=λT=>h _ _ _ _ _ (by rw[e];exact g.F) T
def fnE(f:Nat->Addr)(d:Nat->bj):Nat->List (Df×Sp)->List Ent
 |_,[]=>[]
 |k,p::r=>⟨p.1.lv,p.1.q,.fn (Ca p.1 (f k) (d k) p.2)⟩::fnE f d (k+1) r
def ac9(P:a_)(w:bB)(K:ac)(mg:Str->Option am)(base:Heap)(es:List Ent)(bl:List Str)(f:Nat->Addr)(d:Nat->bj):Nat->List (Df×Sp)->Prop
 |_,[]=>True
 |k,p::r=>OkG P w K mg base p.1 es bl (f k) (d k) p.2/\ac9 P w K mg base es bl f d (k+1) r
theorem Xk:∀{L} {k},AllG K mg f d k (L.map (·.1))->ac9 P w K mg base es bl f d k L->AllE P w K mg base es bl (fnE f d k L)
 |[],_,_,_=>aZ
 |_::_,_,g,o=>⟨λT=>⟨g.1.1.m,g.1.1.F.kp,o.1 T,af _,bw3 rfl g.1.1.b,.nil⟩,Xk g.2 o.2⟩
def AllM(K:ac)(c:Addr)(f:Nat->Addr)(d:Nat->bj):Nat->List Df->Prop
 |_,[]=>True
 |k,D::r=>(MOk K D.x D.q D.st (f k) (d k) D.ps/\Mn K c D.x (f k))/\AllM K c f d (k+1) r
theorem AllM.get{c:Addr}:∀{L} {k} j {D},AllM K c f d k L->L[j]?=some D->MOk K D.x D.q D.st (f (k+j)) (d (k+j)) D.ps/\Mn K c D.x (f (k+j))
 |[],_,_,_,_,e=>by simp at e
 |_::_,_,0,_,h,e=>by cases e;exact h.1
 | _::_,k,j+1,_,h,e=>by
  rw[show k+(j+1)=k+1+j by omega]
  exact AllM.get j h.2 e
theorem AllM.congr{c:Addr}{f':Nat->Addr}{d':Nat->bj}:∀{L} {k},(∀n,k<=n->f' n=f n/\d' n=d n)->AllM K c f d k L->AllM K c f' d' k L
 |[],_,_,_=>aZ
 |_::_,k,e,h=>⟨by rw[(e k (af _)).1,(e k (af _)).2];exact h.1,AllM.congr (λn hn=>e n (by omega)) h.2⟩
def Re(K:ac)(c:Addr):List Df->Prop
 |[]=>True
 |D::r=>(∃a,bR K (.ref c) D.x=some (some (.ref a))/\MetD K D.x D.q D.st a)/\Re K c r
def a69:List Df->Prop
 |[]=>True
 |D::r=>W1 D/\a69 r
theorem Ka{c:Addr}(d₀:bj):∀{L} k,Re K c L->a69 L -> ∃f d,AllM K c f d k L
 |[],_,_,_=>⟨λ_=>0,λ_=>d₀,aZ⟩
 | D::r,k,⟨⟨a,i,q⟩,t⟩,⟨b,bs⟩=>by
  obtain⟨f,d,g⟩:=Ka d₀ (k+1) t bs
  obtain⟨d0,g0⟩:=q.ok b
  refine⟨λn=>if n=k then a else f n,λn=>if n=k then d0 else d n,⟨?_,?_⟩⟩
  .simp only[if_true];exact⟨g0,i,g0.i,g0.F.kp⟩
  .exact AllM.congr (λn hn=>by rw[if_neg (by omega),if_neg (by omega)];exact⟨rfl,rfl⟩) g
def AllC(mg:Str->Option am)(u:Nat->am):Nat->List (Str×V)->Prop
 |_,[]=>True
 |k,c::r=>(mg c.1=some (u k)/\RelV c.2 (u k))/\AllC mg u (k+1) r
theorem AllC.congr{u u':Nat->am}:∀{L} {k},(∀n,k<=n->u' n=u n)->AllC mg u k L->AllC mg u' k L
 |[],_,_,_=>aZ
 |_::_,k,e,h=>⟨by rw[e k (af _)];exact h.1,AllC.congr (λn hn=>e n (by omega)) h.2⟩
def ad1(K:ac):List (Str×V)->Prop
 |[]=>True
 |(x,v)::r=>(∃u,dw K mainGlobals x=some (some u)/\RelV v u)/\ad1 K r
def con_mk{x:Str}{v:V}{u:am}(a:dw K mainGlobals x=some (some u))(r:RelV v u):∃u,dw K mainGlobals x=some (some u)/\RelV v u:=⟨u,a,r⟩
theorem Xj{h:Heap}(X:K.In h)(G:h.Ns mainGlobals mg):∀{L} k,ad1 K L -> ∃u,AllC mg u k L
 |[],_,_=>⟨λ_=>.none,aZ⟩
 | c::r,k,⟨⟨v,i,q⟩,t⟩=>by
  obtain⟨u,g⟩:=Xj X G (k+1) t
  refine⟨λn=>if n=k then v else u n,⟨?_,?_⟩⟩
  .simp only[if_true];exact⟨h7 X G i,q⟩
  .exact AllC.congr (λn hn=>if_neg (by omega)) g
def bc9(u:Nat->am):Nat->List (Str×V)->List Ent
 |_,[]=>[]
 |k,c::r=>⟨0,c.1,.val c.2 (u k)⟩::bc9 u (k+1) r
theorem Ri{u:Nat->am}:∀{L} {k},AllC mg u k L->AllE P w K mg base es bl (bc9 u k L)
 |[],_,_=>aZ
 |_::_,_,h=>⟨λ_=>h.1,Ri h.2⟩
def ba8(K:ac):List Str->Prop
 |[]=>True
 |x::r=>dw K mainGlobals x=some none/\ba8 K r
theorem Xm{h:Heap}(X:K.In h)(G:h.Ns mainGlobals mg):∀{L},ba8 K L -> ∀x∈L,mg x=none
 |[],_,_,hx=>by cases hx
 | _::_,z,x,hx=>by
  rcases List.mem_cons.mp hx with rfl|hx
  .exact PySem.W.mg_none_of X G z.1
  .exact Xm X G z.2 x hx
structure Rh (K:ac) (x:Str) (c f:Addr):Prop where
 a:dw K mainGlobals x=some (some (.ref c))
 i:bR K (.ref c) "__init__"=some (some (.ref f))
 kp:bF K (.ref c)=true
 mm:dJ K c=true
 cl:Cls K c
def own_mk{x:Str}{c f:Addr}(a:dw K mainGlobals x=some (some (.ref c)))(i:bR K (.ref c) "__init__"=some (some (.ref f)))(k:bF K (.ref c)=true)(m:dJ K c=true)(pg:ge K c cQ=true)(hd:gX K c=true)(po:i9 K c=true)(sa:bR K (.ref c) "__setattr__"=some (some (.builtin "object.__setattr__"))):Rh K x c f:=⟨a,i,k,m,⟨pg,hd,po,sa⟩⟩
structure On (K:ac) (D:Df) (f:Addr) (d:bj) (vs:List V) (us:List am):Prop where
 F:∃dV,FunD K D.x D.q D.st f d dV
 b:∀j,j<=vs.length->Binds K d D.ps (us.drop j)
 w:Vals vs us
 i:dF K (.ref f)=true
def ini0{D:Df}{f:Addr}{oc:am}{od an:Option Addr}{osl:Array (Option am)}{kV doc pm θ ct:am}(b:W1 D)(l:K.lookup f=some ⟨oc,od,.func (cC D.x D.q (B6 D.st) (Bl D.st) (Aq D.st) .none kV doc pm an θ ct),osl⟩)(c:dE K θ D.q=true)(k:bF K (.ref f)=true)(i:dF K (.ref f)=true):∃d,On K D f d [] []:=
 ⟨_,⟨_,(Pf l c k).toD⟩,λj _=>by rw[List.drop_nil];exact(Pf l c k).binds b,.nil,i⟩
def a70(D:Df)(ds:List am):Prop:=∀T kV doc pm an θ ct us,us.length+ds.length=D.ps.length -> ∃k,h9 (cC D.x D.q (B6 D.st) (Bl D.st) (Aq D.st) (.ref T) kV doc pm an θ ct) ⟨us,[]⟩=seqItems? (.ref T) >>= k/\k (some #[.none])=pure (D.ps.zip (us++ds))
def ini1{D:Df}{f T:Addr}{oc tc:am}{od an td:Option Addr}{osl ts:Array (Option am)}{tn:Nat}{kV doc pm θ ct:am}(b0:a70 D [])(b1:a70 D [.none])(hm:0<D.np/\D.np<=D.N.length)(l:K.lookup f=some ⟨oc,od,.func (cC D.x D.q (B6 D.st) (Bl D.st) (Aq D.st) (.ref T) kV doc pm an θ ct),osl⟩)(c:dE K θ D.q=true)(k:bF K (.ref f)=true)(i:dF K (.ref f)=true)(ld:K.lookup T=some ⟨tc,td,.seq #[.none] tn,ts⟩):∃d,On K D f d [.non] [.none]:=by
 have hl:D.ps.length=D.np:=by unfold Df.ps;rw[aF];omega
 refine⟨_,⟨_,az6 l c k⟩,λj hj=>?_,.cons rfl .nil,i⟩
 match j,hj with
 |0,_=>exact Jk (D.np-1) rfl ld rfl (by rw[hl,List.drop_zero,bW];omega) λus e=>b1 T _ _ _ _ _ _ us (by rw[hl,bW];omega)
 |1,_=>exact Jk D.np rfl ld rfl (by rw[hl];rfl) λus e=>b0 T _ _ _ _ _ _ us (by rw[hl];exact e)
def Um{x:Str}{c:Addr}{D:Df}{f:Addr}{d:bj}{vs:List V}{us:List am}{s:Sp}{h:Heap}(X:K.In h)(G:h.Ns mainGlobals mg)(o:Rh K x c f)(i:On K D f d vs us)(ok:OkD K D es bl f d s)(T:Ni P w K mg base es bl (D.lv+1)):ClsIn P w K mg base (D.lv+1) x c (some ⟨f,d,D.ps,D.lv,s,vs,us⟩):=
 let⟨_,F⟩:=i.F
 ⟨h7 X G o.a,o.kp,o.mm,o.i,i.i,⟨F.kp,ok _ _ _ _ _ F λm h=>T m (gU h),fe _,i.b,i.w⟩,af _⟩
def al6(c:Addr)(f:Nat->Addr)(d:Nat->bj):Nat->List (Df×Sp)->List Ent
 |_,[]=>[]
 |k,p::r=>⟨p.1.lv,"", .met p.1.x [⟨c,Ca p.1 (f k) (d k) p.2⟩]⟩::al6 c f d (k+1) r
def ad0(K:ac)(es:List Ent)(bl:List Str)(f:Nat->Addr)(d:Nat->bj):Nat->List (Df×Sp)->Prop
 |_,[]=>True
 |k,p::r=>OkD K p.1 es bl (f k) (d k) p.2/\ad0 K es bl f d (k+1) r
def Fl{c a:Addr}{e:bj}{D:Df}{s:Sp}{n:Nat}(cl:Cls K c)(g:MOk K D.x D.q D.st a e D.ps/\Mn K c D.x a)(ok:OkD K D es bl a e s)(h:D.lv<=n)(T:Ni P w K mg base es bl n):MetIn P w K mg base n D.x ⟨c,Ca D a e s⟩:=⟨cl,g.2,g.1.F.kp,ok _ _ _ _ _ g.1.F λm q=>T m (aR q h),h,bw3 rfl g.1.b,.nil⟩
theorem Gw{c:Addr}(cl:Cls K c):∀{L} {k},AllM K c f d k (L.map (·.1))->ad0 K es bl f d k L->AllE P w K mg base es bl (al6 c f d k L)
 |[],_,_,_=>aZ
 |_::_,_,g,o=>⟨λT=>one (Fl cl g.1 o.1 (af _) T),Gw cl g.2 o.2⟩
def AllN(K:ac)(c:Addr):List Str->Prop
 |[]=>True
 |x::r=>bR K (.ref c) x=some none/\AllN K c r
theorem AllN.all{c:Addr}:∀{L},AllN K c L -> ∀x∈L,NoAttr K c x
 |[],_,_,hx=>by cases hx
 | _::_,z,x,hx=>by
  rcases List.mem_cons.mp hx with rfl|hx
  .exact z.1
  .exact AllN.all z.2 x hx
end
section
variable {P:List am->Prop}
@[elab_as_elim] theorem len1 (h:∀a,P [a]):∀us,us.length=1->P us
 |[a],_=>h a
@[elab_as_elim] theorem len2 (h:∀a b,P [a,b]):∀us,us.length=2->P us
 |[a,b],_=>h a b
@[elab_as_elim] theorem len3 (h:∀a b c,P [a,b,c]):∀us,us.length=3->P us
 |[a,b,c],_=>h a b c
@[elab_as_elim] theorem az9 (h:∀a b c d,P [a,b,c,d]):∀us,us.length=4->P us
 |[a,b,c,d],_=>h a b c d
@[elab_as_elim] theorem a00 (h:∀a b c d e f,P [a,b,c,d,e,f]):∀us,us.length=6->P us
 |[a,b,c,d,e,f],_=>h a b c d e f
end
end L2
namespace K35
open PySem L2
def My:0<=sizeLine:=by decide
def cd8:1<=sizeLine:=by decide
def cd9:2<=sizeLine:=by decide
def ce0:3<=sizeLine:=by decide
def ce1:4<=sizeLine:=by decide
def ce2:1000<sizeLine:=by decide
def ce3{a b:Nat}:a<=a/\b<=b:=⟨af _,af _⟩
set_option genInjectivity false in
set_option genSizeOfSpec false in
structure Adr where
 f:Nat->Addr
 d:Nat->bj
 u:Nat->am
 f_zap:Addr
 d_zap:bj
 f_zav:Addr
 d_zav:bj
 f_zam:Addr
 d_zam:bj
 c_zcf:Addr
 m_zcf:Nat->Addr
 e_zcf:Nat->bj
 c_zcg:Addr
 m_zcg:Nat->Addr
 e_zcg:Nat->bj
 c_zce:Addr
 m_zce:Nat->Addr
 e_zce:Nat->bj
end K35
namespace K35
open PySem L2 Pn
structure bc1 (K:ac) (C:Addr):Prop where
 cl:Cls K C
 na:∀f∈(["settings","tuples","numbers","sets","kept_rules","bars","free"]:List Str),NoAttr K C f
def Lg(K:ac)(f:Addr):Bool:=match K.lookup f with
 | some ⟨_,_,.func fn,_⟩=>(match fn.code with
  |.ref c=>dQ K c 299
  |_=>false)
 |_=>false
structure Am (K:ac) (t:Adr):Prop where
 pf:bc1 K t.c_zce
 pc:Cls K t.c_zcf
 pr:NoAttr K t.c_zcf "records"
 bc:Cls K t.c_zcg
 bp:NoAttr K t.c_zcg "panel"
 bk:NoAttr K t.c_zcg "kept"
 ks_place_key:eI K (.ref (t.m_zcf 14)) "__get__"=some (some (.builtin "function.__get__"))
 kt_place_key:fJ K (.ref (t.m_zcf 14))=some false
 lam:Lg K (t.f 17)=true
def Ci(ns:List Int)(k:Nat):Int:=ns.getD k 0
def Bz(c k:Int):Int:=
 if c%2=0/\c/2^(27*k+1).toNat≠0/\c/2^(27*k+1).toNat ≠ -1 then cD (c/2^(27*k+1).toNat) 134217727
 else
  let n:=(c+7919*k)*48271%2147483647
  let m:=n*n%2147483629
  m*(m+3)%2147483587/32
def okB(sw rule:Sw):Prop:=(rule.map (·.1)).Nodup/\∀e∈rule,Iw sw e
abbrev nO(l:List Nat):HO:=.lst (l.map λn:Nat=>V.int (n:Int))
def Mr:List Nat->Nat->List Nat
 |[],_=>[]
 |s::r,n=>Mr r (n/s)++[n%s]
def Rv(sw:Sw)(n:Nat):List Nat:=Mr (sw.map (·.2.length)).reverse n
def Gc(sw:Sw)(ζ:List Sw)(n:Nat):Bool:=ζ.any λr=>(F8 sw r).testBit n
def An(sw:Sw)(ζ:List Sw):List Nat:=(aV (Al sw).length).filter λn=>!Gc sw ζ n
def a67(sg:Str)(lo:Nat)(ws:List Str):Prop:=ws.Nodup/\∀z∈ws,1<=z.length/\z.length<=lo/\∀c∈z.cps.toList,c∈sg.cps.toList
structure Rc where
 k:Str
 p:Str
 r:Int
 c:TK
def rcT(x:Rc):TK:=.tup [.at_ (.inr x.k),.at_ (.inr x.p),.at_ (.inl x.r),x.c]
abbrev Tr:=List (Str×Rc)
def RcAt(H:Hp)(a:Addr)(x:Rc):Prop:=∃v,H a=some (.tup [.str x.k,.str x.p,.int x.r,v])/\TkAt H x.c v
def Up(T:Tr):Prop:=∃rk:Str->Nat,∀n x,T.lookup n=some x->n ≠ "" /\ (x.p="" \/ ((T.lookup x.p).isSome=true/\rk x.p<rk n))
def okC(x:TK):Prop:=Ap x<=2/\∀i,x≠.at_ (.inl i)
def Ba(T:Tr):Prop:=(T.map (·.1)).Nodup/\T.length<=8/\∀x∈T,okC x.2.c
abbrev kT(e:(Str×Rc)×Addr):Key×V:=(.inr e.1.1,.ref e.2)
def TrAt(ok:Addr->Prop)(H:Hp)(d:Addr)(T:Tr):Prop:=∃es:List ((Str×Rc)×Addr),es.map (·.1)=T/\Own ok H d (.dK (es.map kT))/\∀e∈es,RcAt H e.2 e.1.2
def PlAt(C:Addr)(ok:Addr->Prop)(H:Hp)(p:Addr)(T:Tr):Prop:=∃dx d,Own ok H p (.ins C dx [("records", .ref d)])/\TrAt ok H d T
def ab3(T:Tr)(n:Str):TK:=((T.lookup n).map rcT).getD (.tup [])
def vkT(T:Tr):TK:=.tup ((Bq ltS (T.map (·.1))).map λn=>.tup [.at_ (.inr n),ab3 T n])
abbrev Mk:=TK×Nat
noncomputable def Lr(gs:List Mk)(p:Mk):List Mk:=if p.1∈gs.map (·.1) then gs.map λg=>if g.1=p.1 then(g.1,g.2 ||| p.2) else g else gs++[p]
noncomputable def Cr:List Mk->List Mk
 |[]=>[]
 |p::r=>Lr (Cr r) p
def LtM(a b:Nat):Prop:=∃i,a.testBit i=true/\∀j,j<=i->b.testBit j=false
structure Cn (ns:List Nat) (f:Nat->TK) (gs:List Mk):Prop where
 asc:gs.Pairwise λa b=>LtM a.2 b.2
 bit:∀g∈gs,∀j,g.2.testBit j=true↔j∈ns/\f j=g.1
 pos:∀g∈gs,∃j∈ns,f j=g.1
 cov:∀n∈ns,∃g∈gs,g.1=f n
structure WorldAt (H:Hp) (W:Addr) (sw:Sw) (ζ:List Sw) (l k f:Addr):Prop where
 at_:H W=some (.lst [.ref l,.ref k,.ref f])
 sws:SwIn any H l sw
 ok:okSw sw
 rl:RulesAt any H k ζ
 rok:∀r∈ζ,E3 sw r
 few:ζ.length<=8
 fr:H f=some (nO (An sw ζ))
 ne:An sw ζ≠[]
abbrev kF(g:Nat->Addr)(n:Nat):Key×V:=(.inl (n:Int),.ref (g n))
structure FoundAt (H:Hp) (F:Addr) (ns:List Nat) (g:Nat->Addr) (tr:Nat->Tr):Prop where
 at_:H F=some (.dK (ns.map (kF g)))
 one:∀n∈ns,TrAt any H (g n) (tr n)/\Ba (tr n)
 few:∃Ts:List Tr,Ts.length<=5/\∀n∈ns,tr n∈Ts
def stT(T:Tr)(n:Str):Option TK:=(T.lookup n).map rcT
def bt4(H:Hp):Option TK->V->Prop
 |none,v=>v=.non
 |some x,v=>(∃a,v=.ref a)/\TkAt H x v
def RwAt(C:Addr)(H:Hp)(l:Addr)(rs:List ((Nat×Tr)×Addr×Addr)):Prop:=H l=some (.lst (rs.map λr=>.ref r.2.2))/\∀r∈rs,H r.2.2=some (.tup [.int (r.1.1:Int),.ref r.2.1])/\PlAt C any H r.2.1 r.1.2/\Ba r.1.2
def a71(C:Addr)(H:Hp)(D:Addr)(gs:List Mk):Prop:=∃rs,RwAt C H D rs/\(rs.map λr=>(vkT r.1.2,r.1.1))=gs
def Ms(k:TK)(n:Str):Prop:=∃T,Ba T/\vkT T=k/\(stT T n).isSome=true
def b92:Option Nat->V
 |none=>.non
 |some n=>.int (n:Int)
inductive Bel (T:Tr) (n:Str):Str->Prop
 |one {z:Str}{x:Rc} (h:T.lookup z=some x) (e:x.p=n):Bel T n z
 |more {z:Str}{x:Rc} (h:T.lookup z=some x) (b:Bel T n x.p):Bel T n z
def Ch(T:Tr)(p z:Str):Prop:=∃x,T.lookup z=some x/\x.p=p
def pT(T:Tr)(z:Str):Str:=((T.lookup z).map (·.p)).getD ""
def rkT(T:Tr)(z:Str):Int:=((T.lookup z).map (·.r)).getD 0
def Fn(T:Tr):List Str:=Bq (ltK (rkT T)) (T.map (·.1))
def chz(T:Tr)(zs:List Str)(p:Str):List Str:=zs.filter λz=>decide (pT T z=p)
def UnAt(H:Hp)(u:Addr)(T:Tr):Prop:=∃kvs,H u=some (.dK kvs)/\∀p,match Bg kvs (.inr p) with
 |none=>chz T (Fn T) p=[]
 |some v=>∃l,v=.ref l/\H l=some (Ay (chz T (Fn T) p))
def b78(H:Hp)(D:Addr)(zs:List Str):Prop:=∃es:List ((Int×Str)×Addr),es.map (·.1.2)=zs/\H D=some (.lst (es.map λe=>.ref e.2))/\∀e∈es,H e.2=some (.tup [.int e.1.1,.str e.1.2])
noncomputable def hsB(n:Str)(g:Mk):Bool:=@decide (Ms g.1 n) (eX _)
def UpK(k:TK):Prop:=∃T,Ba T/\vkT T=k/\Up T
def Zc(k:TK)(n z:Str):Prop:=∃T,Ba T/\vkT T=k/\Bel T n z
def BnAt(H:Hp)(D:Addr)(gs:List Mk)(n:Str):Prop:=∃es:List ((Str×Nat)×Addr),(es.map (·.1.1)).Pairwise (λa b=>ltS a b=true)/\(∀z,z∈es.map (·.1.1) ↔ ∃g∈gs,Ms g.1 n/\Zc g.1 n z)/\es.length<=40/\H D=some (.lst (es.map λe=>.ref e.2))/\∀e∈es,H e.2=some (.tup [.str e.1.1,.int (e.1.2:Int)])/\∀j,e.1.2.testBit j=true ↔ ∃g∈gs,Ms g.1 n/\Zc g.1 n e.1.1/\g.2.testBit j=true
def b81(C:Addr)(H:Hp)(p:Addr)(sw:Sw):Prop:=∃l s,SelfAt C any H p l s/\TupsAt any H l (Al sw)
def BqAt(t:Adr)(H:Hp)(b:Addr)(sw:Sw)(gs:List Mk):Prop:=∃dx p l,H b=some (.ins t.c_zcg dx [("panel", .ref p),("kept", .ref l)])/\b81 t.c_zce H p sw/\a71 t.c_zcf H l gs
def thR(b:Bool)(x:Rc):TK:=if b then x.c else .tup [.at_ (.inr x.k),.at_ (.inr x.p),.at_ (.inl x.r)]
def thT(b:Bool)(T:Tr)(n:Str):TK:=((T.lookup n).map (thR b)).getD (.tup [])
noncomputable def thK(b:Bool)(n:Str)(k:TK):TK:=@dite _ (∃T,Ba T/\vkT T=k) (eX _) (λh=>thT b h.choose n) λ_=>k
noncomputable def due(b:Bool)(gs:List Mk)(n:Str):List Mk:=Cr ((gs.filter (hsB n)).map λg=>(thK b n g.1,g.2)).reverse
def PrsAt(H:Hp)(a:Addr)(gs:List Mk):Prop:=∃es:List (Mk×V×Addr),es.map (·.1)=gs/\H a=some (.lst (es.map λe=>.ref e.2.2))/\∀e∈es,H e.2.2=some (.tup [.int (e.1.2:Int),e.2.1])/\TkAt H e.1.1 e.2.1
abbrev b90:Pos:=⟨129,29,129,63⟩
def St0(H:Hp):Prop:=Tb H 299 b90 "in_order.<locals>.<lambda>" /\ ∃ob u,H 4=some (.frz ob u)/\ob.cls=.type "module" /\ ob.dict=some h_/\ob.data=.plain
section
abbrev S_:=ac->Adr->Sp
def Wo:S_:=λK t vs H Q _=>∃a ns,vs=[.ref a]/\SqL K H a (ns.map λn:Nat=>V.int (n:Int))/\(∀n∈ns,n<=1000)/\Q (.int (ab7 ns)) H
def Lv:S_:=λK t vs H Q _=>∃a ms,vs=[.ref a]/\SqL K H a (ms.map V.int)/\Q (.int (F0 ms)) H
def V7:S_:=λK t vs H Q _=>∃z lo hi,vs=[.str z,.int lo,.int hi]/\z.length<=1000/\Q (.bl (decide (lo<=(z.length:Int))&&decide ((z.length:Int)<=hi))) H
def Wd:S_:=λK t vs H Q _=>∃c,vs=[.str ⟨#[c]⟩]/\Q (.bl (Kj c)) H
def Qk:S_:=λK t vs H Q _=>∃z,vs=[.str z]/\okW z/\∀H',Same H H'->Q (.bl true) H'
def Yz:S_:=λK t vs H Q _=>∃a l,vs=[.ref a]/\SqL K H a (l.map V.str)/\okL l/\∀H',Same H H'->Q (.bl true) H'
def We:S_:=λK t vs H Q _=>∃a b w l,vs=[.ref a]/\H a=some (.tup [.str w,.ref b])/\H b=some (Ay l)/\okW w/\Ga l/\∀H',Same H H'->Q (.bl true) H'
def au0:S_:=λK t vs H Q _=>∃a sw,vs=[.ref a]/\SwIn any H a sw/\okSw sw/\∀H' d,Same H H'->SwAt (fresh H) H' d sw->Q (.ref d) H'
def as1:S_:=λK t vs H Q _=>∃d sw,vs=[.ref d]/\SwAt any H d sw/\okSw sw/\∀H' l,Same H H'->TupsAt (fresh H) H' l (Al sw)->Q (.ref l) H'
def ar7:S_:=λK t vs H Q _=>∃l rows,vs=[.ref l]/\TupsAt any H l rows/\rows.Nodup/\rows.length<=256/\∀H' n,Same H H'->NumAt (fresh H) H' n rows->Q (.ref n) H'
def as7:S_:=λK t vs H Q _=>∃d l sw,vs=[.ref d,.ref l]/\SwAt any H d sw/\TupsAt any H l (Al sw)/\okSw sw/\∀H' s,Same H H'->SetsAt (fresh H) H' s sw->Q (.ref s) H'
def Vw:S_:=λK t vs H Q _=>∃r rule,vs=[.ref r]/\RuleAt any H r rule/\(rule.map (·.1)).Nodup/\rule.length<=100/\∀H' c,Same H H'->RuleAt (fresh H) H' c rule->Q (.ref c) H'
def V3:S_:=λK t vs H Q _=>∃p l s sw,vs=[.ref p]/\SelfAt t.c_zce any H p l s/\TupsAt any H l (Al sw)/\Q (.int (Al sw).length) H
def as2:S_:=λK t vs H Q _=>∃p l s sw,vs=[.ref p]/\SelfAt t.c_zce any H p l s/\TupsAt any H l (Al sw)/\(Al sw).length<=256/\Q (.int (Rj sw)) H
def V4:S_:=λK t vs H Q _=>∃p a l s w ss sw,vs=[.ref p,.str w,.ref a]/\SelfAt t.c_zce any H p l s/\SetsAt any H s sw/\okSw sw/\H a=some (Ay ss)/\Iw sw (w,ss)/\∀H',Same H H'->Q (.int (Jt sw (w,ss))) H'
def as8:S_:=λK t vs H Q _=>∃p r l s sw rule,vs=[.ref p,.ref r]/\SelfAt t.c_zce (· ≠ r) H p l s/\TupsAt (· ≠ r) H l (Al sw)/\SetsAt (· ≠ r) H s sw/\okSw sw/\RuleAt any H r rule/\E3 sw rule/\∀H' c,Same H H'->RuleAt (fresh H) H' c rule->Q (.ref c) H'
def Oq(ok:Addr->Prop)(H:Hp)(v:V)(ζ:List Sw):Prop:=(v=.non/\ζ=[]) \/ ∃k,v=.ref k/\RulesAt ok H k ζ
def as3:S_:=λK t vs H Q _=>∃p l s ok v sw ζ,vs=[.ref p,v]/\SelfAt t.c_zce ok H p l s/\TupsAt ok H l (Al sw)/\SetsAt ok H s sw/\okSw sw /\
 Oq (λa=>¬ ok a) H v ζ/\(∀r∈ζ,E3 sw r)/\ζ.length<=8/\∀H' k,Same H H'->RulesAt (fresh H) H' k ζ->Q (.ref k) H'
def ar8:S_:=λK t vs H Q _=>∃p a dx v sw ζ,vs=[.ref p,.ref a,v]/\H p=some (.ins t.c_zce dx [])/\SwIn (· ≠ p) H a sw/\okSw sw/\Oq (· ≠ p) H v ζ/\(∀r∈ζ,E3 sw r)/\ζ.length<=8/\K9 sw ζ≠0 /\
 ∀H',(∀b o,b≠p->H b=some o->H' b=some o)->PanelAt t.c_zce (λb=>b=p\/H b=none) H' p sw ζ->Q .non H'
def Wa:S_:=λK t vs H Q _=>∃p r l s sw rule,vs=[.ref p,.ref r]/\SelfAt t.c_zce (· ≠ r) H p l s/\TupsAt (· ≠ r) H l (Al sw)/\SetsAt (· ≠ r) H s sw/\okSw sw/\RuleAt any H r rule/\okB sw rule/\∀H',Same H H'->Q (.int (ah2 sw rule)) H'
def at7:S_:=λK t vs H Q _=>∃p sw ζ,vs=[.ref p]/\PanelAt t.c_zce any H p sw ζ/\Q (.int (K9 sw ζ)) H
def ar9:S_:=λK t vs H Q _=>∃p dx,vs=[.ref p]/\H p=some (.ins t.c_zcf dx [])/\∀d,H d=none->d≠p->Q .non (upd (upd H d (.dK [])) p (.ins t.c_zcf dx [("records", .ref d)]))
def Wc:S_:=λK t vs H Q _=>∃p dx d kvs n k q r v,vs=[.ref p,.str n,.str k,.str q,.int r,v]/\H p=some (.ins t.c_zcf dx [("records", .ref d)])/\H d=some (.dK kvs)/\kvs.length<=8/\∀a,H a=none->Q .non (upd (upd H a (.tup [.str k,.str q,.int r,v])) d (.dK (Bt kvs (.inr n) (.ref a))))
def Vu:S_:=λK t vs H Q _=>∃p T,vs=[.ref p]/\PlAt t.c_zcf any H p T/\Ba T/\∀l,H l=none->Q (.ref l) (upd H l (Ay (Bq ltS (T.map (·.1)))))
def au3:S_:=λK t vs H Q _=>∃p T,vs=[.ref p]/\PlAt t.c_zcf any H p T/\∀H' q,Same H H'->PlAt t.c_zcf any H' q T->Q (.ref q) H'
def at1:S_:=λK t vs H Q _=>∃p T,vs=[.ref p]/\PlAt t.c_zcf any H p T/\Ba T/\∀H' b,Same H H'->TkAt H' (vkT T) (.ref b)->Q (.ref b) H'
def Ql:S_:=λK t vs H Q _=>∃c n:Nat,vs=[.int (c:Int),.int (n:Int)]/\Q (.bl (c.testBit n)) H
def bg1(c:Nat):Option Nat->Prop
 |some n=>c.testBit n=true/\∀j,j<n->c.testBit j=false
 |none=>c=0
def Vr:S_:=λK t vs H Q _=>∃(c:Nat)(o:Option Nat),vs=[.int (c:Int)]/\bg1 c o/\c<2^1000/\Q (b92 o) H
def Wk:S_:=λK t vs H Q _=>∃(b:Addr)(rs:List (Nat×V×Addr)),vs=[.ref b]/\St0 H/\H b=some (.lst (rs.map λr=>.ref r.2.2))/\rs.length<64/\(rs.Pairwise λa b=>∀j,¬ (a.1.testBit j=true/\b.1.testBit j=true))/\(∀r∈rs,H r.2.2=some (.tup [.int (r.1:Int),r.2.1])/\r.1≠0/\r.1<2^1000)/\∀H' D,∀rs':List (Nat×V×Addr),Op 299 H H'->St0 H'->rs'.Perm rs->(rs'.Pairwise λa b=>LtM a.1 b.1)->H' D=some (.lst (rs'.map λr=>.ref r.2.2))->Q (.ref D) H'
def Wf:S_:=λK t vs H Q _=>∃(A:Nat)(l:Addr)(rs:List ((Nat×Tr)×Addr×Addr))(ns:List Nat)(f:Nat->TK),vs=[.int (A:Int),.ref l]/\St0 H/\RwAt t.c_zcf H l rs/\(∀r∈rs,r.1.1≠0/\∀j,r.1.1.testBit j=true->A.testBit j=true/\j∈ns/\f j=vkT r.1.2)/\(∀j∈ns,j<256/\∃r∈rs,r.1.1.testBit j=true)/\(∃Ks:List TK,Ks.length<=5/\∀r∈rs,vkT r.1.2∈Ks)/\∀H' D gs,Op 299 H H'->St0 H'->a71 t.c_zcf H' D gs->Cn ns f gs->gs.length<=5->Q (.ref D) H'
def as0:S_:=λK t vs H Q _=>∃b p dx sw ζ,vs=[.ref b,.ref p]/\H b=some (.ins t.c_zcg dx [])/\PanelAt t.c_zce (· ≠ b) H p sw ζ/\∀H' l,(∀a o,a≠b->H a=some o->H' a=some o)->H' b=some (.ins t.c_zcg dx [("panel", .ref p),("kept", .ref l)])->Q .non H'
def Qh:S_:=λK t vs H Q _=>∃p l sw ζ rs ns f,vs=[.ref p,.ref l]/\St0 H/\PanelAt t.c_zce (· ≠ 299) H p sw ζ/\RwAt t.c_zcf H l rs/\(∀r∈rs,r.1.1≠0/\∀j,r.1.1.testBit j=true->(Ek sw ζ).testBit j=true/\j∈ns/\f j=vkT r.1.2)/\(∀j∈ns,j<256/\∃r∈rs,r.1.1.testBit j=true)/\(∃Ks:List TK,Ks.length<=5/\∀r∈rs,vkT r.1.2∈Ks)/\∀H' b gs,Op 299 H H'->St0 H'->BqAt t H' b sw gs->Cn ns f gs->gs.length<=5->Q (.ref b) H'
def Ea:S_:=λK t vs H Q _=>∃(a:Addr)(ns:List Int)(k:Nat),vs=[.ref a,.int k]/\SqL K H a (ns.map V.int)/\Q (.int (Ci ns k)) H
def Bn:S_:=λK t vs H Q _=>∃c k,vs=[.int c,.int k]/\0<=k/\Q (.int (Bz c k)) H
def Lu:S_:=λK t vs H Q _=>∃(c:Int)(sg:Str)(lo m:Nat),vs=[.int c,.str sg,.int lo,.int m]/\1<=lo/\lo<=12/\m<=sg.length/\1<=sg.length/\sg.length<=100/\sg.cps.toList.Nodup/\∀H' l ws,Same H H'->H l=none->H' l=some (Ay ws)->ws.length=m->a67 sg lo ws->Q (.ref l) H'
def au4:S_:=λK t vs H Q _=>∃(c:Int)(m:Nat),vs=[.int c,.int m]/\4<=m/\m<=256/\∀H' l sw,Same H H'->SwIn any H' l sw->okSw sw->Q (.ref l) H'
def Qg:S_:=λK t vs H Q _=>∃l sw,vs=[.ref l]/\SwIn any H l sw/\okSw sw/\Q (.int (Al sw).length) H
def Wi:S_:=λK t vs H Q _=>∃c l sw,vs=[.int c,.ref l]/\SwIn any H l sw/\okSw sw/\∀H' k ζ,Same H H'->RulesAt any H' k ζ->(∀r∈ζ,E3 sw r)->ζ.length<=3->Q (.ref k) H'
def Qe:S_:=λK t vs H Q _=>∃(l:Addr)(n:Nat)(sw:Sw),vs=[.ref l,.int (n:Int)]/\SwIn any H l sw/\okSw sw/\∀H' r,Same H H'->H' r=some (nO (Rv sw n))->Q (.ref r) H'
def V8:S_:=λK t vs H Q _=>∃(l k:Addr)(n:Nat)(sw:Sw)(ζ:List Sw),vs=[.ref l,.ref k,.int (n:Int)]/\SwIn any H l sw/\okSw sw/\RulesAt any H k ζ/\(∀r∈ζ,E3 sw r)/\n<(Al sw).length/\∀H',Same H H'->Q (.bl (Gc sw ζ n)) H'
def Wj:S_:=λK t vs H Q _=>∃(c:Int)(m:Nat),vs=[.int c,.int m]/\4<=m/\m<=256/\∀H' W sw ζ l k f,Same H H'->WorldAt H' W sw ζ l k f->Q (.ref W) H'
def Qj:S_:=λK t vs H Q _=>∃c,vs=[.int c]/\∀H' z,Same H H'->z.length<=60->Q (.str z) H'
def Vy:S_:=λK t vs H Q _=>∃k c,vs=[.str k,.int c]/\∀H' x v,Same H H'->TkAt H' x v->okC x->Q v H'
def Wn:S_:=λK t vs H Q _=>∃(c:Int)(v:Nat)(l:Addr)(ws:List Str),vs=[.int c,.int (v:Int),.ref l]/\H l=some (Ay ws)/\ws.Nodup/\ws.length<=8/\(∀z∈ws,z ≠ "")/\∀H' d T,Same H H'->TrAt any H' d T->Ba T->Up T->Q (.ref d) H'
def Wh:S_:=λK t vs H Q _=>∃(c:Int)(m:Nat),vs=[.int c,.int m]/\m<=8/\∀H' l ws,Same H H'->H' l=some (Ay ws)->ws.length=m->ws.Nodup->(∀z∈ws,z.length<=12/\z ≠ "")->Q (.ref l) H'
def Vz:S_:=λK t vs H Q _=>∃(c:Int)(l:Addr)(sw:Sw)(n m:Nat),vs=[.int c,.ref l,.int (n:Int),.int (m:Int)]/\SwIn any H l sw/\okSw sw/\1<=m/\∀H' v,Same H H'->v<m->Q (.int (v:Int)) H'
def Wm:S_:=λK t vs H Q _=>∃(a:Addr)(ns:List Int)(b:Bool),vs=[.ref a,.bl b]/\SqL K H a (ns.map V.int)/\∀H' L W nm F sw ζ l k f ws g tr,Same H H'->H' L=some (.lst [.ref W,.ref nm,.ref F])->H' nm=some (Ay ws)->1<=ws.length/\ws.length<=8/\(∀z∈ws,z.length<=12/\z ≠ "")->WorldAt H' W sw ζ l k f->FoundAt H' F (An sw ζ) g tr->(∀n∈An sw ζ,Up (tr n))->(∃Ts:List Tr,Ts.length<=4/\∀n∈An sw ζ,tr n∈Ts)->Q (.ref L) H'
def Qf:S_:=λK t vs H Q _=>∃d T,vs=[.ref d]/\TrAt any H d T/\Ba T/\∀H' p,Same H H'->PlAt t.c_zcf any H' p T->Q (.ref p) H'
def Qi:S_:=λK t vs H Q _=>∃W F l k f sw ζ g tr,vs=[.ref W,.ref F]/\St0 H/\WorldAt H W sw ζ l k f/\FoundAt H F (An sw ζ) g tr/\∀H' b gs,Op 299 H H'->St0 H'->BqAt t H' b sw gs->Cn (An sw ζ) (λn=>vkT (tr n)) gs->gs.length<=5->Q (.ref b) H'
def Wb:S_:=λK t vs H Q _=>∃p T n,vs=[.ref p,.str n]/\PlAt t.c_zcf any H p T/\Ba T/\Q (.bl (stT T n).isSome) H
def Vv:S_:=λK t vs H Q _=>∃p T n,vs=[.ref p,.str n]/\PlAt t.c_zcf any H p T/\Ba T/\(stT T n).isSome=true/\∀v,bt4 H (stT T n) v->Q v H
def Wl:S_:=λK t vs H Q _=>∃i,vs=[.int i]/\Q (.bl true) H
def as6:S_:=λK t vs H Q _=>∃p T n,vs=[.ref p,.str n]/\PlAt t.c_zcf any H p T/\Ba T/\(stT T n).isSome=true/\Q .non H
def as9:S_:=λK t vs H Q _=>∃p T n x,vs=[.ref p,.str n]/\PlAt t.c_zcf any H p T/\Ba T/\T.lookup n=some x/\Q (.str x.p) H
def at9:S_:=λK t vs H Q _=>∃p T n x,vs=[.ref p,.str n]/\PlAt t.c_zcf any H p T/\Ba T/\T.lookup n=some x/\Q (.int x.r) H
def at0:S_:=λK t vs H Q _=>∃p T n x,vs=[.ref p,.str n]/\PlAt t.c_zcf any H p T/\Ba T/\T.lookup n=some x/\∀q,H q=none->Q (.ref q) (upd H q (.tup [.int x.r,.str n]))
def as4:S_:=λK t vs H Q _=>∃p T,vs=[.ref p]/\PlAt t.c_zcf any H p T/\Ba T/\∀H' u,Same H H'->UnAt H' u T->Q (.ref u) H'
def V6:S_:=λK t vs H Q _=>∃p T n,vs=[.ref p,.str n]/\PlAt t.c_zcf any H p T/\Ba T/\Up T/\n ≠ "" /\ ∀H' D zs,Same H H'->b78 H' D zs->zs.Nodup->(∀z,z∈zs↔Bel T n z)->zs.length<=8->Q (.ref D) H'
def at8:S_:=λK t vs H Q _=>∃p T n,vs=[.ref p,.str n]/\PlAt t.c_zcf any H p T/\Ba T/\Up T/\(stT T n).isSome=true/\∀H' D zs,Same H H'->H' D=some (Ay zs)->zs.Nodup->(∀z,z∈zs↔Bel T n z)->zs.length<=8->Q (.ref D) H'
noncomputable def at3:S_:=λK t vs H Q _=>∃b n sw gs,vs=[.ref b,.str n]/\BqAt t H b sw gs/\gs.length<=5/\gs.filter (hsB n)≠[]/\∀H' l rs,Same H H'->RwAt t.c_zcf H' l rs->rs.length<=5->(∀r∈rs,(stT r.1.2 n).isSome=true)->(rs.map λr=>(vkT r.1.2,r.1.1))=gs.filter (hsB n)->Q (.ref l) H'
def Vt:S_:=λK t vs H Q _=>∃b n sw gs ns f,vs=[.ref b,.int ((n:Nat):Int)]/\BqAt t H b sw gs/\Cn ns f gs/\n∈ns/\n<(Al sw).length/\∀a m q T,H a=some (.tup [m,.ref q])->PlAt t.c_zcf any H q T->Ba T->vkT T=f n->Q (.ref a) H
noncomputable def au1:S_:=λK t vs H Q _=>∃b n sw gs,vs=[.ref b,.str n]/\BqAt t H b sw gs/\gs.length<=5/\(∀g∈gs,UpK g.1)/\gs.filter (hsB n)≠[]/\∀H' D,Same H H'->BnAt H' D gs n->Q (.ref D) H'
def as5:S_:=λK t vs H Q _=>∃p T n x,vs=[.ref p,.str n]/\PlAt t.c_zcf any H p T/\Ba T/\T.lookup n=some x/\∀v,TkAt H x.c v->Q v H
def V5:S_:=λK t vs H Q _=>∃p q T T',vs=[.ref p,.ref q]/\PlAt t.c_zcf any H p T/\Ba T/\PlAt t.c_zcf any H q T'/\Ba T'/\Q (.bl (decide (vkT T=vkT T'))) H
def au2:S_:=λK t vs H Q _=>∃b sw gs,vs=[.ref b]/\BqAt t H b sw gs/\gs.length<=5/\∀H' D,Same H H'->H' D=some (nO (gs.map (·.2)))->Q (.ref D) H'
def V9:S_:=λK t vs H Q _=>∃b c sw sw' gs gs',vs=[.ref b,.ref c]/\BqAt t H b sw gs/\gs.length<=5/\BqAt t H c sw' gs'/\gs'.length<=5/\∀H',Same H H'->Q (.bl (decide (gs=gs'))) H'
def V0:S_:=λK t vs H Q _=>∃b sw gs,vs=[.ref b]/\BqAt t H b sw gs/\gs.length<=5/\∀H' D zs,Same H H'->H' D=some (Ay zs)->zs.Pairwise (λa b=>ltS a b=true)->(∀z,z∈zs ↔ ∃g∈gs,Ms g.1 z)->zs.length<=40->Q (.ref D) H'
noncomputable def V2:S_:=λK t vs H Q _=>∃b n sw gs,vs=[.ref b,.str n]/\BqAt t H b sw gs/\gs.length<=5/\gs.filter (hsB n)≠[]/\∀H',Same H H'->Q (.int (F0 ((gs.filter (hsB n)).map λg=>(g.2:Int)))) H'
noncomputable def Lw:S_:=λK t vs H Q _=>∃l ps,vs=[.ref l]/\PrsAt H l ps/\ps.length<=5/\(∀p∈ps,okC p.1)/\∀H' D,Same H H'->PrsAt H' D (Cr ps.reverse)->Q (.ref D) H'
noncomputable def Vs:S_:=λK t vs H Q _=>∃b n sw gs,vs=[.ref b,.str n]/\BqAt t H b sw gs/\gs.length<=5/\gs.filter (hsB n)≠[]/\∀H' D,Same H H'->PrsAt H' D (due false gs n)->Q (.ref D) H'
noncomputable def at6:S_:=λK t vs H Q _=>∃b n sw gs,vs=[.ref b,.str n]/\BqAt t H b sw gs/\gs.length<=5/\gs.filter (hsB n)≠[]/\∀H' D,Same H H'->PrsAt H' D (due true gs n)->Q (.ref D) H'
def V1:S_:=λK t vs H Q _=>∃b n sw gs ns f,vs=[.ref b,.int ((n:Nat):Int)]/\BqAt t H b sw gs/\Cn ns f gs/\n∈ns/\n<(Al sw).length/\∀H' q T,Same H H'->PlAt t.c_zcf any H' q T->Ba T->vkT T=f n->Q (.ref q) H'
def at4:S_:=λK t vs H Q _=>∃W F l k f sw ζ g tr,vs=[.ref W,.ref F]/\St0 H/\WorldAt H W sw ζ l k f/\FoundAt H F (An sw ζ) g tr/\∀H' b gs,Op 299 H H'->St0 H'->BqAt t H' b sw gs->Cn (An sw ζ) (λn=>vkT (tr n)) gs->gs.length<=5->Q (.ref b) H'
def Vx:S_:=λK t vs H Q _=>∃(c:Int)(d nm:Addr)(T:Tr)(ws:List Str),vs=[.int c,.ref d,.ref nm]/\TrAt any H d T/\Ba T/\H nm=some (Ay ws)/\1<=ws.length/\ws.length<=8/\∀H' d' T',Same H H'->TrAt any H' d' T'->Ba T'->vkT T'≠vkT T->Q (.ref d') H'
def at5:S_:=λK t vs H Q _=>∃b c sw sw' gs,vs=[.ref b,.ref c]/\BqAt t H b sw gs/\BqAt t H c sw' gs/\gs.length<=5/\(∀g∈gs,UpK g.1)/\∀H',Same H H'->Q (.bl true) H'
def Wg:S_:=λK t vs H Q _=>∃F ns g tr gs,vs=[.ref F]/\FoundAt H F ns g tr/\ns≠[]/\ns.Nodup/\ns.length<=256/\Cn ns (λn=>vkT (tr n)) gs/\∀H',Same H H'->Q (.int (gs.length:Nat)) H'
def Y0:S_:=λK t vs H Q _=>∃b c n sw sw' gs gs' ns f f',vs=[.ref b,.ref c,.int ((n:Nat):Int)]/\BqAt t H b sw gs/\Cn ns f gs/\BqAt t H c sw' gs'/\Cn ns f' gs'/\n∈ns/\n<(Al sw).length/\n<(Al sw').length/\∀H',Same H H'->Q (.bl (decide (f n=f' n))) H'
def Qm:S_:=λK t vs H Q _=>∃(a:Addr)(ns:List Int),vs=[.ref a]/\SqL K H a (ns.map V.int)/\ns.length<=63/\St0 H/\∀H',Q (.bl true) H'
end
end K35
namespace K35
open PySem L2
noncomputable def top(i:Nat):Stmt:=PySem.Challenge.pw_manyleaf_k35_whole_two_roads_one_form.main.body.getD i (.Pass ⟨0,0,0,0⟩)
def bl:List Str:=["all","bool","dict","enumerate","int","isinstance","len","list","range","reversed","set","sorted","str","tuple","zip"]
abbrev Xb:Df:=⟨"same","Plain.same", As (top 10) 20,["self","other"],2,1⟩
abbrev ax7:Df:=⟨"classes","Book.classes", As (top 24) 9,["self"],1,1⟩
abbrev Xd:Df:=⟨"same","Book.same", As (top 24) 12,["self","other"],2,2⟩
abbrev af5:Df:=⟨"_law_cell","_law_cell", top 42,["_law_script","_law_k"],2,1⟩
abbrev ag2:Df:=⟨"_law_mix","_law_mix", top 43,["_law_cell_here","_law_k","_law_left","_law_number"],2,1⟩
abbrev ae9:Df:=⟨"_law_spelt","_law_spelt", top 44,["_law_cell_here","_law_signs","_law_longest","_law_many","_law_word","_law_k","_law_long","_law_at","_law_words","_law_steps"],4,2⟩
abbrev bb7:Df:=⟨"_law_switches","_law_switches", top 45,["_law_cell_here","_law_most","_law_letters","_law_words","_law_switches_here","_law_total_here","_law_k","_law_size"],2,3⟩
abbrev af0:Df:=⟨"_law_total","_law_total", top 47,["_law_switches_here","_law_total_here","_law_word","_law_settings"],1,1⟩
abbrev ae8:Df:=⟨"_law_rules","_law_rules", top 48,["_law_cell_here","_law_switches_here","_law_rules_here","_law_j","_law_rule","_law_k","_law_word","_law_settings","_law_bits","_law_some"],2,2⟩
abbrev ae1:Df:=⟨"_law_digits","_law_digits", top 46,["_law_switches_here","_law_number","_law_found","_law_word","_law_settings"],2,1⟩
abbrev ae0:Df:=⟨"_law_barred","_law_barred", top 49,["_law_switches_here","_law_rules_here","_law_number","_law_digits_here","_law_rule","_law_inside"],3,2⟩
abbrev af1:Df:=⟨"_law_world","_law_world", top 50,["_law_cell_here","_law_most","_law_switches_here","_law_rules_here","_law_free"],2,4⟩
abbrev af7:Df:=⟨"_law_text","_law_text", top 51,["_law_cell_here","_law_signs","_law_long"],1,2⟩
abbrev ad7:Df:=⟨"_law_content","_law_content", top 52,["_law_kind","_law_cell_here","_law_wide","_law_rows","_law_row"],2,3⟩
abbrev af8:Df:=⟨"_law_tree","_law_tree", top 53,["_law_cell_here","_law_variant_here","_law_names_here","_law_tree_here","_law_k","_law_name","_law_number","_law_kind","_law_holders","_law_rank"],3,4⟩
abbrev ae6:Df:=⟨"_law_names","_law_names", top 54,["_law_cell_here","_law_many"],2,3⟩
abbrev ad8:Df:=⟨"_law_variant","_law_variant", top 55,["_law_cell_here","_law_switches_here","_law_number","_law_many"],4,2⟩
abbrev af6:Df:=⟨"_law_made","_law_made", top 57,["_law_script","_law_much","_law_world_here","_law_names_here","_law_many","_law_trees","_law_found","_law_number"],2,5⟩
abbrev D_zap:Df:=⟨"__init__","Plain.__init__", As (top 10) 0,["self"],1,1⟩
abbrev ax3:Df:=⟨"allowed","Panel.allowed", As (top 33) 10,["self"],1,1⟩
abbrev D_zav:Df:=⟨"__init__","Book.__init__", As (top 24) 0,["self","panel"],2,3⟩
abbrev ax8:Df:=⟨"copied","Plain.copied", As (top 10) 19,["self","twin"],1,3⟩
abbrev W4:Df:=⟨"names","Plain.names", As (top 10) 8,["self"],1,1⟩
abbrev W6:Df:=⟨"names","Book.names", As (top 24) 3,["self","names","choices","plain","name"],1,2⟩
abbrev ax0:Df:=⟨"value_key","Plain.value_key", As (top 10) 21,["self"],1,3⟩
abbrev ag3:Df:=⟨"in_set","in_set", top 12,["choices","number"],2,1⟩
abbrev ad4:Df:=⟨"least_choice","least_choice", top 13,["choices","number"],1,2⟩
abbrev D_zbl:Df:=⟨"in_order","in_order", top 17,["pairs"],1,6⟩
abbrev ae4:Df:=⟨"kept_rows","kept_rows", top 26,["allowed","rows","sets","plains","choices","plain","key"],2,7⟩
abbrev af2:Df:=⟨"gathered","gathered", top 25,["panel","rows","book"],2,8⟩
abbrev af9:Df:=⟨"union_of","union_of", top 15,["sets","choices","one"],1,1⟩
abbrev W9:Df:=⟨"many","Panel.many", As (top 33) 3,["self"],1,1⟩
abbrev aw3:Df:=⟨"all_choices","Panel.all_choices", As (top 33) 9,["self"],1,2⟩
abbrev ad9:Df:=⟨"has_length","has_length", top 21,["thing","least","greatest"],3,1⟩
abbrev ae2:Df:=⟨"is_letter","is_letter", top 22,["sign"],1,1⟩
abbrev ag1:Df:=⟨"is_word","is_word", top 20,["thing"],1,2⟩
abbrev bb1:Df:=⟨"are_unlike_words","are_unlike_words", top 34,["things"],1,3⟩
abbrev Xa:Df:=⟨"term","Panel.term", As (top 33) 12,["self","word","settings"],3,4⟩
abbrev Xe:Df:=⟨"box","Panel.box", As (top 33) 11,["self","terms","choices","word"],2,5⟩
abbrev ad5:Df:=⟨"copied_rule","copied_rule", top 40,["rule","copied","word"],1,1⟩
abbrev aw8:Df:=⟨"read_rule","Panel.read_rule", As (top 33) 2,["self","rule"],2,6⟩
abbrev aw4:Df:=⟨"read_rules","Panel.read_rules", As (top 33) 1,["self","rules"],2,7⟩
abbrev ae3:Df:=⟨"is_switch","is_switch", top 36,["switch"],1,4⟩
abbrev bb6:Df:=⟨"read_switches","read_switches", top 35,["switches","settings","many","switch"],1,5⟩
abbrev bb0:Df:=⟨"settings_of_choices","settings_of_choices", top 37,["settings","tuples","word","longer","ahead"],1,1⟩
abbrev ba9:Df:=⟨"numbers_by_settings","numbers_by_settings", top 38,["tuples","numbers","number","told"],1,1⟩
abbrev ag4:Df:=⟨"set_of","set_of", top 14,["numbers","choices","number"],1,1⟩
abbrev bb2:Df:=⟨"sets_of_settings","sets_of_settings", top 39,["settings","tuples","sets","place","word","setting","having"],2,2⟩
abbrev D_zam:Df:=⟨"__init__","Panel.__init__", As (top 33) 0,["self","switches","rules"],3,8⟩
abbrev Xg:Df:=⟨"lay","Plain.lay", As (top 10) 17,["self","name","kind","parent","rank","content"],6,1⟩
abbrev ae7:Df:=⟨"_law_plain","_law_plain", top 56,["_law_tree_here","_law_plain_here","_law_name","_law_kind","_law_parent","_law_rank","_law_content_here"],1,3⟩
abbrev af4:Df:=⟨"_law_book","_law_book", top 58,["_law_world_here","_law_found","_law_switches_here","_law_rules_here","_law_free","_law_panel","_law_rows","_law_number"],2,10⟩
abbrev bb3:Df:=⟨"_law_other_road","_law_other_road", top 59,["_law_world_here","_law_found","_law_switches_here","_law_rules_here","_law_free","_law_panel","_law_rows","_law_number","_law_turned","_law_name","_law_row","_law_there"],2,10⟩
abbrev ad6:Df:=⟨"_law_changed","_law_changed", top 60,["_law_cell_here","_law_tree_here","_law_names_here","_law_some","_law_name","_law_kind","_law_parent","_law_rank","_law_content_here","_law_found","_law_gone","_law_other"],3,2⟩
abbrev aw7:Df:=⟨"need_place","Plain.need_place", As (top 10) 11,["self","name"],2,3⟩
abbrev W5:Df:=⟨"state","Plain.state", As (top 10) 2,["self","name"],2,3⟩
abbrev aw9:Df:=⟨"parent_of","Plain.parent_of", As (top 10) 5,["self","name"],2,4⟩
abbrev ax5:Df:=⟨"rank_of","Plain.rank_of", As (top 10) 6,["self","name"],2,4⟩
abbrev Zd:Df:=⟨"place_key","Plain.place_key", As (top 10) 10,["self","name"],2,5⟩
abbrev aw5:Df:=⟨"all_unders","Plain.all_unders", As (top 10) 14,["self","unders","name"],1,8⟩
abbrev Xc:Df:=⟨"walk","Plain.walk", As (top 10) 13,["self","name","unders","found","waiting","line"],2,9⟩
abbrev ax4:Df:=⟨"beneath","Plain.beneath", As (top 10) 12,["self","name"],2,10⟩
abbrev Xf:Df:=⟨"has","Plain.has", As (top 10) 1,["self","name"],2,1⟩
abbrev ax1:Df:=⟨"rows_with","Book.rows_with", As (top 24) 2,["self","name","rows"],2,3⟩
abbrev W8:Df:=⟨"where","Book.where", As (top 24) 4,["self","name"],2,4⟩
abbrev ag0:Df:=⟨"grouped","grouped", top 16,["pairs","sets","choices","thing"],1,1⟩
abbrev W2:Df:=⟨"places","Book.places", As (top 24) 5,["self","name"],2,4⟩
abbrev aw6:Df:=⟨"content_of","Plain.content_of", As (top 10) 7,["self","name"],2,4⟩
abbrev ax2:Df:=⟨"contents","Book.contents", As (top 24) 6,["self","name"],2,5⟩
abbrev ax6:Df:=⟨"beneath","Book.beneath", As (top 24) 11,["self","name","found","choices","plain","below"],2,11⟩
abbrev bb5:Df:=⟨"_law_tells_like","_law_tells_like", top 61,["_law_one","_law_other","_law_name"],2,12⟩
abbrev ae5:Df:=⟨"_law_count","_law_count", top 62,["_law_found","_law_trees","_law_number"],1,1⟩
abbrev af3:Df:=⟨"is_whole","is_whole", top 19,["thing"],1,1⟩
abbrev W3:Df:=⟨"row_of","Book.row_of", As (top 24) 8,["self","number","row"],2,2⟩
abbrev W7:Df:=⟨"plain","Book.plain", As (top 24) 7,["self","number"],2,4⟩
abbrev bb4:Df:=⟨"_law_plain_like","_law_plain_like", top 63,["_law_one","_law_other","_law_number"],3,5⟩
abbrev D_zby:Df:=⟨"law","law", top 64,["_law_script","_law_world_here","_law_names_here","_law_found","_law_one","_law_other","_law_at","_law_third","_law_unlike","_law_number"],1,13⟩
section
variable (K:ac) (t:Adr)
abbrev bu7:FI:=Ca aw5 (t.m_zcf 0) (t.e_zcf 0) (as4 K t)
abbrev be5:FI:=Ca ax4 (t.m_zcf 1) (t.e_zcf 1) (at8 K t)
abbrev bu8:FI:=Ca aw6 (t.m_zcf 2) (t.e_zcf 2) (as5 K t)
abbrev be7:FI:=Ca ax8 (t.m_zcf 3) (t.e_zcf 3) (au3 K t)
abbrev a82:FI:=Ca Xf (t.m_zcf 4) (t.e_zcf 4) (Wb K t)
abbrev a83:FI:=Ca Xg (t.m_zcf 5) (t.e_zcf 5) (Wc K t)
abbrev X3:FI:=Ca W4 (t.m_zcf 6) (t.e_zcf 6) (Vu K t)
abbrev bu9:FI:=Ca aw7 (t.m_zcf 7) (t.e_zcf 7) (as6 K t)
abbrev bv1:FI:=Ca aw9 (t.m_zcf 8) (t.e_zcf 8) (as9 K t)
abbrev bv4:FI:=Ca ax5 (t.m_zcf 9) (t.e_zcf 9) (at9 K t)
abbrev X5:FI:=Ca Xb (t.m_zcf 10) (t.e_zcf 10) (V5 K t)
abbrev R1:FI:=Ca W5 (t.m_zcf 11) (t.e_zcf 11) (Vv K t)
abbrev bv3:FI:=Ca ax0 (t.m_zcf 12) (t.e_zcf 12) (at1 K t)
abbrev a81:FI:=Ca Xc (t.m_zcf 13) (t.e_zcf 13) (V6 K t)
abbrev bv2:FI:=Ca Zd (t.m_zcf 14) (t.e_zcf 14) (at0 K t)
abbrev be6:FI:=Ca ax6 (t.m_zcg 0) (t.e_zcg 0) (au1 K t)
abbrev Zx:FI:=Ca ax7 (t.m_zcg 1) (t.e_zcg 1) (au2 K t)
abbrev be3:FI:=Ca ax2 (t.m_zcg 2) (t.e_zcg 2) (at6 K t)
abbrev X4:FI:=Ca W6 (t.m_zcg 3) (t.e_zcg 3) (V0 K t)
abbrev ak2:FI:=Ca W2 (t.m_zcg 4) (t.e_zcg 4) (Vs K t)
abbrev ak3:FI:=Ca W7 (t.m_zcg 5) (t.e_zcg 5) (V1 K t)
abbrev a79:FI:=Ca W3 (t.m_zcg 6) (t.e_zcg 6) (Vt K t)
abbrev ak7:FI:=Ca ax1 (t.m_zcg 7) (t.e_zcg 7) (at3 K t)
abbrev R3:FI:=Ca Xd (t.m_zcg 8) (t.e_zcg 8) (V9 K t)
abbrev ak4:FI:=Ca W8 (t.m_zcg 9) (t.e_zcg 9) (V2 K t)
abbrev be2:FI:=Ca aw3 (t.m_zce 0) (t.e_zce 0) (as2 K t)
abbrev be4:FI:=Ca ax3 (t.m_zce 1) (t.e_zce 1) (at7 K t)
abbrev ak6:FI:=Ca Xe (t.m_zce 2) (t.e_zce 2) (Wa K t)
abbrev ak5:FI:=Ca W9 (t.m_zce 3) (t.e_zce 3) (V3 K t)
abbrev bv0:FI:=Ca aw8 (t.m_zce 4) (t.e_zce 4) (as8 K t)
abbrev bu6:FI:=Ca aw4 (t.m_zce 5) (t.e_zce 5) (as3 K t)
abbrev a80:FI:=Ca Xa (t.m_zce 6) (t.e_zce 6) (V4 K t)
def i_zap:FI:=⟨t.f_zap,t.d_zap,D_zap.ps,1,ar9 K t,[],[]⟩
def i_zav:FI:=⟨t.f_zav,t.d_zav,D_zav.ps,3,as0 K t,[],[]⟩
def i_zam:FI:=⟨t.f_zam,t.d_zam,D_zam.ps,8,ar8 K t,[.non],[.none]⟩
def Fm:List MI:=[⟨t.c_zce,be2 K t⟩]
def Mt:List MI:=[⟨t.c_zcf,bu7 K t⟩]
def Lj:List MI:=[⟨t.c_zce,be4 K t⟩]
noncomputable def E1:List MI:=[⟨t.c_zcf,be5 K t⟩,⟨t.c_zcg,be6 K t⟩]
def am5:List MI:=[⟨t.c_zce,ak6 K t⟩]
def D7:List MI:=[⟨t.c_zcg,Zx K t⟩]
def Mu:List MI:=[⟨t.c_zcf,bu8 K t⟩]
noncomputable def Jp:List MI:=[⟨t.c_zcg,be3 K t⟩]
def Oa:List MI:=[⟨t.c_zcf,be7 K t⟩]
def bg5:List MI:=[⟨t.c_zcf,a82 K t⟩]
def bg6:List MI:=[⟨t.c_zcf,a83 K t⟩]
def Yd:List MI:=[⟨t.c_zce,ak5 K t⟩]
def Eo:List MI:=[⟨t.c_zcf,X3 K t⟩,⟨t.c_zcg,X4 K t⟩]
def Mv:List MI:=[⟨t.c_zcf,bu9 K t⟩]
def Pq:List MI:=[⟨t.c_zcf,bv1 K t⟩]
noncomputable def Ob:List MI:=[⟨t.c_zcg,ak2 K t⟩]
def Sm:List MI:=[⟨t.c_zcg,ak3 K t⟩]
def U9:List MI:=[⟨t.c_zcf,bv4 K t⟩]
def Pr:List MI:=[⟨t.c_zce,bv0 K t⟩]
def Mw:List MI:=[⟨t.c_zce,bu6 K t⟩]
def Z9:List MI:=[⟨t.c_zcg,a79 K t⟩]
noncomputable def Dp:List MI:=[⟨t.c_zcg,ak7 K t⟩]
def E2:List MI:=[⟨t.c_zcf,X5 K t⟩,⟨t.c_zcg,R3 K t⟩]
def Hm:List MI:=[⟨t.c_zcf,R1 K t⟩]
def a09:List MI:=[⟨t.c_zce,a80 K t⟩]
def Ps:List MI:=[⟨t.c_zcf,bv3 K t⟩]
def a10:List MI:=[⟨t.c_zcf,a81 K t⟩]
noncomputable def Sn:List MI:=[⟨t.c_zcg,ak4 K t⟩]
def Hl:List MI:=[⟨t.c_zcf,bv2 K t⟩]
def Z6:List MI:=[⟨t.c_zcf,X3 K t⟩]
def Sk:List MI:=[⟨t.c_zcf,be5 K t⟩]
def am3:List MI:=[⟨t.c_zcf,X5 K t⟩]
def cons:List (Str×V):=[("__builtins__", .ref 4),("TOP", (.str "")),("MOST_SWITCHES", (.int 5)),("LEAST_SETTINGS", (.int 2)),("MOST_SETTINGS", (.int 4)),("MOST_CHOICES", (.int 256)),("MOST_RULES", (.int 8))]
def fns:List (Df×Sp):=[(af5,Ea K t),(ag2,Bn K t),(ae9,Lu K t),(bb7,au4 K t),(af0,Qg K t),(ae8,Wi K t),(ae1,Qe K t),(ae0,V8 K t),(af1,Wj K t),(af7,Qj K t),(ad7,Vy K t),(af8,Wn K t),(ae6,Wh K t),(ad8,Vz K t),(af6,Wm K t),(ag3,Ql K t),(ad4,Vr K t),(D_zbl,Wk K t),(ae4,Wf K t),(af2,Qh K t),(af9,Lv K t),(ad9,V7 K t),(ae2,Wd K t),(ag1,Qk K t),(bb1,Yz K t),(ad5,Vw K t),(ae3,We K t),(bb6,au0 K t),(bb0,as1 K t),(ba9,ar7 K t),(ag4,Wo K t),(bb2,as7 K t),(ae7,Qf K t),(af4,Qi K t),(bb3,at4 K t),(ad6,Vx K t),(ag0,Lw K t),(bb5,at5 K t),(ae5,Wg K t),(af3,Wl K t),(bb4,Y0 K t)]
def bg3:List (Df×Sp):=[(aw5,as4 K t),(ax4,at8 K t),(aw6,as5 K t),(ax8,au3 K t),(Xf,Wb K t),(Xg,Wc K t),(W4,Vu K t),(aw7,as6 K t),(aw9,as9 K t),(ax5,at9 K t),(Xb,V5 K t),(W5,Vv K t),(ax0,at1 K t),(Xc,V6 K t),(Zd,at0 K t)]
def bg4:List (Df×Sp):=[(ax6,au1 K t),(ax7,au2 K t),(ax2,at6 K t),(W6,V0 K t),(W2,Vs K t),(W7,V1 K t),(W3,Vt K t),(ax1,at3 K t),(Xd,V9 K t),(W8,V2 K t)]
def bg2:List (Df×Sp):=[(aw3,as2 K t),(ax3,at7 K t),(Xe,Wa K t),(W9,V3 K t),(aw8,as8 K t),(aw4,as3 K t),(Xa,V4 K t)]
def Ax:List Ent:=[⟨2,"Plain", .cls t.c_zcf (some (i_zap K t))⟩,⟨4,"Book", .cls t.c_zcg (some (i_zav K t))⟩,⟨9,"Panel", .cls t.c_zce (some (i_zam K t))⟩,⟨11,"", .met "beneath" (E1 K t)⟩,⟨2,"", .met "names" (Eo K t)⟩,⟨2,"", .met "same" (E2 K t)⟩,⟨7,"", .key "place_key" (Hl K t)⟩]++(bc9 t.u 0 cons++(al6 t.c_zcf t.m_zcf t.e_zcf 0 (bg3 K t)++(al6 t.c_zcg t.m_zcg t.e_zcg 0 (bg4 K t)++(al6 t.c_zce t.m_zce t.e_zce 0 (bg2 K t)++(fnE t.f t.d 0 (fns K t))))))
end
abbrev v0_:DE:=Ab 0
abbrev v1_:DE:=Ab 1
abbrev v2_:DE:=Ab 2
abbrev v3_:DE:=Ab 3
abbrev v4_:DE:=Ab 4
abbrev v5_:DE:=Ab 5
abbrev v6_:DE:=Ab 6
abbrev v7_:DE:=Ab 7
abbrev v8_:DE:=Ab 8
abbrev v9_:DE:=Ab 9
abbrev v10_:DE:=Ab 10
abbrev v11_:DE:=Ab 11
abbrev m_(i:Int):DE:=dC (.int i)
abbrev n_(a:DE):DA:=Ac a Ag
abbrev o_(a b:DE):DA:=Ac a (n_ b)
abbrev p_(a b c:DE):DA:=Ac a (o_ b c)
abbrev q_(s:Sp)(a:DA):DE:=dFn (spE s []) a
abbrev r_(r:RF)(a:DA):DE:=dFn (λvs H Q _=>r vs H Q) a
abbrev R_:=ac->Adr->DS
noncomputable def b37:R_:=λK t=>Ae (Ar (Ah (Bp K false) (dUn (Bm K "records") v0_) (dUn (Bm K "records") v1_))) Af
noncomputable def cd4:R_:=λK t=>Ae (Ar (Be [none,none] (Bh K (dUn (Bm K "kept") v0_)) (gdT K 2 [gdN 0,gdN 1]) Bv v0_)) Af
noncomputable def Mz:R_:=λK t=>Ae (Ar (r_ (P6 K) (n_ (Be [none,none] (iZp K (o_ (dUn (Bm K "kept") v0_) (dUn (Bm K "kept") v1_))) (gdT K 2 [gdN 0,gdN 1]) Bv (Bf "same" 1 (am3 K t) (Ah (Av K) v0_ (m_ 1)) (n_ (Ah (Av K) v1_ (m_ 1)))))))) Af
noncomputable def b43:R_:=λK t=>Ae (dIf (Bb (Ah (Bp K true) (Bf "classes" 0 (D7 K t) v0_ Ag) (Bf "classes" 0 (D7 K t) v1_ Ag))) (Ae (Ar (dC (.bl false))) Af) Af) (Mz K t)
noncomputable def b60:R_:=λK t=>Ae (dIf (Bb (Ah br2 v1_ (r_ (Dh K) (n_ v0_)))) (Ae (Ar (Ah (Av K) v0_ v1_)) Af) Af) (Ae (Ar (m_ 0)) Af)
noncomputable def Tq:R_:=λK t=>Ae (Ao 3 (Ah Bi (Ah (Dl K) v3_ v3_) (m_ 2147483629))) (Ae (Ar (Ah D8 (Ah Bi (Ah (Dl K) v3_ (Ah (Bj K) v3_ (m_ 3))) (m_ 2147483587)) (m_ 32))) Af)
noncomputable def Tt:R_:=λK t=>Ae (dIf (O7 (Bb (Ah (Bp K false) (Ah Bi v0_ (m_ 2)) (m_ 0))) (O7 (Bb (Ah (Bp K true) v2_ (m_ 0))) (Bb (Ah (Bp K true) v2_ (dUn Yq (m_ 1)))))) (Ae (Ar (Ah Jr v2_ (m_ 134217727))) Af) Af) (Ae (Ao 3 (Ah Bi (Ah (Dl K) (Ah (Bj K) v0_ (Ah (Dl K) (m_ 7919) v1_)) (m_ 48271)) (m_ 2147483647))) (Tq K t))
noncomputable def b67:R_:=λK t=>Ae (Ao 2 (Ah Yr v0_ (Ah (Bj K) (Ah (Dl K) (m_ 27) v1_) (m_ 1)))) (Tt K t)
noncomputable def Nb:R_:=λK t=>Ae (Ao 4 (dMt (rMt K [⟨"str","str.join", Tf K⟩]) (dC (.str "")) (n_ (Be [none,some 0,some 1] (Hd (n_ v2_)) (gdN 0) Bv (Ah (Av K) v2_ (Ah Bi (q_ (Bn K t) (o_ v1_ (Ah (Bj K) (m_ 2) v0_))) (r_ (Dh K) (n_ v2_)))))))) (Ae (Ar (Be [none,some 2,some 4] (Hd (n_ v3_)) (gdN 0) Bv (dSl K v2_ Gd (K3 (Ah ar2 v1_ v0_))))) Af)
noncomputable def Nc:R_:=λK t=>Ae (C0 (dMt (rMt K [⟨"list","list.append", Cj⟩]) v8_ (n_ (dMt (rMt K [⟨"str","str.join", Tf K⟩]) (dC (.str "")) (n_ (Be [none,some 1] (Bh K v9_) (gdN 0) Bv (Ah (Av K) v1_ (Ah Bi v0_ (r_ (Dh K) (n_ v1_)))))))))) Af
noncomputable def Nd:R_:=λK t=>Ae (Ao 9 (Be [none,some 7,some 0,some 5] (Hd (n_ v6_)) (gdN 0) Bv (Ah (Bj K) (q_ (Bn K t) (o_ v2_ (Ah (Bj K) (m_ 22) v0_))) (Ah (Dl K) v3_ (r_ ab1 (n_ (Ah (Bp K false) v0_ v1_))))))) (Nc K t)
noncomputable def Nf:R_:=λK t=>Ae (Ao 7 (Ah Bi (q_ (Bn K t) (o_ v0_ (m_ 21))) v6_)) (Ae (Ao 8 (B9 Ag)) (Ae (By (Hd (n_ v3_)) (gdN 5) (Nd K t)) (Ae (Ar v8_) Af)))
noncomputable def b53:R_:=λK t=>Ae (dIf (O7 (Bb (Ah (Bp K false) (Ah Bi (q_ (Bn K t) (o_ v0_ (m_ 1))) (m_ 3)) (m_ 0))) (Bb (Ah Hr v3_ v2_))) (Nb K t) Af) (Ae (Ao 6 (Ah (Bj K) (m_ 1) (Ah Bi (q_ (Bn K t) (o_ v0_ (m_ 20))) v2_))) (Nf K t))
noncomputable def Jf:R_:=λK t=>Ae (C0 (dMt (rMt K [⟨"list","list.append", Cj⟩]) v4_ (n_ (C4 (o_ (Ah (Av K) v3_ v6_) (q_ (Lu K t) (Ac (Ah (Bj K) (Ah (Bj K) v0_ (m_ 1)) v6_) (p_ v2_ (m_ 8) v7_)))))))) Af
noncomputable def Jg:R_:=λK t=>Ae (Ao 7 (Ah (Bj K) (m_ 2) (Ah Bi (q_ (Bn K t) (o_ v0_ (Ah (Bj K) (m_ 41) v6_))) (m_ 3)))) (Ae (dIf (Bb (Ah Hr (Ah (Dl K) v5_ v7_) v1_)) (Ae (Ao 5 (Ah (Dl K) v5_ v7_)) (Jf K t)) Af) Af)
noncomputable def Jh:R_:=λK t=>Ae (By (Hd (n_ (Ah (Bj K) (m_ 1) (Ah Bi (q_ (Bn K t) (o_ v0_ (m_ 40))) (m_ 5))))) (gdN 6) (Jg K t)) (Ae (Ar v4_) Af)
noncomputable def Ji:R_:=λK t=>Ae (Ao 3 (q_ (Lu K t) (Ac v0_ (p_ v2_ (m_ 8) (m_ 5))))) (Ae (Ao 4 (B9 Ag)) (Ae (Ao 5 (m_ 1)) (Jh K t)))
noncomputable def cd6:R_:=λK t=>Ae (Ao 2 (dC (.str "abcdefghijklmnopqrstuvwxyz"))) (Ji K t)
noncomputable def b54:R_:=λK t=>Ae (Ao 1 (m_ 1)) (Ae (By (Bh K v0_) (gdT K 2 [gdN 2,gdN 3]) (Ae (Ao 1 (Ah (Dl K) v1_ (r_ (Dh K) (n_ v3_)))) Af)) (Ae (Ar v1_) Af))
noncomputable def M7:R_:=λK t=>Ae (dIf (O7 (Bb (Ah (Bp K true) v9_ (B9 Ag))) (Bb (Ah ab0 (Ah Bi (Ah D8 v8_ (m_ 16)) (m_ 3)) (m_ 0)))) (Ae (Cz v9_ (B8 K v4_ v6_)) Af) Af) Af
noncomputable def M8:R_:=λK t=>Ae (Ao 9 (Be [none,none,some 8] (iEn K (n_ v7_)) (gdT K 2 [gdN 0,gdN 1]) (Bb (Ah (Bp K false) (Ah Jr (Ah Yr v2_ v0_) (m_ 1)) (m_ 1))) v1_)) (M7 K t)
noncomputable def M9:R_:=λK t=>Ae (By (iEn K (n_ v1_)) (gdT K 2 [gdN 5,(gdT K 2 [gdN 6,gdN 7])]) (Ae (Ao 8 (q_ (Bn K t) (o_ v0_ (Ah (Bj K) (Ah (Bj K) (m_ 61) (Ah (Dl K) (m_ 8) v3_)) v5_)))) (M8 K t))) (Ae (dIf (Bb (Ah (Bp K true) v4_ Cl)) (Ae (C0 (dMt (rMt K [⟨"list","list.append", Cj⟩]) v2_ (n_ v4_))) Af) Af) Af)
noncomputable def Na:R_:=λK t=>Ae (By (Hd (n_ (Ah Bi (q_ (Bn K t) (o_ v0_ (m_ 60))) (m_ 4)))) (gdN 3) (Ae (Ao 4 Cl) (M9 K t))) (Ae (Ar v2_) Af)
noncomputable def b52:R_:=λK t=>Ae (Ao 2 (B9 Ag)) (Na K t)
noncomputable def Mf:R_:=λK t=>Ae (C0 (dMt (rMt K [⟨"list","list.insert", P7⟩]) v2_ (o_ (m_ 0) (Ah Bi v1_ (r_ (Dh K) (n_ v4_)))))) (Ae (Ao 1 (Ah D8 v1_ (r_ (Dh K) (n_ v4_)))) Af)
noncomputable def b41:R_:=λK t=>Ae (Ao 2 (B9 Ag)) (Ae (By (Uz K v0_) (gdT K 2 [gdN 3,gdN 4]) (Mf K t)) (Ae (Ar v2_) Af))
noncomputable def Me:R_:=λK t=>Ae (Ao 5 (Be [none,none,none,some 3,some 4] (iEn K (n_ v0_)) (gdT K 2 [gdN 0,(gdT K 2 [gdN 1,gdN 2])]) Bv (Ah (Jx K false) (Ah (Av K) v2_ (Ah (Av K) v3_ v0_)) (dMt (rMt K [⟨"dict","dict.get", Hn⟩]) v4_ (o_ v1_ v2_))))) (Ae (dIf (Dw K (r_ (P6 K) (n_ v5_))) (Ae (Ar (dC (.bl true))) Af) Af) Af)
noncomputable def b40:R_:=λK t=>Ae (Ao 3 (q_ (Qe K t) (o_ v0_ v2_))) (Ae (By (Bh K v1_) (gdN 4) (Me K t)) (Ae (Ar (dC (.bl false))) Af))
noncomputable def Ng:R_:=λK t=>Ae (dIf (Bb (Ah (Bp K false) v4_ (B9 Ag))) (Ae (Ao 3 (B9 Ag)) (Ae (Ao 4 (dUn Ls (q_ (Qg K t) (n_ v2_)))) Af)) Af) (Ae (Ar (B9 (p_ v2_ v3_ v4_))) Af)
noncomputable def Nh:R_:=λK t=>Ae (Ao 4 (Be [none,some 3,some 2] (Hd (n_ (q_ (Qg K t) (n_ v2_)))) (gdN 0) (Fd (Dw K (q_ (V8 K t) (p_ v2_ v1_ v0_)))) v0_)) (Ng K t)
noncomputable def b55:R_:=λK t=>Ae (Ao 2 (q_ (au4 K t) (o_ v0_ v1_))) (Ae (Ao 3 (q_ (Wi K t) (o_ v0_ v2_))) (Nh K t))
noncomputable def Qu:R_:=λK t=>Ae (Ar (dMt (rMt K [⟨"str","str.join", Tf K⟩]) (dC (.str "")) (n_ (Be [none,some 0,some 1] (Hd (n_ v2_)) (gdN 0) Bv (Ah (Av K) v2_ (Ah Bi (q_ (Bn K t) (o_ v1_ (Ah (Bj K) (m_ 302) v0_))) (r_ (Dh K) (n_ v2_)))))))) Af
noncomputable def Qv:R_:=λK t=>Ae (Ao 2 (Ah (Av K) (B9 (Ac (m_ 0) (Ac (m_ 1) (p_ (m_ 2) (m_ 5) (m_ 60))))) (Ah Bi (q_ (Bn K t) (o_ v0_ (m_ 301))) (m_ 5)))) (Qu K t)
noncomputable def b62:R_:=λK t=>Ae (Ao 1 (dC (.str " !\"#$&'()*+,-./0123456789:;<=>?@ABCDEFGHIJKLMNOPQRSTUVWXYZ[\\]^_`"))) (Ae (Ao 1 (Ah (Bj K) v1_ (dC (.str "abcdefghijklmnopqrstuvwxyz{|}~")))) (Qv K t))
noncomputable def J6:R_:=λK t=>Ae (C0 (dMt (rMt K [⟨"list","list.append", Cj⟩]) v3_ (n_ (r_ (Gi K) (n_ (Be [none,some 1,some 4] (Hd (n_ v2_)) (gdN 0) Bv (dSl K (q_ (Qj K t) (n_ (Ah (Bj K) (Ah (Bj K) v1_ (Ah (Dl K) (m_ 5) v2_)) (Ah (Dl K) (m_ 17) v0_)))) Gd (K3 (m_ 3))))))))) Af
noncomputable def J7:R_:=λK t=>Ae (By (Hd (n_ (Ah (Bj K) (m_ 1) (Ah Bi (q_ (Bn K t) (o_ v1_ (m_ 311))) (m_ 3))))) (gdN 4) (J6 K t)) (Ae (Ar (r_ (Gi K) (n_ v3_))) Af)
noncomputable def J8:R_:=λK t=>Ae (Ao 2 (Ah (Bj K) (m_ 1) (Ah Bi (q_ (Bn K t) (o_ v1_ (m_ 310))) (m_ 3)))) (Ae (Ao 3 (B9 Ag)) (J7 K t))
noncomputable def b28:R_:=λK t=>Ae (dIf (Bb (Ah (Bp K true) v0_ (dC (.str "table")))) (Ae (Ar (q_ (Qj K t) (n_ v1_))) Af) Af) (J8 K t)
noncomputable def Qw:R_:=λK t=>Ae (Cz (C4 (Ac v7_ (p_ (Ah (Av K) v8_ (Ah Bi (Ah D8 v6_ (m_ 384)) (r_ (Dh K) (n_ v8_)))) v9_ (q_ (Vy K t) (o_ v7_ (Ah D8 v6_ (m_ 96))))))) (B8 K v3_ v5_)) Af
noncomputable def Qy:R_:=λK t=>Ae (Ao 9 (Ah (Av K) (B9 (Ac (m_ 0) (p_ (m_ 1) (Ah a98 (m_ 10) (m_ 9)) (Ah Bi (Ah D8 v6_ (m_ 96)) (m_ 1000))))) (Ah Bi (Ah D8 v6_ (m_ 24)) (m_ 4)))) (Qw K t)
noncomputable def Qz:R_:=λK t=>Ae (Ao 8 (Xy (Ah (Bj K) (B9 (n_ (dC (.str "")))) (Be [none,some 3] (Bh K v3_) (gdN 0) (Bb (Ah (Bp K false) (Ah (Av K) (Ah (Av K) v1_ v0_) (m_ 0)) (dC (.str "chapter")))) v0_)))) (Qy K t)
noncomputable def Q0:R_:=λK t=>Ae (Ao 7 (Ah (Av K) (B9 (Ac (dC (.str "chapter")) (p_ (dC (.str "para")) (dC (.str "table")) (dC (.str "chapter"))))) (Ah Bi (Ah D8 v6_ (m_ 6)) (m_ 4)))) (Qz K t)
noncomputable def Q3:R_:=λK t=>Ae (dIf (O7 (Bb (Ah ab0 v1_ (m_ 0))) (Bb (Ah (Bp K false) (Ah Bi (q_ (Bn K t) (o_ v0_ (Ah (Bj K) (Ah (Bj K) (m_ 130) (Ah (Dl K) (m_ 40) v1_)) v4_))) (m_ 3)) (m_ 0)))) (Ae (Ao 6 (q_ (Bn K t) (o_ v0_ (Ah (Bj K) (Ah (Bj K) (m_ 500) (Ah (Dl K) (m_ 40) v1_)) v4_)))) Af) Af) (Ae (dIf (Bb (Ah ab0 (Ah Bi v6_ (m_ 6)) (m_ 0))) (Q0 K t) Af) Af)
noncomputable def Q4:R_:=λK t=>Ae (By (iEn K (n_ v2_)) (gdT K 2 [gdN 4,gdN 5]) (Ae (Ao 6 (q_ (Bn K t) (o_ v0_ (Ah (Bj K) (m_ 100) v4_)))) (Q3 K t))) (Ae (Ar v3_) Af)
noncomputable def b63:R_:=λK t=>Ae (Ao 3 Cl) (Q4 K t)
noncomputable def b50:R_:=λK t=>Ae (Ar (q_ (Lu K t) (Ac v0_ (p_ (dC (.str "abcdefghijklmnopqrstuvwxyz0123456789.")) (m_ 12) v1_)))) Af
noncomputable def J9:R_:=λK t=>Ae (Ar (Ah Bi (Ah (Av K) (q_ (Qe K t) (o_ v1_ v2_)) (Ah Bi (q_ (Bn K t) (o_ v0_ (m_ 71))) (r_ (Dh K) (n_ v1_)))) v3_)) Af
noncomputable def b29:R_:=λK t=>Ae (dIf (Bb (Ah (Bp K false) (Ah Bi (q_ (Bn K t) (o_ v0_ (m_ 70))) (m_ 2)) (m_ 0))) (J9 K t) Af) (Ae (Ar (Ah Bi (q_ (Bn K t) (o_ v0_ (Ah (Bj K) (m_ 700) v2_))) v3_)) Af)
noncomputable def Qr:R_:=λK t=>Ae (Cz (Ah (Av K) v5_ (q_ (Vz K t) (Ac (q_ (Ea K t) (o_ v0_ (m_ 4))) (p_ (Ah (Av K) v2_ (m_ 0)) v7_ v4_)))) (B8 K v6_ v7_)) Af
noncomputable def Qs:R_:=λK t=>Ae (Ao 5 (Be [none,some 3,some 0] (Hd (n_ v4_)) (gdN 0) Bv (q_ (Wn K t) (p_ (q_ (Ea K t) (o_ v2_ (m_ 3))) v0_ v1_)))) (Ae (Ao 6 Cl) (Ae (By (Bh K (Ah (Av K) v2_ (m_ 2))) (gdN 7) (Qr K t)) (Ae (Ar (B9 (p_ v2_ v3_ v6_))) Af)))
noncomputable def Qt:R_:=λK t=>Ae (Ao 3 (q_ (Wh K t) (o_ (q_ (Ea K t) (o_ v0_ (m_ 1))) (Ah (Bj K) (m_ 1) (Ah Bi (q_ (Ea K t) (o_ v0_ (m_ 2))) (Ah (Av K) (B9 (o_ (m_ 8) (m_ 3))) (r_ ab1 (n_ v1_)))))))) (Ae (Ao 4 (Ah (Bj K) (m_ 1) (Ah Bi (Ah D8 (q_ (Ea K t) (o_ v0_ (m_ 2))) (m_ 8)) (m_ 4)))) (Qs K t))
noncomputable def b61:R_:=λK t=>Ae (Ao 2 (q_ (Wj K t) (o_ (Ah D8 (q_ (Ea K t) (o_ v0_ (m_ 0))) (m_ 8)) (Ah (Av K) (B9 (o_ (m_ 24) (m_ 256))) (r_ ab1 (n_ v1_)))))) (Qt K t)
noncomputable def b36:R_:=λK t=>Ae (G4 K "records" v0_ Cl) Af
noncomputable def cc9:R_:=λK t=>Ae (Ar (dUn (Bm K "free") v0_)) Af
noncomputable def b42:R_:=λK t=>Ae (G4 K "panel" v0_ v1_) (Ae (G4 K "kept" v0_ (B9 (n_ (C4 (o_ (Bf "allowed" 0 (Lj K t) v1_ Ag) (dFn (mkC t.c_zcf (some (i_zap K t)) 0) Ag)))))) Af)
noncomputable def cd5:R_:=λK t=>Ae (Ao 1 (dFn (mkC t.c_zcf (some (i_zap K t)) 0) Ag)) (Ae (G4 K "records" v1_ (r_ Ho (n_ (dUn (Bm K "records") v0_)))) (Ae (Ar v1_) Af))
noncomputable def b24:R_:=λK t=>Ae (Ar (r_ (Qb K true) (n_ (dUn (Bm K "records") v0_)))) Af
noncomputable def Lz:R_:=λK t=>Ae (By (Bh K (dUn (Bm K "kept") v0_)) (gdT K 2 [gdN 2,gdN 3]) (Ae (By (Bh K (Bf "names" 0 (Z6 K t) v3_ Ag)) (gdN 4) (Ae (Cz (dC (.bl true)) (B8 K v1_ v4_)) Af)) Af)) (Ae (Ar (r_ (Qb K true) (n_ v1_))) Af)
noncomputable def b30:R_:=λK t=>Ae (Ao 1 Cl) (Lz K t)
noncomputable def cc3:R_:=λK t=>Ae (Ar (r_ (Gi K) (n_ (Be [none,some 0] (Bh K (Bf "names" 0 (Eo K t) v0_ Ag)) (gdN 0) Bv (C4 (o_ v0_ (Ah (Av K) (dUn (Bm K "records") v1_) v0_))))))) Af
noncomputable def b68:R_:=λK t=>Ae (Ar (Ah (Bp K false) (Ah Jr (Ah Yr v0_ v1_) (m_ 1)) (m_ 1))) Af
noncomputable def b21:R_:=λK t=>Ae (By (Hd (n_ (dMt (rMt K [⟨"int","int.bit_length", a94⟩]) v0_ Ag))) (gdN 1) (Ae (dIf (Dw K (q_ (Ql K t) (o_ v0_ v1_))) (Ae (Ar v1_) Af) Af) Af)) (Ae (Ar (dC .non)) Af)
noncomputable def b57(K:ac)(t:Adr):DE:=
 (dFn (spE (Vr K t) []) (Ac (Ah (Av K) (Ab 0) (dC (.int 0))) Ag))
noncomputable def M2:R_:=λK t=>Ae (Cz (Ah Vl (dMt (rMt K [⟨"dict","dict.get", Hn⟩]) v2_ (o_ v6_ (m_ 0))) (Ah Jr v4_ v0_)) (B8 K v2_ v6_)) (Ae (Cz v5_ (B8 K v3_ v6_)) Af)
noncomputable def M3:R_:=λK t=>Ae (Ar (q_ (Wk K t) (n_ (Be [none,some 3,some 2] (Bh K v2_) (gdN 0) Bv (C4 (o_ (Ah (Av K) v2_ v0_) (Bf "copied" 0 (Oa K t) (Ah (Av K) v1_ v0_) Ag))))))) Af
noncomputable def M4:R_:=λK t=>Ae (By (Bh K v1_) (gdT K 2 [gdN 4,gdN 5]) (Ae (dIf (Bb (Ah (Bp K true) (Ah Jr v4_ v0_) (m_ 0))) (Ae (Ao 6 (Bf "value_key" 0 (Ps K t) v5_ Ag)) (M2 K t)) Af) Af)) (M3 K t)
noncomputable def b48:R_:=λK t=>Ae (Ao 2 Cl) (Ae (Ao 3 Cl) (M4 K t))
noncomputable def b56:R_:=λK t=>Ae (Ao 2 (dFn (mkC t.c_zcg (some (i_zav K t)) 0) (n_ v0_))) (Ae (G4 K "kept" v2_ (q_ (Wf K t) (o_ (Bf "allowed" 0 (Lj K t) v0_ Ag) v1_))) (Ae (Ar v2_) Af))
noncomputable def b64:R_:=λK t=>Ae (Ao 1 (m_ 0)) (Ae (By (Bh K v0_) (gdN 2) (Ae (Ao 1 (Ah Vl v1_ v2_)) Af)) (Ae (Ar v1_) Af))
noncomputable def b34:R_:=λK t=>Ae (Ar (r_ (Dh K) (n_ (dUn (Bm K "tuples") v0_)))) Af
noncomputable def cb3:R_:=λK t=>Ae (Ar (Ah ar2 (Ah Od (m_ 1) (Bf "many" 0 (Yd K t) v0_ Ag)) (m_ 1))) Af
noncomputable def b39:R_:=λK t=>Ae (Ar (Nt K (r_ (Hq K) (o_ v0_ (dC (.ty "str")))) (Dv Hr Hr v1_ (r_ (Dh K) (n_ v0_)) v2_))) Af
noncomputable def ba2:R_:=λK t=>Ae (Ar (Dv Hr Hr (dC (.str "a")) v0_ (dC (.str "z")))) Af
noncomputable def b66:R_:=λK t=>Ae (Ar (Nt K (q_ (V7 K t) (p_ v0_ (m_ 1) (m_ 8))) (r_ (P6 K) (n_ (Be [none] (Bh K v0_) (gdN 0) Bv (q_ (Wd K t) (n_ v0_))))))) Af
noncomputable def cb8:R_:=λK t=>Ae (dIf (dOr (Fd (Dw K (r_ (Hq K) (o_ v0_ (dC (.ty "list")))))) (Fd (Dw K (r_ (P6 K) (n_ (Be [none] (Bh K v0_) (gdN 0) Bv (q_ (Qk K t) (n_ v0_)))))))) (Ae (Ar (dC (.bl false))) Af) Af) (Ae (Ar (Ah (Bp K false) (dUn (Ko K) v0_) (r_ (Dh K) (n_ v0_)))) Af)
noncomputable def L9:R_:=λK t=>Ae (Ar (q_ (Lv K t) (n_ (Be [none,some 0,some 1] (Bh K v2_) (gdN 0) Bv (Ah (Av K) (Ah (Av K) (dUn (Bm K "sets") v1_) v2_) v0_))))) Af
noncomputable def Ma:R_:=λK t=>Ae (dIf (Fd (Dw K (r_ (P6 K) (n_ (Be [none,some 0,some 1] (Bh K v2_) (gdN 0) Bv (Ah (Jx K false) v0_ (Ah (Av K) (dUn (Bm K "sets") v1_) v2_))))))) (Ae A8 Af) Af) (L9 K t)
noncomputable def b35:R_:=λK t=>Ae (dIf (dOr (Fd (Dw K (r_ (Hq K) (o_ v1_ (dC (.ty "str")))))) (Bb (Ah (Jx K true) v1_ (dUn (Bm K "sets") v0_)))) (Ae A8 Af) Af) (Ae (dIf (dOr (Fd (Dw K (q_ (Yz K t) (n_ v2_)))) (Bb (Ah (Bp K false) v2_ (B9 Ag)))) (Ae A8 Af) Af) (Ma K t))
noncomputable def M0:R_:=λK t=>Ae (By (Bh K v1_) (gdN 3) (Ae (Ao 2 (Ah Jr v2_ (Bf "term" 2 (a09 K t) v0_ (o_ v3_ (Ah (Av K) v1_ v3_))))) Af)) (Ae (Ar v2_) Af)
noncomputable def b44:R_:=λK t=>Ae (dIf (Fd (Dw K (r_ (Hq K) (o_ v1_ (dC (.ty "dict")))))) (Ae A8 Af) Af) (Ae (Ao 2 (Bf "all_choices" 0 (Fm K t) v0_ Ag)) (M0 K t))
noncomputable def Jz:R_:=λK t=>Ae (By (Bh K v0_) (gdN 2) (Ae (Cz (r_ (Gh K true) (n_ (Ah (Av K) v0_ v2_))) (B8 K v1_ v2_)) Af)) (Ae (Ar v1_) Af)
noncomputable def b26:R_:=λK t=>Ae (Ao 1 Cl) (Jz K t)
noncomputable def cc0:R_:=λK t=>Ae (dIf (dOr (Fd (Dw K (r_ (Hq K) (o_ v1_ (dC (.ty "dict")))))) (Bb (Ah (Bp K false) (r_ (Dh K) (n_ v1_)) (m_ 0)))) (Ae A8 Af) Af) (Ae (ai6 (Ae (C0 (Bf "box" 1 (am5 K t) v0_ (n_ v1_))) Af)) (Ae (Ar (q_ (Vw K t) (n_ v1_))) Af))
noncomputable def Fu:R_:=λK t=>Ae (dIf (dOr (Fd (Dw K (r_ (Hq K) (o_ v1_ (dC (.ty "list")))))) (Bb (Ah ab0 (r_ (Dh K) (n_ v1_)) (m_ 8)))) (Ae A8 Af) Af) (Ae (Ar (Be [none,some 0] (Bh K v1_) (gdN 0) Bv (Bf "read_rule" 1 (Pr K t) v1_ (n_ v0_)))) Af)
noncomputable def cb4:R_:=λK t=>Ae (dIf (Bb (Ah (Te false) v1_ (dC .non))) (Ae (Ar (B9 Ag)) Af) Af) (Fu K t)
noncomputable def M1:R_:=λK t=>Ae (Ar (Nt K (q_ (Yz K t) (n_ (Ah (Av K) v0_ (m_ 1)))) (Dv Hr Hr (m_ 2) (r_ (Dh K) (n_ (Ah (Av K) v0_ (m_ 1)))) (m_ 4)))) Af
noncomputable def b47:R_:=λK t=>Ae (dIf (dOr (Fd (Dw K (r_ (Hq K) (o_ v0_ (dC (.ty "tuple")))))) (dOr (Bb (Ah (Bp K true) (r_ (Dh K) (n_ v0_)) (m_ 2))) (Fd (Dw K (q_ (Qk K t) (n_ (Ah (Av K) v0_ (m_ 0)))))))) (Ae (Ar (dC (.bl false))) Af) Af) (M1 K t)
noncomputable def Hx:R_:=λK t=>Ae (Cz (r_ (Gi K) (n_ (Ah (Av K) v3_ (m_ 1)))) (B8 K v1_ (Ah (Av K) v3_ (m_ 0)))) (Ae (Ao 2 (Ah (Dl K) v2_ (r_ (Dh K) (n_ (Ah (Av K) v3_ (m_ 1)))))) Af)
noncomputable def Hy:R_:=λK t=>Ae (dIf (dOr (Fd (Dw K (q_ (We K t) (n_ v3_)))) (Bb (Ah (Jx K false) (Ah (Av K) v3_ (m_ 0)) v1_))) (Ae A8 Af) Af) (Hx K t)
noncomputable def Hz:R_:=λK t=>Ae (Ao 2 (m_ 1)) (Ae (By (Bh K v0_) (gdN 3) (Hy K t)) (Ae (dIf (Bb (Ah ab0 v2_ (m_ 256))) (Ae A8 Af) Af) (Ae (Ar v1_) Af)))
noncomputable def cd2:R_:=λK t=>Ae (dIf (dOr (Fd (Dw K (r_ (Hq K) (o_ v0_ (dC (.ty "list")))))) (Fd (Bb (Dv Hr Hr (m_ 1) (r_ (Dh K) (n_ v0_)) (m_ 5))))) (Ae A8 Af) Af) (Ae (Ao 1 Cl) (Hz K t))
noncomputable def Eu:R_:=λK t=>Ae (C0 (dMt (rMt K [⟨"list","list.extend", Kn⟩]) v3_ (n_ (Be [none,some 4] (Bh K (Ah (Av K) v0_ v2_)) (gdN 0) Bv (Ah (Bj K) v1_ (C4 (n_ v0_))))))) Af
noncomputable def cb2:R_:=λK t=>Ae (Ao 1 (B9 (n_ (C4 Ag)))) (Ae (By (Bh K v0_) (gdN 2) (Ae (Ao 3 (B9 Ag)) (Ae (By (Bh K v1_) (gdN 4) (Eu K t)) (Ae (Ao 1 v3_) Af)))) (Ae (Ar v1_) Af))
noncomputable def cb1:R_:=λK t=>Ae (Ao 1 Cl) (Ae (By (iEn K (n_ v0_)) (gdT K 2 [gdN 2,gdN 3]) (Ae (Cz v2_ (B8 K v1_ v3_)) Af)) (Ae (Ar v1_) Af))
noncomputable def b69:R_:=λK t=>Ae (Ao 1 (m_ 0)) (Ae (By (Bh K v0_) (gdN 2) (Ae (Ao 1 (Ah Vl v1_ (Ah Od (m_ 1) v2_))) Af)) (Ae (Ar v1_) Af))
noncomputable def Fw:R_:=λK t=>Ae (Ao 6 (Be [none,none,some 3,some 5] (iEn K (n_ v1_)) (gdT K 2 [gdN 0,gdN 1]) (Bb (Ah (Bp K false) (Ah (Av K) v1_ v2_) v3_)) v0_)) (Ae (Cz (q_ (Wo K t) (n_ v6_)) (B8 K (Ah (Av K) v2_ v4_) v5_)) Af)
noncomputable def Fx:R_:=λK t=>Ae (By (iEn K (n_ v0_)) (gdT K 2 [gdN 3,gdN 4]) (Ae (Cz Cl (B8 K v2_ v4_)) (Ae (By (Bh K (Ah (Av K) v0_ v4_)) (gdN 5) (Fw K t)) Af))) (Ae (Ar v2_) Af)
noncomputable def cb9:R_:=λK t=>Ae (Ao 2 Cl) (Fx K t)
noncomputable def L0:R_:=λK t=>Ae (G4 K "free" v0_ (Ah Jr (Bf "all_choices" 0 (Fm K t) v0_ Ag) (dUn Yp (q_ (Lv K t) (n_ (dUn (Bm K "bars") v0_)))))) (Ae (dIf (Bb (Ah (Bp K false) (dUn (Bm K "free") v0_) (m_ 0))) (Ae A8 Af) Af) Af)
noncomputable def L6:R_:=λK t=>Ae (G4 K "kept_rules" v0_ (Bf "read_rules" 1 (Mw K t) v0_ (n_ v2_))) (Ae (G4 K "bars" v0_ (Be [none,some 0] (Bh K (dUn (Bm K "kept_rules") v0_)) (gdN 0) Bv (Bf "box" 1 (am5 K t) v1_ (n_ v0_)))) (L0 K t))
noncomputable def L8:R_:=λK t=>Ae (G4 K "numbers" v0_ (q_ (ar7 K t) (n_ (dUn (Bm K "tuples") v0_)))) (Ae (G4 K "sets" v0_ (q_ (as7 K t) (o_ (dUn (Bm K "settings") v0_) (dUn (Bm K "tuples") v0_)))) (L6 K t))
noncomputable def b33:R_:=λK t=>Ae (G4 K "settings" v0_ (q_ (au0 K t) (n_ v1_))) (Ae (G4 K "tuples" v0_ (q_ (as1 K t) (n_ (dUn (Bm K "settings") v0_)))) (L8 K t))
noncomputable def b46:R_:=λK t=>Ae (Cz (C4 (Ac v2_ (p_ v3_ v4_ v5_))) (B8 K (dUn (Bm K "records") v0_) v1_)) Af
noncomputable def M6:R_:=λK t=>Ae (Cz (Ah (Av K) v0_ v2_) (gdT K 4 [gdN 3,gdN 4,gdN 5,gdN 6])) (Ae (C0 (Bf "lay" 5 (bg6 K t) v1_ (Ac v2_ (Ac v3_ (p_ v4_ v5_ v6_))))) Af)
noncomputable def b51:R_:=λK t=>Ae (Ao 1 (dFn (mkC t.c_zcf (some (i_zap K t)) 0) Ag)) (Ae (By (Bh K v0_) (gdN 2) (M6 K t)) (Ae (Ar v1_) Af))
noncomputable def Qp:R_:=λK t=>Ae (C0 (dMt (rMt K [⟨"list","list.append", Cj⟩]) v6_ (n_ (C4 (o_ (Ah Od (m_ 1) v7_) (q_ (Qf K t) (n_ (Ah (Av K) v1_ v7_)))))))) Af
noncomputable def Qq:R_:=λK t=>Ae (Ao 5 (dFn (mkC t.c_zce (some (i_zam K t)) 1) (o_ (Be [none,none] (Bh K v2_) (gdT K 2 [gdN 0,gdN 1]) Bv (C4 (o_ v0_ (r_ (Gh K true) (n_ v1_))))) v3_))) (Ae (Ao 6 (B9 Ag)) (Ae (By (Bh K v1_) (gdN 7) (Qp K t)) (Ae (Ar (q_ (Qh K t) (o_ v5_ v6_))) Af)))
noncomputable def b59:R_:=λK t=>Ae (Cz v0_ (gdT K 3 [gdN 2,gdN 3,gdN 4])) (Qq K t)
noncomputable def Gk:R_:=λK t=>Ae (Cz (C4 (p_ (Ah Vl (Ah (Av K) v10_ (m_ 0)) (Ah Od (m_ 1) v7_)) (Ah (Av K) v10_ (m_ 1)) (Ah (Av K) v10_ (m_ 2)))) (B8 K v6_ (Ah (Av K) v11_ (m_ 0)))) Af
noncomputable def Gm:R_:=λK t=>Ae (C0 (dMt (rMt K [⟨"list","list.append", Cj⟩]) v6_ (n_ (C4 (p_ (Ah Od (m_ 1) v7_) (q_ (Qf K t) (n_ v8_)) (Ah (Av K) v1_ v7_)))))) Af
noncomputable def Gn:R_:=λK t=>Ae (dIf (Bb (Ah (Bp K false) v11_ (B9 Ag))) (Gm K t) (Ae (Ao 10 (Ah (Av K) v6_ (Ah (Av K) v11_ (m_ 0)))) (Gk K t))) Af
noncomputable def Go:R_:=λK t=>Ae (Ao 11 (Be [none,none,some 1,some 7] (iEn K (n_ v6_)) (gdT K 2 [gdN 0,gdN 1]) (Bb (Ah (Bp K false) (Ah (Av K) v1_ (m_ 2)) (Ah (Av K) v2_ v3_))) v0_)) (Gn K t)
noncomputable def Gp:R_:=λK t=>Ae (By (Uz K (r_ (Gh K true) (n_ (Ah (Av K) v1_ v7_)))) (gdN 9) (Ae (Cz (Ah (Av K) (Ah (Av K) v1_ v7_) v9_) (B8 K v8_ v9_)) Af)) (Go K t)
noncomputable def Gq:R_:=λK t=>Ae (By (Uz K v4_) (gdN 7) (Ae (Ao 8 Cl) (Gp K t))) (Ae (Ar (q_ (Qh K t) (o_ v5_ (Be [none] (Bh K v6_) (gdN 0) Bv (dSl K v0_ Gd (K3 (m_ 2))))))) Af)
noncomputable def Gr:R_:=λK t=>Ae (Ao 5 (dFn (mkC t.c_zce (some (i_zam K t)) 1) (o_ (Be [none,none] (Bh K v2_) (gdT K 2 [gdN 0,gdN 1]) Bv (C4 (o_ v0_ (r_ (Gh K true) (n_ v1_))))) v3_))) (Ae (Ao 6 (B9 Ag)) (Gq K t))
noncomputable def cc5:R_:=λK t=>Ae (Cz v0_ (gdT K 3 [gdN 2,gdN 3,gdN 4])) (Gr K t)
noncomputable def J0:R_:=λK t=>Ae (Cz (C4 (Ac v5_ (p_ v6_ (Ah Bi (Ah (Bj K) v7_ (m_ 1)) (m_ 1000)) v8_))) (B8 K v9_ v4_)) (Ae (Ar v9_) Af)
noncomputable def J1:R_:=λK t=>Ae (dIf (Bb (Ah (Jx K false) (Ah (Av K) (Ah (Av K) v1_ v11_) (m_ 1)) v10_)) (Ae (C0 (dMt (rMt K [⟨"list","list.append", Cj⟩]) v10_ (n_ v11_))) Af) Af) Af
noncomputable def J2:R_:=λK t=>Ae (By (Bh K v3_) (gdN 11) (Ae (dIf (Bb (Ah (Jx K true) v11_ v10_)) (Ae (Cz (Ah (Av K) v1_ v11_) (B8 K v9_ v11_)) Af) Af) Af)) (Ae (Ar v9_) Af)
noncomputable def J3:R_:=λK t=>Ae (dIf (Bb (Ah (Bp K false) (Ah Bi (q_ (Bn K t) (o_ v0_ (m_ 4))) (m_ 2)) (m_ 0))) (Ae (Ao 9 (r_ Ho (n_ v1_))) (J0 K t)) Af) (Ae (Ao 10 (B9 (n_ v4_))) (Ae (By (Bh K v3_) (gdN 11) (J1 K t)) (Ae (Ao 9 Cl) (J2 K t))))
noncomputable def J4:R_:=λK t=>Ae (Ao 4 (Ah (Av K) v3_ (Ah Bi (q_ (Bn K t) (o_ v0_ (m_ 3))) (r_ (Dh K) (n_ v3_))))) (Ae (Cz (Ah (Av K) v1_ v4_) (gdT K 4 [gdN 5,gdN 6,gdN 7,gdN 8])) (J3 K t))
noncomputable def J5:R_:=λK t=>Ae (dIf (Bb (Ah (Bp K false) v3_ (B9 Ag))) (Ae (Ar (bd0 (Ah (Av K) v2_ (m_ 0)) (C4 (Ac (dC (.str "para")) (p_ (dC (.str "")) (m_ 7) (dC (.str ""))))))) Af) Af) (J4 K t)
noncomputable def b27:R_:=λK t=>Ae (Ao 3 (r_ (Gh K true) (n_ v1_))) (J5 K t)
noncomputable def cb7:R_:=λK t=>Ae (dIf (O7 (Bb (Ah (Bp K true) v1_ (dC (.str "")))) (Bb (Ah (Jx K true) v1_ (dUn (Bm K "records") v0_)))) (Ae A8 Af) Af) Af
noncomputable def b25:R_:=λK t=>Ae (dIf (Bb (Ah (Jx K true) v1_ (dUn (Bm K "records") v0_))) (Ae A8 Af) Af) (Ae (Ar (Ah (Av K) (dUn (Bm K "records") v0_) v1_)) Af)
noncomputable def cc1:R_:=λK t=>Ae (Ar (Ah (Av K) (Bf "state" 1 (Hm K t) v0_ (n_ v1_)) (m_ 1))) Af
noncomputable def cd1:R_:=λK t=>Ae (Ar (Ah (Av K) (Bf "state" 1 (Hm K t) v0_ (n_ v1_)) (m_ 2))) Af
noncomputable def cc2:R_:=λK t=>Ae (Ar (C4 (o_ (Bf "rank_of" 1 (U9 K t) v0_ (n_ v1_)) v1_))) Af
noncomputable def Fv:R_:=λK t=>Ae (C0 (dMt (rMt K [⟨"list","list.append", Cj⟩]) (dMt (rMt K [⟨"dict","dict.setdefault", Tg⟩]) v1_ (o_ (Bf "parent_of" 1 (Pq K t) v0_ (n_ v2_)) (B9 Ag))) (n_ v2_))) Af
noncomputable def cb5:R_:=λK t=>Ae (Ao 1 Cl) (Ae (By (Bh K (ai5 K "place_key" (Hl K t) (dUn (Bm K "records") v0_) v0_)) (gdN 2) (Fv K t)) (Ae (Ar v1_) Af))
noncomputable def Mb:R_:=λK t=>Ae (C0 (dMt (rMt K [⟨"list","list.extend", Kn⟩]) v4_ (n_ (Be [none,some 5] (Uz K (dMt (rMt K [⟨"dict","dict.get", Hn⟩]) v2_ (o_ (Ah (Av K) v5_ (m_ 1)) (B9 Ag)))) (gdN 0) Bv (C4 (o_ (Ah (Bj K) (Ah (Av K) v1_ (m_ 0)) (m_ 1)) v0_)))))) Af
noncomputable def Mc:R_:=λK t=>Ae (Uq (Bb (Ah (Bp K true) v4_ (B9 Ag))) (Ae (Ao 5 (dMt (rMt K [⟨"list","list.pop", a97⟩]) v4_ Ag)) (Ae (C0 (dMt (rMt K [⟨"list","list.append", Cj⟩]) v3_ (n_ v5_))) (Mb K t)))) (Ae (Ar v3_) Af)
noncomputable def Md:R_:=λK t=>Ae (Ao 4 (Be [none] (Uz K (dMt (rMt K [⟨"dict","dict.get", Hn⟩]) v2_ (o_ v1_ (B9 Ag)))) (gdN 0) Bv (C4 (o_ (m_ 1) v0_)))) (Mc K t)
noncomputable def b38:R_:=λK t=>Ae (Ao 2 (Bf "all_unders" 0 (Mt K t) v0_ Ag)) (Ae (Ao 3 (B9 Ag)) (Md K t))
noncomputable def cd0:R_:=λK t=>Ae (C0 (Bf "need_place" 1 (Mv K t) v0_ (n_ v1_))) (Ae (Ar (Be [none,none] (Bh K (Bf "walk" 1 (a10 K t) v0_ (n_ v1_))) (gdT K 2 [gdN 0,gdN 1]) Bv v1_)) Af)
noncomputable def b45:R_:=λK t=>Ae (Ar (Ah (Jx K false) v1_ (dUn (Bm K "records") v0_))) Af
noncomputable def cc4:R_:=λK t=>Ae (Ao 2 (Be [none,none,some 1] (Bh K (dUn (Bm K "kept") v0_)) (gdT K 2 [gdN 0,gdN 1]) (Dw K (Bf "has" 1 (bg5 K t) v1_ (n_ v2_))) (C4 (o_ v0_ v1_)))) (Ae (dIf (Bb (Ah (Bp K false) v2_ (B9 Ag))) (Ae A8 Af) Af) (Ae (Ar v2_) Af))
noncomputable def b32:R_:=λK t=>Ae (Ar (q_ (Lv K t) (n_ (Be [none,none] (Bh K (Bf "rows_with" 1 (Dp K t) v0_ (n_ v1_))) (gdT K 2 [gdN 0,gdN 1]) Bv v0_)))) Af
noncomputable def Tp:R_:=λK t=>Ae (By (Bh K v0_) (gdT K 2 [gdN 2,gdN 3]) (Ae (Cz (Ah Vl (dMt (rMt K [⟨"dict","dict.get", Hn⟩]) v1_ (o_ v3_ (m_ 0))) v2_) (B8 K v1_ v3_)) Af)) (Ae (Ar (Be [none,some 1] (Bh K v1_) (gdN 0) Bv (C4 (o_ (Ah (Av K) v1_ v0_) v0_)))) Af)
noncomputable def b65:R_:=λK t=>Ae (Ao 1 Cl) (Tp K t)
noncomputable def b22:R_:=λK t=>Ae (Ar (q_ (Lw K t) (n_ (Be [none,none,some 1] (Bh K (Bf "rows_with" 1 (Dp K t) v0_ (n_ v1_))) (gdT K 2 [gdN 0,gdN 1]) Bv (C4 (o_ v0_ (dSl K (Bf "state" 1 (Hm K t) v1_ (n_ v2_)) Gd (K3 (m_ 3))))))))) Af
noncomputable def cb6:R_:=λK t=>Ae (Ar (Ah (Av K) (Bf "state" 1 (Hm K t) v0_ (n_ v1_)) (m_ 3))) Af
noncomputable def cc8:R_:=λK t=>Ae (Ar (q_ (Lw K t) (n_ (Be [none,none,some 1] (Bh K (Bf "rows_with" 1 (Dp K t) v0_ (n_ v1_))) (gdT K 2 [gdN 0,gdN 1]) Bv (C4 (o_ v0_ (Bf "content_of" 1 (Mu K t) v1_ (n_ v2_)))))))) Af
noncomputable def Jd:R_:=λK t=>Ae (By (Bh K (Bf "beneath" 1 (Sk K t) v4_ (n_ v1_))) (gdN 5) (Ae (Cz (Ah Vl (dMt (rMt K [⟨"dict","dict.get", Hn⟩]) v2_ (o_ v5_ (m_ 0))) v3_) (B8 K v2_ v5_)) Af)) Af
noncomputable def Je:R_:=λK t=>Ae (Ar (Be [none,some 2] (Bh K (r_ (Qb K true) (n_ v2_))) (gdN 0) Bv (C4 (o_ v0_ (Ah (Av K) v1_ v0_))))) Af
noncomputable def cd3:R_:=λK t=>Ae (Ao 2 Cl) (Ae (By (Bh K (Bf "rows_with" 1 (Dp K t) v0_ (n_ v1_))) (gdT K 2 [gdN 3,gdN 4]) (Jd K t)) (Je K t))
noncomputable def Gs:R_:=λK t=>Ae (dIf (dOr (Bb (Ah (Bp K true) (Bf "contents" 1 (Jp K t) v0_ (n_ v2_)) (Bf "contents" 1 (Jp K t) v1_ (n_ v2_)))) (Bb (Ah (Bp K true) (Bf "beneath" 1 (E1 K t) v0_ (n_ v2_)) (Bf "beneath" 1 (E1 K t) v1_ (n_ v2_))))) (Ae (Ar (dC (.bl false))) Af) Af) Af
noncomputable def Gu:R_:=λK t=>Ae (dIf (dOr (Bb (Ah (Bp K true) (Bf "where" 1 (Sn K t) v0_ (n_ v2_)) (Bf "where" 1 (Sn K t) v1_ (n_ v2_)))) (Bb (Ah (Bp K true) (Bf "places" 1 (Ob K t) v0_ (n_ v2_)) (Bf "places" 1 (Ob K t) v1_ (n_ v2_))))) (Ae (Ar (dC (.bl false))) Af) Af) (Gs K t)
noncomputable def cc7:R_:=λK t=>Ae (dIf (dOr (Bb (Ah (Bp K true) (Bf "names" 0 (Eo K t) v0_ Ag) (Bf "names" 0 (Eo K t) v1_ Ag))) (Bb (Ah (Bp K true) (Bf "classes" 0 (D7 K t) v0_ Ag) (Bf "classes" 0 (D7 K t) v1_ Ag)))) (Ae (Ar (dC (.bl false))) Af) Af) (Ae (By (Bh K (Bf "names" 0 (Eo K t) v0_ Ag)) (gdN 2) (Gu K t)) (Ae (Ar (dC (.bl true))) Af))
noncomputable def M5:R_:=λK t=>Ae (dIf (Bb (Ah (Jx K true) (Ah (Av K) v0_ v2_) v1_)) (Ae (C0 (dMt (rMt K [⟨"list","list.append", Cj⟩]) v1_ (n_ (Ah (Av K) v0_ v2_)))) Af) Af) Af
noncomputable def b49:R_:=λK t=>Ae (Ao 1 (B9 Ag)) (Ae (By (Bh K v0_) (gdN 2) (M5 K t)) (Ae (Ar (r_ (Dh K) (n_ v1_))) Af))
noncomputable def b58:R_:=λK t=>Ae (Ar (Nt K (r_ (Hq K) (o_ v0_ (dC (.ty "int")))) (ai4 K (r_ (Hq K) (o_ v0_ (dC (.ty "bool"))))))) Af
noncomputable def Jy:R_:=λK t=>Ae (By (Bh K (dUn (Bm K "kept") v0_)) (gdN 2) (Ae (dIf (Dw K (q_ (Ql K t) (o_ (Ah (Av K) v2_ (m_ 0)) v1_))) (Ae (Ar v2_) Af) Af) Af)) Af
noncomputable def b23:R_:=λK t=>Ae (dIf (O7 (Dw K (q_ (Wl K t) (n_ v1_))) (Bb (Dv Hr br2 (m_ 0) v1_ (Bf "many" 0 (Yd K t) (dUn (Bm K "panel") v0_) Ag)))) (Jy K t) Af) (Ae A8 Af)
noncomputable def b31:R_:=λK t=>Ae (Ar (Bf "copied" 0 (Oa K t) (Ah (Av K) (Bf "row_of" 1 (Z9 K t) v0_ (n_ v1_)) (m_ 1)) Ag)) Af
noncomputable def cc6:R_:=λK t=>Ae (Ar (Ah (Te false) (Bf "same" 1 (E2 K t) (Bf "plain" 1 (Sm K t) v0_ (n_ v2_)) (n_ (Bf "plain" 1 (Sm K t) v1_ (n_ v2_)))) (dC (.bl true)))) Af
noncomputable def a58:R_:=λK t=>Ae (dIf (dOr (Fd (Dw K (q_ (Y0 K t) (p_ v4_ v5_ v9_)))) (Bb (Ah (Bp K false) (q_ (Y0 K t) (p_ v4_ v8_ v9_)) (Ah (Bp K false) v9_ v6_)))) (Ae (Ar (dC (.bl false))) Af) Af) Af
noncomputable def a59:R_:=λK t=>Ae (dIf (dOr (Bb (Ah (Te true) (Bf "same" 1 (E2 K t) v4_ (n_ v8_)) (dC (.bl false)))) (dOr (Bb (Ah (Te true) (Bf "same" 1 (E2 K t) v8_ (n_ v5_)) (dC (.bl false)))) (Bb (Ah (Bp K true) (r_ (Dh K) (n_ (Bf "classes" 0 (D7 K t) v8_ Ag))) (q_ (Wg K t) (n_ v7_)))))) (Ae (Ar (dC (.bl false))) Af) Af) (Ae (By (Bh K v3_) (gdN 9) (a58 K t)) (Ae (Ar (dC (.bl true))) Af))
noncomputable def a60:R_:=λK t=>Ae (Cz (q_ (Vx K t) (p_ (q_ (Ea K t) (o_ v0_ (m_ 6))) (Ah (Av K) v3_ v6_) v2_)) (B8 K v7_ v6_)) (Ae (Ao 8 (q_ (Qi K t) (o_ v1_ v7_))) (a59 K t))
noncomputable def a61:R_:=λK t=>Ae (Ao 6 (Ah (Av K) (Ah (Av K) v1_ (m_ 2)) (Ah Bi (q_ (Ea K t) (o_ v0_ (m_ 5))) (r_ (Dh K) (n_ (Ah (Av K) v1_ (m_ 2))))))) (Ae (Ao 7 (r_ Ho (n_ v3_))) (a60 K t))
noncomputable def a62:R_:=λK t=>Ae (dIf (dOr (Bb (Ah (Te true) (Bf "same" 1 (E2 K t) v4_ (n_ v5_)) (dC (.bl true)))) (dOr (Bb (Ah (Te true) (Bf "same" 1 (E2 K t) v5_ (n_ v4_)) (dC (.bl true)))) (Fd (Dw K (q_ (at5 K t) (o_ v4_ v5_)))))) (Ae (Ar (dC (.bl false))) Af) Af) (a61 K t)
noncomputable def b70:R_:=λK t=>Ae (Cz (q_ (Wm K t) (o_ v0_ (Ah (Bp K false) (Ah Bi (q_ (Ea K t) (o_ v0_ (m_ 0))) (m_ 8)) (m_ 1)))) (gdT K 3 [gdN 1,gdN 2,gdN 3])) (Ae (Ao 4 (q_ (Qi K t) (o_ v1_ v3_))) (Ae (Ao 5 (q_ (at4 K t) (o_ v1_ v3_))) (a62 K t)))
end K35
namespace K35
open PySem L2 Pn
def Hv{α:Type} [DecidableEq α]{l:List α}{x:List α}(nd:l.Nodup)(h:∀z∈l,z∈x):l.length<=x.length:=by
 induction l generalizing x with
 |nil=>exact bw _
 |cons a l ih=>
  obtain⟨na,nd⟩:=List.nodup_cons.mp nd
  have ha:=h a aD
  have:=ih nd λz hz=>(List.mem_erase_of_ne (λe:z=a=>na (e▸hz))).mpr (h z (aA _ hz))
  rw[List.length_erase_of_mem ha] at this
  have:0<x.length:=List.length_pos_of_mem ha
  rw[aP]
  omega
def az4(sw:Sw)(ζ:List Sw):An sw ζ=(aV (Al sw).length).filter λi=>(Ek sw ζ).testBit i:=by
 refine List.filter_congr λi hi=>?_
 rw[Zs,decide_eq_true (List.mem_range.mp hi),jg]
 rfl
def El{sw:Sw}{ζ:List Sw}{n:Nat}(h:n∈An sw ζ):n<(Al sw).length/\(Ek sw ζ).testBit n=true:=by
 rw[az4,bX,cx] at h
 exact h
def Ha(sw:Sw)(ζ:List Sw):(An sw ζ).Pairwise (· < ·):=List.Pairwise.filter _ List.pairwise_lt_range
def az5{sw:Sw}{ζ:List Sw}(h:An sw ζ≠[]):K9 sw ζ≠0:=by
 obtain⟨n,hn⟩:=List.exists_mem_of_ne_nil _ h
 have:=(El hn).2
 rw[Ik]
 intro e
 have e:Ek sw ζ=0:=by omega
 rw[e,dP] at this
 cases this
theorem Ry{α β:Type}(f:α->List β){s:Nat}(hs:0<s):∀(l:List α),(∀a∈l,(f a).length=s) -> ∀n,(l.flatMap f)[n]?=(l[n/s]?).bind λa=>(f a)[n%s]?
 |[],_,n=>by simp
 | a::l,h,n=>by
  have ha:=h a aD
  rw[i4]
  by_cases hn:n<s
  .rw[bE (by rw[ha];exact hn),Nat.div_eq_of_lt hn,Nat.mod_eq_of_lt hn];rfl
  .rw[bq (by rw[ha];omega),ha,Ry f hs l (λb hb=>h b (aA _ hb)),Nat.div_eq_sub_div (a:=n) hs (by omega),bN,Nat.mod_eq_sub_mod (a:=n) (by omega)]
theorem Ei:∀l n,(Mr l n).length=l.length
 |[],_=>rfl
 |s::r,n=>by rw[Mr,aG,Ei r];rfl
theorem Yv:∀(L:Sw),(∀x∈L,Ga x.2) -> ∀(n:Nat)(r:List Str),(Al L.reverse)[n]?=some r -> ∀(i:Nat)(x:Str×List Str),L.reverse[i]?=some x -> ∃d,(Mr (L.map (·.2.length)) n)[i]?=some d/\d<x.2.length/\r[i]?=x.2[d]?
 |[],_,n,r,_,i,x,hx=>by simp at hx
 | y::L,h,n,r,hr,i,x,hx=>by
  have oy:=h y aD
  have h2:∀x∈L,Ga x.2:=λx hx=>h x (aA _ hx)
  have pos:0<y.2.length:=by have:=oy.2.1;omega
  have e:Al (y::L).reverse=Et (Al L.reverse) y:=by unfold Al;rw[List.reverse_cons,fQ];rfl
  rw[e] at hr
  unfold Et at hr
  rw[Ry _ pos _ (λa _=>ae _)] at hr
  obtain⟨a,ha,hb⟩:=Option.bind_eq_some_iff.mp hr
  rw[ao] at hb
  obtain⟨z,hz,rfl⟩:=Option.map_eq_some_iff.mp hb
  have la:a.length=L.length:=by
   have:=(Hu λx hx=>h2 x (List.mem_reverse.mp hx)).2.1 a (ah ha)
   rwa[aS] at this
  rw[List.reverse_cons] at hx
  rw[a7,Mr]
  by_cases hi:i<L.length
  .rw[bE (by rw[aS];exact hi)] at hx
   obtain⟨d,h3,h4,h5⟩:=Yv L h2 (n/y.2.length) a ha i x hx
   refine⟨d,?_,h4,?_⟩
   .rw[bE (by rw[Ei,ae];exact hi)];exact h3
   .rw[bE (by omega)];exact h5
  .have hi2:i=L.length:=by
    have:=Aj hx
    rw[aG,aS] at this
    have:i<L.length+1:=this
    omega
   subst hi2
   rw[bq (by rw[aS];exact af _),aS,gp] at hx
   cases hx
   refine⟨n%y.2.length,?_,Nat.mod_lt _ pos,?_⟩
   .rw[bq (by rw[Ei,ae];exact af _),Ei,ae,gp];rfl
   .rw[bq (by omega),la,gp,hz];rfl
def bd4{sw:Sw}{n i:Nat}{r:List Str}{x:Str×List Str}(hw:okSw sw)(hn:(Al sw)[n]?=some r)(hx:sw[i]?=some x):∃d,(Rv sw n)[i]?=some d/\d<x.2.length/\r[i]?=x.2[d]?:=by
 have:=Yv sw.reverse (λx hx=>hw.sets x (List.mem_reverse.mp hx)) n r (by rw[j9];exact hn) i x (by rw[j9];exact hx)
 rwa[bZ] at this
def K5(sw:Sw)(n:Nat):(Rv sw n).length=sw.length:=by unfold Rv;rw[Ei,aS,ae]
theorem bnd:∀l:List Nat,∃N,∀m∈l,m<N
 |[]=>⟨0,λ_ h=>by cases h⟩
 | n::l=>by
  obtain⟨N,h⟩:=bnd l
  exact⟨N+n+1,λm hm=>by rcases List.mem_cons.mp hm with rfl|hm;omega;have:=h m hm;omega⟩
mutual
def tkD:TK->Dt
 |.at_ k=>.at_ (kV k)
 |.tup l=>.tup (E5 l)
def E5:List TK->List Dt
 |[]=>[]
 |k::ks=>tkD k::E5 ks
end
def br7{K:ac}{H:Hp}(x:TK):∀{v:V},TkAt H x v->At K H (tkD x) v:=by
 refine TK.rec (motive_1:=λx=>∀{v:V},TkAt H x v->At K H (tkD x) v) (motive_2:=λl=>∀{vs:List V},Au H l vs->AtL K H (E5 l) vs) ?_ ?_ ?_ ?_ x
 .intro k v h;unfold TkAt at h;unfold tkD At;exact⟨h,Pm k⟩
 .intro l ih v h;unfold TkAt at h;obtain⟨a,xs,e,q,i⟩:=h;unfold tkD At;exact⟨a,xs,e,SqT.of q,ih i⟩
 .intro vs h;unfold Au at h;unfold E5 AtL;exact h
 .intro x l h1 h2 vs h;unfold Au at h;obtain⟨v,r,e,q1,q2⟩:=h;unfold E5 AtL;exact⟨v,r,e,h1 q1,h2 q2⟩
def a64(x:TK):dep (tkD x)=Ap x:=by
 refine TK.rec (motive_1:=λx=>dep (tkD x)=Ap x) (motive_2:=λl=>Ge (E5 l)=Ck l) ?_ ?_ ?_ ?_ x
 .intro k;unfold tkD dep Ap;rfl
 .intro l ih;unfold tkD dep Ap;rw[ih]
 .unfold E5 Ge Ck;rfl
 .intro x l h1 h2;unfold E5 Ge Ck;rw[h1,h2]
def br8(x:TK):∀y,deq (tkD x) (tkD y)=decide (x=y):=by
 refine TK.rec (motive_1:=λx=>∀y,deq (tkD x) (tkD y)=decide (x=y)) (motive_2:=λl=>∀l',Fe (E5 l) (E5 l')=decide (l=l')) ?_ ?_ ?_ ?_ x
 .intro k y
  cases y with
  |at_ k'=>unfold tkD deq;exact(ag9 k k').symm
  |tup l=>unfold tkD deq;exact(decide_eq_false λe=>by cases e).symm
 .intro l ih y
  cases y with
  |at_ k'=>unfold tkD deq;exact(decide_eq_false λe=>by cases e).symm
  |tup l'=>unfold tkD deq;rw[ih l'];exact decide_eq_decide.mpr ⟨λe=>by rw[e],λe=>by injection e⟩
 .intro l'
  cases l' with
  |nil=>unfold E5 Fe;exact(decide_eq_true rfl).symm
  |cons _ _=>unfold E5 Fe;exact(decide_eq_false λe=>by cases e).symm
 .intro x l h1 h2 l'
  cases l' with
  |nil=>unfold E5 Fe;exact(decide_eq_false λe=>by cases e).symm
  |cons y l'=>
   unfold E5 Fe
   rw[h1,h2,<- Bool.decide_and]
   exact decide_eq_decide.mpr ⟨fun⟨a,b⟩=>by rw[a,b],λe=>by injection e with a b;exact⟨a,b⟩⟩
def RcAt.tk{H:Hp}{a:Addr}{x:Rc}(h:RcAt H a x):TkAt H (rcT x) (.ref a):=by
 obtain⟨v,e,q⟩:=h
 refine⟨a,_,rfl,e,?_⟩
 unfold Au;refine⟨_,_,rfl,by unfold TkAt;rfl,?_⟩
 unfold Au;refine⟨_,_,rfl,by unfold TkAt;rfl,?_⟩
 unfold Au;refine⟨_,_,rfl,by unfold TkAt;rfl,?_⟩
 unfold Au;refine⟨_,_,rfl,q,?_⟩
 unfold Au;rfl
theorem RcAt.up{H H':Hp}(h:∀b ys,H b=some (.tup ys)->H' b=some (.tup ys)){a:Addr}{x:Rc}(q:RcAt H a x):RcAt H' a x:=let⟨v,e,q⟩:=q;⟨v,h _ _ e,q.up h⟩
theorem Ef:∀{T:Tr}{n:Str}{x:Rc},T.lookup n=some x->(n,x)∈T
 |[],_,_,h=>by cases h
 | (m,y)::T,n,x,h=>by
  rw[cU] at h
  split at h
  .rename_i e
   cases h
   rw[cK e]
   exact aD
  .exact aA _ (Ef h)
theorem Ez:∀{T:Tr}{n:Str}{x:Rc},(T.map (·.1)).Nodup->(n,x)∈T->T.lookup n=some x
 | (m,y)::T,n,x,nd,h=>by
  rw[a7,bG] at nd
  rw[cU]
  rcases List.mem_cons.mp h with e|h
  .cases e
   rw[beq_self_eq_true]
  .have:(n==m)=false:=beq_false_of_ne λe=>nd.1 (by rw[<- e];exact List.mem_map.mpr ⟨(n,x),h,rfl⟩)
   rw[this]
   exact Ez nd.2 h
theorem Ce{n:Nat}:∀{l:List TK},(∀k∈l,Ap k<=n)->Ck l<=n
 |[],_=>by unfold Ck;exact bw _
 |d::ds,h=>by unfold Ck;exact Nat.max_le.mpr ⟨h d aD,Ce λx hx=>h x (aA _ hx)⟩
def Cs(k:Key)(n:Nat):Ap (.at_ k)<=n:=by unfold Ap;exact bw _
def Ys{x:Rc}(h:Ap x.c<=2):Ap (rcT x)<=3:=by
 refine bJ (Ce λk hk=>?_)
 simp only[aB,cf,or_false] at hk
 rcases hk with rfl|rfl|rfl|rfl
 .exact Cs _ _
 .exact Cs _ _
 .exact Cs _ _
 .exact h
def bs5{T:Tr}(o:Ba T):Ap (vkT T)<=8:=by
 refine bJ (aT (Ce (n:=4) λk hk=>?_) (by decide))
 obtain⟨n,_,rfl⟩:=List.mem_map.mp hk
 refine bJ (Ce λk hk=>?_)
 simp only[aB,cf,or_false] at hk
 rcases hk with rfl|rfl
 .exact Cs _ _
 .unfold ab3
  cases e:T.lookup n with
  |none=>unfold lE Option.getD Ap Ck;decide
  |some x=>exact Ys (o.2.2 (n,x) (Ef e)).1
theorem Sc{α β:Type}{F G:α->β}(h:∀a b,F a=G b->a=b):∀{l m:List α},l.map F=m.map G->l=m
 |[],[],_=>rfl
 |[],_::_,e=>by cases e
 |_::_,[],e=>by cases e
 | a::l,b::m,e=>by
  rw[a7,a7] at e
  injection e with e1 e2
  rw[h a b e1,Sc h e2]
def Vm{T:Tr}{n:Str}{x:Rc}(h:T.lookup n=some x):ab3 T n=rcT x:=by unfold ab3;rw[h];rfl
def Ee{T:Tr}{n:Str}(h:¬ n∈T.map (·.1)):T.lookup n=none:=by
 cases e:T.lookup n with
 |none=>rfl
 |some x=>exact absurd (List.mem_map.mpr ⟨(n,x),Ef e,rfl⟩) h
def D6(o:Ba T)(h:n∈T.map (·.1)):∃x,T.lookup n=some x/\(n,x)∈T:=by
 obtain⟨⟨m,x⟩,hx,rfl⟩:=List.mem_map.mp h
 exact⟨x,Ez o.1 hx,hx⟩
def Cd(o:Ba T)(n:Str):(stT T n).isSome=true↔n∈T.map (·.1):=by
 by_cases h:n∈T.map (·.1)
 .obtain⟨x,e,_⟩:=D6 o h
  unfold stT;rw[e];exact⟨λ_=>h,λ_=>rfl⟩
 .unfold stT;rw[Ee h];exact⟨λz=>(by cases z),λz=>absurd z h⟩
def Lx(o:Ba T)(o':Ba T')(e:vkT T=vkT T')(n:Str):stT T n=stT T' n:=by
 injection e with e
 have en:=Sc (λa b z=>by injection z with z;injection z with z _;injection z with z;injection z) e
 have mm:∀n,n∈T.map (·.1)↔n∈T'.map (·.1):=λn=>by rw[<- (Aw ltS (T.map (·.1))).mem_iff,en,(Aw _ _).mem_iff]
 by_cases h:n∈T.map (·.1)
 .obtain⟨x,ex,_⟩:=D6 o h
  obtain⟨y,ey,_⟩:=D6 o' ((mm n).mp h)
  rw[<- en] at e
  have:=List.map_inj_left.mp e n ((Aw _ _).mem_iff.mpr h)
  injection this with this
  injection this with _ this
  injection this with this _
  rw[Vm ex,Vm ey] at this
  unfold stT
  rw[ex,ey,cB,cB,this]
 .unfold stT
  rw[Ee h,Ee λz=>h ((mm n).mpr z)]
def Hc(o:Ba T)(n:Str):Ms (vkT T) n↔(stT T n).isSome=true:=⟨fun⟨T',o',e,h⟩=>by rw[<- Lx o' o e];exact h,λh=>⟨T,o,rfl,h⟩⟩
def Lk{a b:Nat}(h:∀j,a.testBit j=true↔b.testBit j=true):a=b:=g_ λj=>by rw[bK];exact h j
def hsB_iff:hsB n g=true↔Ms g.1 n:=by unfold hsB;exact @decide_eq_true_iff _ (eX _)
def br4(nd:l.Nodup)(nd':l'.Nodup)(h:∀z,z∈l↔z∈l'):Bq ltS l=Bq ltS l':=by
 have p:=(cW nd nd').mpr h
 have o:=Cv ((Aw ltS l).nodup_iff.mpr nd)
 exact F7 o ((Aw _ _).trans (p.trans (Aw _ _).symm)) (C8 (Cv nd)) (C8 (Cv nd'))
def av6(o:Ba T)(o':Ba T'):vkT T=vkT T' ↔ ∀n,stT T n=stT T' n:=by
 refine⟨Lx o o',λh=>?_⟩
 unfold vkT
 rw[br4 o.1 o'.1 λz=>by rw[<- Cd o,<- Cd o',h]]
 congr 1
 exact bu λn _=>by show TK.tup [_,(stT T n).getD _]=TK.tup [_,(stT T' n).getD _];rw[h]
def mpT(T:Tr):Mp:=T.map λe=>(.inr e.1,rcT e.2)
theorem al8(n:Str):∀T:Tr,(mpT T).at (.inr n)=stT T n
 |[]=>rfl
 | e::T=>by
  show Mp.at ((.inr e.1,rcT e.2)::mpT T) (.inr n)=lE _ (gh n (e::T))
  by_cases h:e.1=n
  .rw[Ud (congrArg cV h),cU,beq_iff_eq.mpr h.symm];rfl
  .rw[Uc λz=>h (fN z),cU,beq_false_of_ne (cj h)];exact al8 n T
def Pp(o:Ba T)(o':Ba T'):EqM (mpT T) (mpT T')↔vkT T=vkT T':=by
 rw[av6 o o']
 have ln:∀T,(mpT T).length=(T.map (·.1)).length:=λT=>by unfold mpT;rw[ae,ae]
 constructor
 .rintro⟨hl,he⟩ n
  have he:∀e∈T,stT T' e.1=some (rcT e.2):=λe h=>by rw[<- al8];exact he _ (aL h)
  have sub:∀z∈T.map (·.1),z∈T'.map (·.1):=λz hz=>by
   obtain⟨e,h,rfl⟩:=List.mem_map.mp hz
   exact(Cd o' _).mp (by rw[he e h];rfl)
  by_cases h:n∈T.map (·.1)
  .obtain⟨x,e,hm⟩:=D6 o h
   rw[he _ hm];unfold stT;rw[e];rfl
  .by_cases h':n∈T'.map (·.1)
   .have:=Hv (List.nodup_cons.mpr ⟨h,o.1⟩) λz hz=>(List.mem_cons.mp hz).elim (λe=>e▸h') (sub z)
    rw[ln,ln] at hl
    rw[aP] at this
    omega
   .unfold stT;rw[Ee h,Ee h']
 .intro h
  refine⟨?_,λe he=>?_⟩
  .rw[ln,ln]
   exact((cW o.1 o'.1).mpr λz=>by rw[<- Cd o,<- Cd o',h]).length_eq
  .obtain⟨x,hx,rfl⟩:=List.mem_map.mp he
   rw[al8,<- h]
   unfold stT
   rw[Ez o.1 hx]
   rfl
def TrAt.dic(h:TrAt ok H d T)(o:Ba T):Kt H d (mpT T):=by
 obtain⟨es,et,⟨_,ed⟩,he⟩:=h
 refine⟨_,.inl ed,?_⟩
 have:∀es:List ((Str×Rc)×Addr),(∀e∈es,RcAt H e.2 e.1.2/\okC e.1.2.c)->eE (λ(e:Key×V) (q:Key×TK)=>e.1=q.1/\TkAt H q.2 e.2/\Ap q.2<=8) (es.map kT) (mpT (es.map (·.1))):=λes h=>by
  induction es with
  |nil=>exact .nil
  |cons e es ih=>
   have:=h e aD
   exact .cons ⟨rfl,this.1.tk,aT (Ys this.2.1) (by decide)⟩ (ih λx hx=>h x (aA _ hx))
 rw[<- et]
 exact this es λe h=>⟨he e h,o.2.2 e.1 (by rw[<- et];exact aL h)⟩
def Iz(gs:List Mk)(p:Mk):(Lr gs p).map (·.1)=if p.1∈gs.map (·.1) then gs.map (·.1) else gs.map (·.1)++[p.1]:=by
 unfold Lr
 by_cases h:p.1∈gs.map (·.1)
 .rw[if_pos h,if_pos h,au]
  exact bu λg _=>by show(if _ then _ else _:Mk).1=_;split <;> rfl
 .rw[if_neg h,if_neg h,aw];rfl
theorem gm_key:∀{r:List Mk},k∈(Cr r).map (·.1)↔k∈r.map (·.1)
 |[]=>iL
 | p::r=>by
  show k∈(Lr (Cr r) p).map (·.1)↔_
  rw[Iz,a7,aB]
  by_cases h:p.1∈(Cr r).map (·.1)
  .rw[if_pos h,gm_key]
   exact⟨.inr,λq=>q.elim (λz=>by rw[z];exact gm_key.mp h) id⟩
  .rw[if_neg h,ax,gm_key,aH]
   exact⟨Or.symm,Or.symm⟩
theorem Jl:∀r:List Mk,((Cr r).map (·.1)).Nodup
 |[]=>f_
 | p::r=>by
  show((Lr (Cr r) p).map (·.1)).Nodup
  rw[Iz]
  by_cases h:p.1∈(Cr r).map (·.1)
  .rw[if_pos h];exact Jl r
  .rw[if_neg h]
   exact List.nodup_append.mpr ⟨Jl r,by simp,λx hx z hz e=>h (List.mem_singleton.mp hz▸e▸hx)⟩
theorem Uy:∀{r:List Mk}{g:Mk},g∈Cr r -> ∀j,g.2.testBit j=true ↔ ∃p∈r,p.1=g.1/\p.2.testBit j=true
 |[],g,h,j=>by cases h
 | p::r,g,h,j=>by
  have h:g∈Lr (Cr r) p:=h
  have ex:∀{F:Mk->Prop},(∃q∈p::r,F q)↔F p \/ ∃q∈r,F q:=by simp
  rw[ex]
  unfold Lr at h
  split at h
  .obtain⟨q,hq,rfl⟩:=List.mem_map.mp h
   have ih:=Uy hq j
   split
   .rename_i e
    rw[fu,cJ,ih]
    exact⟨λz=>z.elim .inr λb=>.inl ⟨e.symm,b⟩,λz=>z.elim (λb=>.inr b.2) .inl⟩
   .rename_i e
    rw[ih]
    exact⟨.inr,λz=>z.elim (λb=>absurd b.1.symm e) id⟩
  .rename_i hk
   rcases List.mem_append.mp h with h|h
   .rw[Uy h j]
    exact⟨.inr,λz=>z.elim (λb=>absurd (List.mem_map.mpr ⟨g,h,b.1.symm⟩) hk) id⟩
   .obtain rfl:=List.mem_singleton.mp h
    exact⟨λb=>.inl ⟨rfl,b⟩,λz=>z.elim (·.2) fun⟨q,hq,e,_⟩=>absurd (gm_key.mpr (List.mem_map.mpr ⟨q,hq,e⟩)) hk⟩
def X1{l:List Mk}{i:Nat}{p:Mk}(h:l[i]?=some p):Cr (l.take (i+1)).reverse=Lr (Cr (l.take i).reverse) p:=by
 rw[aN,h]
 rw[List.reverse_append]
 rfl
section
variable {ns:List Nat}{f f':Nat->TK}{gs gs':List Mk}
def LtM.irr:¬ LtM a a:=fun⟨i,h,g⟩=>by rw[g i (af _)] at h;cases h
def Cn.inj(c:Cn ns f gs)(c':Cn ns f' gs')(e:∀n∈ns,f n=f' n){g g':Mk}(h:g∈gs)(h':g'∈gs')(k:g.1=g'.1):g=g':=by
 refine lO k (Lk λj=>?_)
 rw[c.bit g h,c'.bit g' h',k]
 exact⟨fun⟨a,b⟩=>⟨a,e j a▸b⟩,fun⟨a,b⟩=>⟨a,(e j a).symm▸b⟩⟩
def Cn.keys(c:Cn ns f gs):(gs.map (·.1)).Nodup:=List.pairwise_map.mpr (c.asc.imp_of_mem λ{a b} ha hb h e=>LtM.irr (c.inj c (λ_ _=>rfl) ha hb e▸h))
def Cn.uniq(c:Cn ns f gs)(c':Cn ns f' gs')(e:∀n∈ns,f n=f' n):gs=gs':=by
 have sub:∀{f f':Nat->TK}{gs gs':List Mk},Cn ns f gs->Cn ns f' gs'->(∀n∈ns,f n=f' n) -> ∀g∈gs,g∈gs':=λc c' e g hg=>by
  obtain⟨j,hj,q⟩:=c.pos g hg
  obtain⟨g',hg',q'⟩:=c'.cov j hj
  rw[c.inj c' e hg hg' (by rw[q',<- q,e j hj])]
  exact hg'
 have nd:∀{f:Nat->TK}{gs:List Mk},Cn ns f gs->gs.Nodup:=λc=>c.asc.imp λ{a b} h (e:a=b)=>LtM.irr (e▸h)
 refine((cW (nd c) (nd c')).mpr λg=>⟨sub c c' e g,sub c' c (λn h=>(e n h).symm) g⟩).eq_of_pairwise (λa b _ _ ⟨i,h1,h2⟩ ⟨j,h3,h4⟩=>?_) c.asc c'.asc
 rcases Nat.le_total i j with h|h
 .rw[h4 i h] at h1;cases h1
 .rw[h2 j h] at h3;cases h3
end
section
variable {P:a_}{w:bB}{K:ac}{mg:Str->Option am}{base:Heap}{t:Adr}
def bk9(Z:Am K t):OkD K af9 (Ax K t) bl (t.f 20) (t.d 20) (Lv K t):=by
 refine A0 (b64 K t) λvs H Q E h=>?_
 .obtain⟨a,ms,rfl,hS,k⟩:=h;refine⟨rfl,?_⟩
  refine .inl ⟨⟨_,hS⟩,?_⟩
  refine A5 (Az (ms.map V.int)) (λi σ H'=>(∃v2,σ=[some (.ref a),some (.int (F0 (ms.take i))),v2])/\H'=H) ⟨⟨_,rfl⟩,rfl⟩ (λi σ H' _ q=>q.2▸hS) ?_ ?_
  .rintro i x σ H' hx ⟨⟨v2,rfl⟩,rfl⟩
   obtain⟨m,hm,rfl⟩:=Ak hx
   have e:F0 (ms.take (i+1))=cL (F0 (ms.take i)) m:=Dz hm _ _
   exact⟨⟨_,congrArg (λz=>[some (V.ref a),some (V.int z),some (V.int m)]) e.symm⟩,rfl⟩
  .rintro σ H' ⟨⟨v2,rfl⟩,rfl⟩
   rw[ae,aI]
   exact .inl k
def bl4(Z:Am K t):OkD K ag4 (Ax K t) bl (t.f 30) (t.d 30) (Wo K t):=by
 refine A0 (b69 K t) λvs H Q E h=>?_
 .obtain⟨a,ms,rfl,hS,hb,k⟩:=h;refine⟨rfl,?_⟩
  refine .inl ⟨⟨_,hS⟩,?_⟩
  refine A5 (Az (ms.map λn:Nat=>V.int (n:Int))) (λi σ H'=>(∃v2,σ=[some (.ref a),some (.int (ab7 (ms.take i))),v2])/\H'=H) ⟨⟨_,rfl⟩,rfl⟩ (λi σ H' _ q=>q.2▸hS) ?_ ?_
  .rintro i x σ H' hx ⟨⟨v2,rfl⟩,rfl⟩
   obtain⟨m,hm,rfl⟩:=Ak hx
   have e:ab7 (ms.take (i+1))=cL (ab7 (ms.take i)) (1*2^((m:Int)).toNat):=by
    rw[kJ,bb]
    exact Dz hm _ _
   have hm2:=hb m (ah hm)
   exact⟨⟨by omega,by omega,by decide⟩,⟨⟨_,congrArg (λz=>[some (V.ref a),some (V.int z),some (V.int (m:Int))]) e.symm⟩,rfl⟩⟩
  .rintro σ H' ⟨⟨v2,rfl⟩,rfl⟩
   rw[ae,aI]
   exact .inl k
def bi0(Z:Am K t):OkD K W9 (Ax K t) bl (t.m_zce 3) (t.e_zce 3) (V3 K t):=by
 refine A0 (b34 K t) λvs H Q E h=>?_
 .obtain⟨p,l,s,sw,rfl,⟨dx,fs,⟨_,hp⟩,hl,hs,hm⟩,⟨ds,e,⟨_,o⟩,_⟩,k⟩:=h;refine⟨rfl,?_⟩
  refine⟨_,_,_,_,hp,Z.pf.cl,(Z.pf.na _ (by simp)),hl,(.inl ⟨_,.inl (SqL.of o),?_⟩)⟩
  have el:(ds.map λx=>V.ref x.2).length=(Al sw).length:=by rw[<- e];simp
  rw[el]
  exact k
def bw7(Z:Am K t):OkD K aw3 (Ax K t) bl (t.m_zce 0) (t.e_zce 0) (as2 K t):=by
 refine A0 (cb3 K t) λvs H Q E h=>?_
 .obtain⟨p,l,s,sw,rfl,hs,ht,hn,k⟩:=h;refine⟨rfl,?_⟩
  obtain⟨dx,fs,⟨_,hp⟩,_,_,hm⟩:=id hs
  refine⟨p,dx,fs,⟨t.c_zce,ak5 K t⟩,rfl,.head _,hp,hm _ (by decide),⟨aC rfl,aC rfl⟩,?_⟩
  refine⟨p,l,s,sw,rfl,hs,ht,⟨by omega,by omega,by decide⟩,?_⟩
  have e:1*2^(((Al sw).length:Int)).toNat-1=Rj sw:=by rw[kJ,bb];rfl
  show Q (.int (1*2^(((Al sw).length:Int)).toNat-1)) H
  rw[e]
  exact k
def bi4(Z:Am K t):OkD K ad9 (Ax K t) bl (t.f 21) (t.d 21) (V7 K t):=by
 refine A0 (b39 K t) λvs H Q E h=>?_
 .obtain⟨z,lo,hi,rfl,hz,k⟩:=h;refine⟨rfl,?_⟩
  exact⟨rfl,aT hz (by decide),No k⟩
def bj1(Z:Am K t):OkD K ae2 (Ax K t) bl (t.f 22) (t.d 22) (Wd K t):=by
 refine A0 (ba2 K t) λvs H Q E h=>?_
 .obtain⟨c,rfl,k⟩:=h;refine⟨rfl,?_⟩
  dsimp only[ba2,Ae,Ar]
  exact ay9 (s1 := "a") (s2 := "z") (by decide +kernel) (by decide +kernel) (by rfl) k
def bl1(Z:Am K t):OkD K ag1 (Ax K t) bl (t.f 23) (t.d 23) (Qk K t):=by
 refine A0 (b66 K t) λvs H Q E h=>?_
 .obtain⟨z,rfl,hz,k⟩:=h;refine⟨rfl,?_⟩
  have hl:z.length<=1000:=aT hz.2.1 (by decide)
  refine⟨z,1,8,rfl,hl,?_⟩
  have e:(decide (1<=(z.length:Int))&&decide ((z.length:Int)<=8))=true:=by
   have h1:=hz.1
   have h2:=hz.2.1
   simp
   omega
  refine F9 e ?_
  refine Zh (p:=Kj) hl (λc σ H1 Q1 hσ q=>?_) λH' S=>?_
  .match σ,hσ with
   |[_],_=>exact⟨c,rfl,q⟩
  .rw[hz.2.2];exact k H' S
def bx2(Z:Am K t):OkD K bb1 (Ax K t) bl (t.f 24) (t.d 24) (Yz K t):=by
 refine A0 (cb8 K t) λvs H Q E h=>?_
 .obtain⟨a,l,rfl,hS,hl,k⟩:=h;refine⟨rfl,?_⟩
  refine⟨_,true,.sqL rfl hS rfl,rfl,?_⟩
  refine .inl ⟨⟨_,hS⟩,?_⟩
  refine Rn (σ:=[none]) (Az (l.map V.str)) (λσ=>σ.length=1) (λH1 S=>S.seqL hS) ?_ rfl (λσ x hσ=>by rw[ii];exact hσ) ?_ λD1 H1 S1 q1=>⟨_,q1,?_⟩
  .rw[ae];exact be hl.2.2 (by decide)
  .intro x σ H1 Q1 hx hσ S q
   obtain⟨z,hz,rfl⟩:=List.mem_map.mp hx
   match σ,hσ with
   |[_],_=>exact⟨z,rfl,hl.1 z hz,q⟩
  .rw[Xn]
   refine⟨l,S1.seqL hS,be hl.2.2 (by decide),.inl ⟨_,.inl (S1.seqL hS),?_⟩⟩
   rw[a05 hl.2.1,ae]
   have e:decide ((l.length:Int)=(l.length:Int))=true:=by simp
   show Q (.bl (decide ((l.length:Int)=(l.length:Int)))) H1
   rw[e]
   exact k H1 S1
def bj2(Z:Am K t):OkD K ae3 (Ax K t) bl (t.f 26) (t.d 26) (We K t):=by
 refine A0 (b47 K t) λvs H Q E h=>?_
 .obtain⟨a,b,wd,l,rfl,ha,hb,hw,hl,k⟩:=h;refine⟨rfl,?_⟩
  have qa:=SqT.of (K:=K) ha
  have qb:=SqL.of (K:=K) hb
  refine⟨_,true,.sqT rfl qa rfl,rfl,?_⟩
  refine .inl ⟨_,.inr qa,?_⟩
  refine⟨_,_,.inr qa,rfl,?_⟩
  refine⟨wd,rfl,hw,λH1 S1=>?_⟩
  refine⟨_,_,.inr (S1.seqT qa),rfl,?_⟩
  refine⟨b,l,rfl,S1.seqL qb,hl.1,λH2 S2=>?_⟩
  have S:=S1.trans S2
  refine⟨_,_,.inr (S.seqT qa),rfl,.inl ⟨_,.inl (S.seqL qb),?_⟩⟩
  rw[ae]
  have e:(decide (2<=(l.length:Int))&&decide ((l.length:Int)<=4))=true:=by
   have h1:=hl.2.1
   have h2:=hl.2.2
   simp
   omega
  exact No (e▸k H2 S)
def Pw{es:List ((Str×List Str)×Addr)}{sw:Sw}{i:Nat}{e:Str×List Str}(he:es.map (·.1)=sw.take i)(hi:sw[i]?=some e)(nd:(sw.map (·.1)).Nodup):Bg (es.map kR) (.inr e.1)=none:=by
 refine Cq ?_
 rw[Ki,he]
 intro hm
 obtain⟨w,hw,e2⟩:=List.mem_map.mp hm
 cases e2
 have h1:(sw.map (·.1))[i]?=some e.1:=by rw[ao,hi];rfl
 rw[gC] at hw
 obtain⟨j,hj,e3⟩:=List.mem_iff_getElem.mp hw
 rw[aF] at hj
 rw[List.getElem_take] at e3
 have hi2:=Aj h1
 have e4:(sw.map (·.1))[i]=e.1:=by
  have:=ak hi2
  rw[this] at h1
  exact aJ h1
 have:=(dN (i:=j) (h₁:=hi2) nd).mp (by rw[e3,e4])
 omega
def Kg{es:List ((Str×List Str)×Addr)}{e:Str×List Str}{a:Addr}(h:Bg (es.map kR) (.inr e.1)=none):Bt (es.map kR) (.inr e.1) (.ref a)=(es++[(e,a)]).map kR:=by
 rw[Er _ h,aw]
 rfl
def Ut{α β:Type}{es:List (α×β)}{sw:List α}{i:Nat}(h:es.map (·.1)=sw.take i):es.length<=sw.length:=by
 have:=congrArg b9 h
 rw[ae,aF] at this
 omega
def G8{α β:Type}{es:List (α×β)}{sw:List α}{i:Nat}{e:α}{a:β}(h:es.map (·.1)=sw.take i)(hi:sw[i]?=some e):(es++[(e,a)]).map (·.1)=sw.take (i+1):=by
 rw[aw,h,aN,hi]
 rfl
def by4(Z:Am K t):OkD K bb6 (Ax K t) bl (t.f 27) (t.d 27) (au0 K t):=by
 refine A0 (cd2 K t) λvs H Q E h=>?_
 .obtain⟨a,sw,rfl,⟨ds,ed,⟨_,oa⟩,hd⟩,hw,k⟩:=h;refine⟨rfl,?_⟩
  have ql:=SqL.of (K:=K) oa
  have el:(ds.map λx=>V.ref x.2).length=sw.length:=by rw[<- ed];simp
  refine⟨_,true,.sqL rfl ql rfl,rfl,?_⟩
  refine .inl ⟨_,.inl ql,?_⟩
  rw[el]
  have e1:decide (1<=(sw.length:Int))=true:=by have:=hw.1;simp;omega
  have e2:decide ((sw.length:Int)<=5)=true:=by have:=hw.2.1;simp;omega
  refine F9 e1 (Cg (by rw[e2];rfl) ?_)
  intro d hd0
  refine .inl (.inl ⟨⟨_,(Same.upd hd0).seqL ql⟩,?_⟩)
  refine A5 (Az (ds.map λx=>V.ref x.2)) (λi σ H'=>(∃v3,σ=[some (.ref a),some (.ref d),some (.int (Cp (sw.take i):Nat)),v3])/\Same H H' /\
    ∃es,es.map (·.1)=sw.take i/\H' d=some (.dK (es.map kR))/\∀x∈es,H x.2=none/\H' x.2=some (E6 x.1.2))
   ⟨⟨_,rfl⟩,Same.upd hd0,[],rfl,Aa,λx hx=>by cases hx⟩ (λi σ H' _ q=>q.2.1.seqL ql) ?_ ?_
  .rintro i x σ H1 hx ⟨⟨v3,rfl⟩,S1,es,ee,e1d,he⟩
   obtain⟨⟨⟨e,la⟩,ta⟩,hi,rfl⟩:=Ak hx
   have hi2:sw[i]?=some e:=by rw[<- ed,ao,hi];rfl
   obtain⟨⟨_,h1⟩,_,h2⟩:=hd _ (ah hi)
   have hok:=hw.2.2.2.1 e (ah hi2)
   have nk:=Pw ee hi2 hw.2.2.1
   refine⟨ta,la,e.1,e.2,rfl,S1 _ _ h1,S1 _ _ h2,hok.1,hok.2,λH2 S2=>?_⟩
   have S:=S1.trans S2
   have qt:=SqT.of (K:=K) (S _ _ h1)
   have qa:=SqL.of (K:=K) (S _ _ h2)
   refine⟨_,_,.inr qt,rfl,.inr ⟨_,.inl ⟨_,.inr e.1,.inl (S2 _ _ e1d),rfl,rfl⟩,?_⟩⟩
   rw[nk]
   refine⟨_,_,.inr qt,rfl,_,.inl ⟨qa,λtp htp=>?_⟩⟩
   have S3:=Same.upd (o:=E6 e.2) htp
   have et:upd H2 tp (E6 e.2) tp=some (E6 e.2):=Aa
   have hft:=S.free htp
   generalize upd H2 tp (E6 e.2)=H3 at S3 et ⊢
   have Sa:=S.trans S3
   have e3d:=S3 _ _ (S2 _ _ e1d)
   have ndt:=Ai (S2 _ _ e1d) htp
   refine⟨_,_,.inr (S3.seqT qt),rfl,_,DPut.k (k:=.inr e.1) e3d ?_,?_⟩
   .rw[ae]
    have:=Ut ee
    have:=hw.2.1
    exact be (show es.length<=5 by omega) (by decide)
   rw[Kg nk]
   have Sb:Same H (upd H3 d (.dK ((es++[(e,tp)]).map kR))):=Sa.set hd0
   have keep:∀b,b≠d->upd H3 d (.dK ((es++[(e,tp)]).map kR)) b=H3 b:=λb hb=>Ad hb
   have ebd:upd H3 d (.dK ((es++[(e,tp)]).map kR)) d=some (.dK ((es++[(e,tp)]).map kR)):=Aa
   generalize upd H3 d (.dK ((es++[(e,tp)]).map kR))=H4 at Sb keep ebd ⊢
   refine⟨_,_,.inr (SqT.of (Sb _ _ h1)),rfl,.inl ⟨_,.inl (SqL.of (Sb _ _ h2)),?_⟩⟩
   rw[ae]
   have pm:((Cp (sw.take i):Nat):Int)*(e.2.length:Int)=((Cp (sw.take (i+1)):Nat):Int):=by
    unfold Cp
    rw[Dz hi2,jL]
   have hb4:=hok.2.2.2
   refine⟨.inr ⟨show -(2^64)<(e.2.length:Int) by omega,show(e.2.length:Int)<2^64 by omega⟩,?_⟩
   refine⟨⟨_,congrArg (λz=>[some (V.ref a),some (V.ref d),some (V.int z),some (V.ref ta)]) pm⟩,Sb,es++[(e,tp)],G8 ee hi2,ebd,?_⟩
   intro x hx
   rcases List.mem_append.mp hx with hx|hx
   .obtain⟨a1,a2⟩:=he x hx
    refine⟨a1,?_⟩
    rw[keep x.2 (λz=>by rw[z,e1d] at a2;cases a2)]
    exact S3 _ _ (S2 _ _ a2)
   .have:x=(e,tp):=by simpa using hx
    subst this
    exact⟨hft,by rw[keep _ (cj ndt)];exact et⟩
  .rintro σ H1 ⟨⟨v3,rfl⟩,S1,es,ee,e1d,he⟩
   rw[el,aI] at ee
   rw[el,aI]
   refine .inl (Cg ?_ ?_)
   .have:=hw.2.2.2.2
    simp
    omega
   .exact k H1 d S1 ⟨es,ee,⟨hd0,e1d⟩,he⟩
def bh3(Z:Am K t):OkD K ad5 (Ax K t) bl (t.f 25) (t.d 25) (Vw K t):=by
 refine A0 (b26 K t) λvs H Q E h=>?_
 .obtain⟨r,rule,rfl,⟨ds,ed,⟨_,od⟩,hd⟩,nd,hl,k⟩:=h;refine⟨rfl,?_⟩
  intro c hc
  have ncr:=Ai od hc
  have od1:upd H c (.dK []) r=some (.dK (ds.map kR)):=by rw[Ad ncr];exact od
  refine .inl (.inr (.inr (.inl (.inl ⟨_,od1,λo=>?_⟩))))
  have Hf:∀b u,b≠r->H b=some u->upd (upd H c (.dK [])) r (.frz o (.dK (ds.map kR))) b=some u:=λb u hb e=>by
   rw[Ad hb,Ad (Ai e hc)];exact e
  have ef:upd (upd H c (.dK [])) r (.frz o (.dK (ds.map kR))) r=some (.frz o (.dK (ds.map kR))):=Aa
  have ec:upd (upd H c (.dK [])) r (.frz o (.dK (ds.map kR))) c=some (.dK []):=by rw[Ad (cj ncr),Aa]
  have len:ds.length=rule.length:=by rw[<- ed];simp
  generalize upd (upd H c (.dK [])) r (.frz o (.dK (ds.map kR)))=H0 at Hf ef ec ⊢
  refine A5 (Eh (ds.map kR)) (λi σ H'=>(∃v2,σ=[some (.ref r),some (.ref c),v2])/\(∀b u,b≠r->H b=some u->H' b=some u)/\H' r=some (.frz o (.dK (ds.map kR))) /\
    ∃es,es.map (·.1)=rule.take i/\H' c=some (.dK (es.map kR))/\∀x∈es,H x.2=none/\H' x.2=some (Ay x.1.2))
   ⟨⟨_,rfl⟩,Hf,ef,[],rfl,ec,λx hx=>by cases hx⟩ (λi σ H' _ q=>q.2.2.1) ?_ ?_
  .rintro i x σ H1 hx ⟨⟨v2,rfl⟩,S1,f1,es,ee,e1c,he⟩
   obtain⟨kv,hi0,rfl⟩:=Ak hx
   obtain⟨⟨e,la⟩,hi,rfl⟩:=Ak hi0
   have hi2:rule[i]?=some e:=by rw[<- ed,ao,hi];rfl
   obtain⟨_,h2⟩:=hd _ (ah hi)
   have nla:la≠r:=λz=>by rw[z,od] at h2;cases h2
   have nk:=Pw ee hi2 nd
   have hv:=Bo (Ey ed nd) hi0
   refine⟨.ref la,.inl ⟨_,.inr e.1,.inr ⟨o,f1⟩,rfl,hv.symm⟩,.inl ⟨_,.inl (SqL.of (S1 _ _ nla h2)),λlc hlc=>?_⟩⟩
   have S3:=Same.upd (o:=Ay e.2) hlc
   have et:upd H1 lc (Ay e.2) lc=some (Ay e.2):=Aa
   have nlr:=(Ai f1 hlc).symm
   have hft:H lc=none:=by
    cases q:H lc with
    |none=>rfl
    |some u=>rw[S1 _ _ nlr q] at hlc;cases hlc
   have ndt:=Ai e1c hlc
   generalize upd H1 lc (Ay e.2)=H3 at S3 et ⊢
   refine⟨_,DPut.k (S3 _ _ e1c) ?_,?_⟩
   .rw[ae]
    have:=Ut ee
    exact be (show es.length<=100 by omega) (by decide)
   rw[Kg nk]
   refine⟨⟨_,rfl⟩,λb u hb e4=>?_,?_,es++[(e,lc)],G8 ee hi2,Aa,?_⟩
   .rw[Ad (Ai e4 hc)];exact S3 _ _ (S1 _ _ hb e4)
   .rw[Ad ncr];exact S3 _ _ f1
   .intro x hx
    rcases List.mem_append.mp hx with hx|hx
    .obtain⟨a1,a2⟩:=he x hx
     refine⟨a1,?_⟩
     rw[Ad (λz=>by rw[z,e1c] at a2;cases a2)]
     exact S3 _ _ a2
    .have:x=(e,lc):=by simpa using hx
     subst this
     exact⟨hft,by rw[Ad (cj ndt)];exact et⟩
  .rintro σ H1 ⟨⟨v2,rfl⟩,S1,f1,es,ee,e1c,he⟩
   rw[ae,ae,len,aI] at ee
   refine .inr ⟨r,o,_,od1,f1,?_⟩
   refine k _ c (λb u e4=>?_) ⟨es,ee,⟨hc,?_⟩,λx hx=>⟨(he x hx).1,?_⟩⟩
   .by_cases hb:b=r
    .subst hb;rw[Aa,<- od,e4]
    .rw[Ad hb];exact S1 _ _ hb e4
   .rw[Ad (cj ncr)];exact e1c
   .rw[Ad (λz=>by have:=(he x hx).1;rw[z,od] at this;cases this)];exact(he x hx).2
theorem Kl{H:Hp}:∀r:List Str,Au H (r.map λz=>.at_ (.inr z)) (r.map V.str)/\Ck (r.map λz=>.at_ (.inr z))=0
 |[]=>⟨by unfold Au;rfl,rfl⟩
 |z::r=>⟨by rw[a7];unfold Au;exact⟨_,_,rfl,by unfold TkAt;rfl,(Kl r).1⟩,by rw[a7,Ck,(Kl (H:=H) r).2];rfl⟩
def bg8{H:Hp}{b:Addr}{r:List Str}(h:H b=some (E6 r)):Ap (a11 r)<=8/\TkAt H (a11 r) (.ref b):=by
 refine⟨?_,?_⟩
 .unfold a11 Ap;rw[(Kl (H:=H) r).2];decide
 .unfold a11 TkAt;exact⟨b,_,rfl,h,(Kl r).1⟩
def Eb{α:Type}{l:List α}{i:Nat}{x:α}(nd:l.Nodup)(h:l[i]?=some x):¬ x∈l.take i:=by
 intro hm
 obtain⟨j,hj,e⟩:=List.mem_iff_getElem.mp hm
 rw[aF] at hj
 rw[List.getElem_take] at e
 have hi:=Aj h
 rw[ak hi] at h
 have:=(dN (i:=j) (h₁:=hi) nd).mp (by rw[e];exact(aJ h).symm)
 omega
def bw5(Z:Am K t):OkD K ba9 (Ax K t) bl (t.f 29) (t.d 29) (ar7 K t):=by
 refine A0 (cb1 K t) λvs H Q E h=>?_
 .obtain⟨l,rows,rfl,⟨ds,ed,⟨_,ol⟩,hd⟩,nd,hl,k⟩:=h;refine⟨rfl,?_⟩
  intro n hn
  have ql:=SqL.of (K:=K) ol
  have len:(Ej 0 (ds.map λx=>V.ref x.2)).length=rows.length:=by rw[Bs,<- ed];simp
  refine .inr (.inl ⟨⟨_,(Same.upd hn).seqL ql⟩,?_⟩)
  refine Kd (E8 (ds.map λx=>V.ref x.2)) (λi σ H'=>(∃v2 v3,σ=[some (.ref l),some (.ref n),v2,v3])/\Same H H'/\∃kvs,H' n=some (.dT kvs)/\kvs.length<=i)
   ⟨⟨_,_,rfl⟩,Same.upd hn,_,Aa,af _⟩ (λi σ H' _ q=>q.2.1.seqL ql) ?_ ?_
  .rintro i x y T σ H1 hxy hT ⟨⟨v2,v3,rfl⟩,S1,kvs,e1,le⟩
   have hi':=Aj hxy
   have hi':=hi'
   rw[Bs,ae] at hi'
   obtain⟨⟨r,b⟩,hi⟩:∃z,ds[i]?=some z:=⟨_,ak hi'⟩
   rw[C5 (k:=0) (xs:=ds.map λx=>V.ref x.2) (i:=i) (x:=.ref b) (by rw[ao,hi];rfl)] at hxy
   obtain⟨rfl,rfl⟩:V.int ((0+i:Nat):Int)=x/\V.ref b=y:=by simpa using hxy
   have ST:=Same.upd (o:=.tup [.int ((0+i:Nat):Int),.ref b]) hT
   refine⟨_,.inl (SqT.of Aa),rfl,?_⟩
   generalize upd H1 T (.tup [.int ((0+i:Nat):Int),.ref b])=H2 at ST ⊢
   have S2:=S1.trans ST
   exact⟨_,DPut.t (ST _ _ e1) (bg8 (S2 _ _ (hd _ (ah hi)).2)) (be (show kvs.length<=256 by rw[<- ed,ae] at hl;omega) (by decide)),⟨_,_,rfl⟩,S2.set hn,_,Aa,aT (De _ _ _) (bJ le)⟩
  .rintro σ H1 ⟨⟨v2,v3,rfl⟩,S1,kvs,e1,_⟩
   exact .inl (k H1 n S1 ⟨kvs,hn,e1⟩)
def b83{H:Hp}{aa p:Addr}{a:List Str}{z:Str}{Q:VK}(ha:H aa=some (E6 a))(hp:H p=some (.tup [.str z]))(hl:a.length<=100)(k:∀q H',Same H H'->H' q=some (E6 (a++[z]))->(H q=none\/q=p)->Q (.ref q) H'):Bj K (.ref aa) (.ref p) H Q:=by
 cases a with
 |nil=>exact .inr (.inr ⟨aa,p,_,rfl,rfl,SqT.of ha,SqT.of hp,k p H (Same.refl _) hp (.inr rfl)⟩)
 |cons y a=>
  refine .inr (.inl ⟨aa,p,_,_,rfl,rfl,SqT.of ha,SqT.of hp,by simp,?_,(λe=>by cases e),λ_ q hq=>?_⟩)
  .rw[ae]
   exact aT (show(y::a).length+1<=101 by omega) (by decide)
  .refine k q _ (Same.upd hq) ?_ (.inl hq)
   rw[Aa,E6,aw]
   rfl
def Zq{α:Type}{ok:Addr->Prop}{H:Hp}{f:α->HO}{es:List (α×Addr)}{e:α}{a:Addr}(h:∀x∈es,ok x.2/\H x.2=some (f x.1))(h1:ok a)(h2:H a=some (f e)):∀x∈es++[(e,a)],ok x.2/\H x.2=some (f x.1):=by
 intro x hx
 rcases List.mem_append.mp hx with hx|hx
 .exact h x hx
 .have:x=(e,a):=by simpa using hx
  subst this
  exact⟨h1,h2⟩
def az1{α:Type}{ok:Addr->Prop}{H H':Hp}{f:α->HO}{es:List (α×Addr)}(S:Same H H')(h:∀x∈es,ok x.2/\H x.2=some (f x.1)):∀x∈es,ok x.2/\H' x.2=some (f x.1):=λx hx=>⟨(h x hx).1,S _ _ (h x hx).2⟩
def ac1{rows:List (List Str)}{j:Nat}{r:List Str}{x:Str×List Str}(h:rows[j]?=some r):Et (rows.take (j+1)) x=Et (rows.take j) x++x.2.map λz=>r++[z]:=by
 unfold Et
 rw[aN,h,dz,List.flatMap_append]
 simp
def U6{E:EK}{H0 H:Hp}{aa ta:Addr}{a:List Str}{l:List Str}{σ:St}{R:Hp->Addr->Prop}(hσ:∃v,σ=[v,some (.ref aa)])(S0:Same H0 H)(ha:H aa=some (E6 a))(ht:H ta=some (E6 l))(hl:a.length<=100)(hl2:l.length<=8)(k:∀D H',Same H H'->H D=none -> ∀fs:List (List Str×Addr),fs.map (·.1)=l.map (λz=>a++[z])->H' D=some (.lst (fs.map λx=>.ref x.2))->(∀x∈fs,H0 x.2=none/\H' x.2=some (E6 x.1))->R H' D) :
  ∀D,H D=none->Fc (Itt K ta) (gdN 0) Bv (Ah (Bj K) (Ab 1) (C4 (Ac (Ab 0) Ag))) D (λH'=>R H' D) σ (upd H D (.lst [])) E:=by
 intro D hD
 refine Dg (aw1 (l.map V.str)) (λm σ H'=>(∃v,σ=[v,some (.ref aa)])/\Same H H'/\∃fs:List (List Str×Addr),fs.map (·.1)=(l.take m).map (λz=>a++[z])/\H' D=some (.lst (fs.map λx=>.ref x.2))/\∀x∈fs,H0 x.2=none/\H' x.2=some (E6 x.1))
  ⟨hσ,Same.upd hD,[],rfl,Aa,λx hx=>by cases hx⟩ (λm σ H' _ q=>q.2.1.seqT (SqT.of ht)) ?_ ?_
 .rintro m x σ H1 hx ⟨⟨v,rfl⟩,S1,fs,ef,eD,hf⟩
  obtain⟨z,hz,rfl⟩:=Ak hx
  refine⟨cd8,λp hp=>?_⟩
  have Sp:=Same.upd (o:=.tup [.str z]) hp
  have ep:upd H1 p (.tup [.str z]) p=some (.tup [.str z]):=Aa
  generalize upd H1 p (.tup [.str z])=H2 at Sp ep ⊢
  refine b83 (Sp _ _ (S1 _ _ ha)) ep hl λq H3 S3 eq nq=>?_
  have S03:=S0.trans (S1.trans (Sp.trans S3))
  have hq0:H0 q=none:=by
   rcases nq with nq|rfl
   .exact (S0.trans (S1.trans Sp)).free nq
   .exact (S0.trans S1).free hp
  have qD:q≠D:=by
   rcases nq with nq|rfl
   .exact (Ai (Sp _ _ eD) nq).symm
   .exact (Ai eD hp).symm
  have eD3:=S3 _ _ (Sp _ _ eD)
  refine⟨_,eD3,?_,⟨_,rfl⟩,(S1.trans (Sp.trans S3)).set hD,fs++[(a++[z],q)],?_,?_,?_⟩
  .rw[ae]
   have:=congrArg b9 ef
   rw[ae,ae,aF] at this
   exact be (show fs.length<=8 by omega) (by decide)
  .rw[aw,ef,Cc hz];rfl
  .rw[Aa,aw];rfl
  .have hf3:=Zq (ok:=λa=>H0 a=none) (az1 (ok:=λa=>H0 a=none) (Sp.trans S3) hf) hq0 eq
   intro x hx
   refine⟨(hf3 x hx).1,?_⟩
   rw[Ad (λe=>by have:=(hf3 x hx).2;rw[e,eD3] at this;cases this)]
   exact(hf3 x hx).2
 .rintro σ H1 ⟨_,S1,fs,ef,eD,hf⟩
  rw[ae,aI] at ef
  exact k D H1 S1 hD fs ef eD hf
def bw6(Z:Am K t):OkD K bb0 (Ax K t) bl (t.f 28) (t.d 28) (as1 K t):=by
 refine A0 (cb2 K t) λvs H Q E h=>?_
 .obtain⟨d,sw,rfl,⟨ds,ed,⟨_,od⟩,hd⟩,hw,k⟩:=h;refine⟨rfl,?_⟩
  refine⟨My,λt0 h0=>⟨cd8,λl0 hl0=>?_⟩⟩
  have St:=Same.upd (o:=.tup []) h0
  have Sl:=Same.upd (o:=.lst [.ref t0]) hl0
  have ft:=h0
  have fl:=St.free hl0
  have et:=Sl _ _ Aa
  have el:upd (upd H t0 (.tup [])) l0 (.lst [.ref t0]) l0=some (.lst [.ref t0]):=Aa
  have S0:=St.trans Sl
  generalize upd (upd H t0 (.tup [])) l0 (.lst [.ref t0])=H0 at S0 et el ⊢
  have od0:=S0 _ _ od
  refine .inr (.inr (.inl (.inl ⟨_,od0,λo=>?_⟩)))
  have len:ds.length=sw.length:=by rw[<- ed];simp
  have kf:Kp (fresh H) H0 (fresh H) (upd H0 d (.frz o (.dK (ds.map kR)))):=Kp.off (F6 od)
  have ef:upd H0 d (.frz o (.dK (ds.map kR))) d=some (.frz o (.dK (ds.map kR))):=Aa
  have ht0:∀x∈ds,upd H0 d (.frz o (.dK (ds.map kR))) x.2=some (E6 x.1.2):=λx hx=>by
   rw[Ad (λe=>by have:=(hd x hx).2;rw[e,od] at this;cases this)]
   exact S0 _ _ (hd x hx).2
  have T0:TupsAt (fresh H) (upd H0 d (.frz o (.dK (ds.map kR)))) l0 (Al (sw.take 0)):=⟨[([],t0)],rfl,kf _ _ ⟨fl,el⟩,λx hx=>by
   have:x=([],t0):=by simpa using hx
   subst this
   exact kf _ _ ⟨ft,et⟩⟩
  have frees:∀{H':Hp}{b:Addr},Same (upd H0 d (.frz o (.dK (ds.map kR)))) H'->H' b=none->H b=none:=λ{H' b} S e=>by
   have e1:=S.free e
   have nb:b≠d:=λz=>by rw[z,ef] at e1;cases e1
   rw[Ad nb] at e1
   exact S0.free e1
  generalize hHf:upd H0 d (.frz o (.dK (ds.map kR)))=Hf at kf ef ht0 T0 frees ⊢
  refine A5 (Eh (ds.map kR)) (λi σ H'=>(∃l v2 v3 v4,σ=[some (.ref d),some (.ref l),v2,v3,v4]/\TupsAt (fresh H) H' l (Al (sw.take i)))/\Same Hf H') ⟨⟨_,_,_,_,rfl,T0⟩,Same.refl _⟩ (λi σ H' _ q=>q.2 _ _ ef) ?_ ?_
  .rintro i x σ H1 hx ⟨⟨l,v2,v3,v4,rfl,⟨es,ee,⟨fl1,el1⟩,he⟩⟩,S1⟩
   obtain⟨kv,hi0,rfl⟩:=Ak hx
   obtain⟨⟨e,ta⟩,hi,rfl⟩:=Ak hi0
   have hi2:sw[i]?=some e:=by rw[<- ed,ao,hi];rfl
   have hta:=ht0 _ (ah hi)
   have hoke:=hw.sets e (ah hi2)
   have hv:=Bo (Ey ed hw.2.2.1) hi0
   refine⟨by decide,λl2 hl2=>.inl ⟨⟨_,(Same.upd hl2).seqL (SqL.of el1)⟩,?_⟩⟩
   have f2:=frees S1 hl2
   have Sl2:=Same.upd (o:=.lst []) hl2
   have rl:∀r∈Al (sw.take i),r.length<=100:=λr hr=>by
    have h1:=(Hu (sw:=sw.take i) (λx hx=>hw.sets x (f6 hx))).2.1 r hr
    rw[h1,aF]
    have:=hw.2.1
    omega
   have lenr:es.length=(Al (sw.take i)).length:=by rw[<- ee];simp
   have few:(Al (sw.take i)).length<=256:=by rw[Hs];exact aT (aa8 hw i) hw.2.2.2.2
   refine A5 (Az (es.map λx=>V.ref x.2)) (λj σ H'=>(∃v4,σ=[some (.ref d),some (.ref l),some (.str e.1),some (.ref l2),v4])/\Same H1 H'/\∃fs:List (List Str×Addr),fs.map (·.1)=Et ((Al (sw.take i)).take j) e /\
     H' l2=some (.lst (fs.map λx=>.ref x.2))/\∀x∈fs,H x.2=none/\H' x.2=some (E6 x.1))
    ⟨⟨_,rfl⟩,Sl2,[],rfl,Aa,λx hx=>by cases hx⟩ (λj σ H' _ q=>q.2.1.seqL (SqL.of el1)) ?_ ?_
   .rintro j y σ H2 hy ⟨⟨v4,rfl⟩,S2,fs,efs,e2l,hf⟩
    obtain⟨⟨r,ra⟩,hj,rfl⟩:=Ak hy
    have hj2:(Al (sw.take i))[j]?=some r:=by rw[<- ee,ao,hj];rfl
    obtain⟨_,hra⟩:=he _ (ah hj)
    have S12:=S1.trans S2
    refine⟨.inl ⟨rfl,_,SqL.of e2l⟩,.ref ta,.inl ⟨_,.inr e.1,.inr ⟨o,S12 _ _ ef⟩,rfl,hv.symm⟩,.inr (.inl ⟨⟨_,SqT.of (S12 _ _ hta)⟩,?_⟩)⟩
    refine U6 (H0:=H1) ⟨_,rfl⟩ S2 (S2 _ _ hra) (S12 _ _ hta) (rl r (ah hj2)) (aT hoke.2.2 (by decide)) λD H3 S3 hD gs eg eD hg=>?_
    have e3l:=S3 _ _ e2l
    have lfs:fs.length<=1024:=by
     have:=congrArg b9 efs
     rw[ae,Og,aF] at this
     have h4:=hoke.2.2
     have:min j (Al (sw.take i)).length*e.2.length<=256*4:=Nat.mul_le_mul (by omega) h4
     omega
    have lgs:gs.length<=4:=by
     have h1:gs.length=e.2.length:=by simpa using congrArg b9 eg
     have h2:e.2.length<=4:=hoke.2.2
     omega
    refine⟨l2,D,_,_,rfl,rfl,e3l,eD,?_,⟨_,rfl⟩,(S2.trans S3).set hl2,fs++gs,?_,?_,?_⟩
    .rw[ae,ae]
     exact aT (show fs.length+gs.length<=1028 by omega) (by decide)
    .rw[aw,efs,eg,ac1 hj2]
    .rw[Aa,aw]
    .have h3:∀x∈fs++gs,H x.2=none/\H3 x.2=some (E6 x.1):=λx hx=>by
      rcases List.mem_append.mp hx with hx|hx
      .exact⟨(hf x hx).1,S3 _ _ (hf x hx).2⟩
      .exact⟨frees S1 (hg x hx).1,(hg x hx).2⟩
     intro x hx
     refine⟨(h3 x hx).1,?_⟩
     rw[Ad (λe=>by have:=(h3 x hx).2;rw[e,e3l] at this;cases this)]
     exact(h3 x hx).2
   .rintro σ H2 ⟨⟨v4,rfl⟩,S2,fs,efs,e2l,hf⟩
    rw[ae,lenr,aI] at efs
    refine .inl ⟨⟨_,_,_,_,rfl,fs,?_,⟨f2,e2l⟩,hf⟩,S1.trans S2⟩
    rw[efs]
    exact(Dz hi2 _ _).symm
  .rintro σ H1 ⟨⟨l,v2,v3,v4,rfl,T1⟩,S1⟩
   rw[ae,ae,len,aI] at T1
   refine .inr ⟨d,o,_,od0,S1 _ _ ef,?_⟩
   exact k _ l (S0.trans (Same.thaw od0 (hHf▸S1))) (T1.mono (Kp.off (F6 od)))
def Off(d:Addr)(H H':Hp):Prop:=∀b u,b≠d->H b=some u->H' b=some u
def Off.up{d:Addr}{H H1 H2:Hp}(h:Off d H H1)(S:Same H1 H2):Off d H H2:=λb u n e=>S _ _ (h b u n e)
def Off.set{d a:Addr}{o:HO}{H H1:Hp}(h:Off d H H1)(e:H a=none):Off d H (upd H1 a o):=λb u n q=>by rw[Ad (Ai q e)];exact h b u n q
def Off.free{d b:Addr}{H H1:Hp}(h:Off d H H1)(n:b≠d)(e:H1 b=none):H b=none:=by
 cases q:H b with
 |none=>rfl
 |some u=>rw[h b u n q] at e;cases e
def Off.thaw{d:Addr}{kvs:List (Key×V)}{H H1:Hp}(h:Off d H H1)(e:H d=some (.dK kvs)):Same H (upd H1 d (.dK kvs)):=λb u q=>by
 by_cases n:b=d
 .subst n;rw[Aa,<- e,q]
 .rw[Ad n];exact h b u n q
theorem Ny(p:Nat)(z:Str):∀a r k,D0 p z k (a++[r])=D0 p z k a++(if r[p]?=some z then [k+a.length] else [])
 | [],r,k=>by
  rw[List.nil_append,D0,D0,D0,List.nil_append]
  rfl
 | b::a,r,k=>by
  rw[List.cons_append,D0,D0,Ny p z a r (k+1),aP,show k+1+a.length=k+(a.length+1) by omega]
  split <;> simp
theorem Pg(p:Nat)(z:Str):∀a k n,n∈D0 p z k a->n<k+a.length
 |[],k,n,h=>by cases h
 | b::a,k,n,h=>by
  rw[D0] at h
  rw[aP]
  split at h
  .rcases List.mem_cons.mp h with h|h
   .omega
   .have:=Pg p z a (k+1) n h;omega
  .have:=Pg p z a (k+1) n h;omega
theorem Lb(p:Nat)(z:Str):∀a k,(D0 p z k a).length<=a.length
 |[],k=>af _
 | b::a,k=>by
  rw[D0,aP]
  split
  .rw[aP];have:=Lb p z a (k+1);omega
  .have:=Lb p z a (k+1);omega
def Pb{α:Type}{ds:List (α×Addr)}{i:Nat}{x y:V}(h:(Ej 0 (ds.map λx=>V.ref x.2))[i]?=some (x,y)):∃z,ds[i]?=some z/\x=.int (i:Int)/\y=.ref z.2:=by
 have hi:=Aj h
 rw[Bs,ae] at hi
 refine⟨_,ak hi,?_⟩
 have:=C5 (k:=0) (xs:=ds.map λx=>V.ref x.2) (by rw[ao,ak hi];rfl)
 rw[this,du] at h
 obtain⟨rfl,rfl⟩:V.int (i:Int)=x/\V.ref ds[i].2=y:=by simpa using h
 exact⟨rfl,rfl⟩
def be1{E:EK}{H:Hp}{l:Addr}{ds:List (List Str×Addr)}{rows:List (List Str)}{i:Nat}{z:Str}{R:Hp->Addr->Prop}(ed:ds.map (·.1)=rows)(ol:H l=some (.lst (ds.map λx=>.ref x.2)))(hd:∀x∈ds,H x.2=some (E6 x.1))(hr:∀r∈rows,i<r.length)(few:rows.length<=256)(k:∀D H',Same H H'->H D=none->H' D=some (.lst ((D0 i z 0 rows).map λn:Nat=>V.int (n:Int)))->R H' D) :
  ∀D,H D=none->Fc (Ite K l) (gdT K 2 [gdN 0,gdN 1]) (Bb (Ah (Bp K false) (Ah (Av K) (Ab 1) (Ab 2)) (Ab 3))) (Ab 0) D (λH'=>R H' D) [none,none,some (.int (i:Int)),some (.str z)] (upd H D (.lst [])) E:=by
 intro D hD
 have len:(Ej 0 (ds.map λx=>V.ref x.2)).length=rows.length:=by rw[Bs,<- ed];simp
 refine G1 (E8 (ds.map λx=>V.ref x.2)) (λm σ H'=>(∃v0 v1,σ=[v0,v1,some (.int (i:Int)),some (.str z)])/\Same H H'/\H' D=some (.lst ((D0 i z 0 (rows.take m)).map λn:Nat=>V.int (n:Int))))
  ⟨⟨_,_,rfl⟩,Same.upd hD,Aa⟩ (λm σ H' _ q=>q.2.1.seqL (SqL.of ol)) ?_ ?_
 .rintro m x y T σ H1 hxy hT ⟨⟨v0,v1,rfl⟩,S1,eD⟩
  obtain⟨⟨r,b⟩,hm,rfl,rfl⟩:=Pb hxy
  have hm2:rows[m]?=some r:=by rw[<- ed,ao,hm];rfl
  have hb:=hd _ (ah hm)
  have hi:=hr r (ah hm2)
  have ST:=Same.upd (o:=.tup [.int (m:Int),.ref b]) hT
  refine⟨_,.inl (SqT.of Aa),rfl,?_⟩
  generalize upd H1 T (.tup [.int (m:Int),.ref b])=H2 at ST ⊢
  have S2:=S1.trans ST
  have eD2:=ST _ _ eD
  have mm:=Nat.min_eq_left (fF (Aj hm2))
  have he:D0 i z 0 (rows.take (m+1))=D0 i z 0 (rows.take m)++(if r[i]?=some z then [m] else []):=by
   rw[aN,hm2,dz,Ny,aF,mm,du]
  refine⟨_,_,.inr (SqT.of (S2 _ _ hb)),B5 (by rw[ao,ak hi];rfl),?_⟩
  rw[ak hi] at he
  refine Hh (λe=>?_) (λe=>?_)
  .have e:r[i]=z:=by simpa using e
   rw[if_pos (by rw[e])] at he
   refine⟨_,eD2,?_,⟨_,_,rfl⟩,S2.set hD,?_⟩
   .rw[ae]
    have h1:=Lb i z (rows.take m) 0
    rw[aF] at h1
    exact be (show(D0 i z 0 (rows.take m)).length<=256 by omega) (by decide)
   .rw[Aa,he,aw];rfl
  .have e:¬ r[i]=z:=by simpa using e
   rw[if_neg (by simpa using e),b5] at he
   exact⟨⟨_,_,rfl⟩,S2,by rw[he];exact eD2⟩
 .rintro σ H1 ⟨_,S1,eD⟩
  rw[len,aI] at eD
  exact k D H1 S1 hD eD
def ab8{rows:List (List Str)}{i m:Nat}{l:List Str}{z:Str}(hz:l[m]?=some z)(nd:l.Nodup) :
  Bt ((l.take m).map λz=>((.inr z:Key),V.int (En rows i z))) (.inr z) (.int (En rows i z))=(l.take (m+1)).map λz=>((.inr z:Key),V.int (En rows i z)):=by
 rw[Er,Cc hz]
 refine Cq ?_
 rw[au]
 intro hm
 obtain⟨y,hy,e⟩:=List.mem_map.mp hm
 have e:y=z:=by injection e
 subst e
 exact Eb nd hz hy
def bx3(Z:Am K t):OkD K bb2 (Ax K t) bl (t.f 31) (t.d 31) (as7 K t):=by
 refine A0 (cb9 K t) λvs H Q E h=>?_
 .obtain⟨d,l,sw,rfl,⟨ds,ed,⟨_,od⟩,hd⟩,⟨ts,et,⟨_,ol⟩,htp⟩,hw,k⟩:=h;refine⟨rfl,?_⟩
  intro s hs
  have nds:=Ai od hs
  have nld:l≠d:=λe=>by rw[e,od] at ol;cases ol
  have od1:upd H s (.dK []) d=some (.dK (ds.map kR)):=by rw[Ad nds];exact od
  refine .inl (.inr (.inl ⟨_,od1,λo=>?_⟩))
  have O0:Off d H (upd (upd H s (.dK [])) d (.frz o (.dK (ds.map kR)))):=λb u n e=>by rw[Ad n,Ad (Ai e hs)];exact e
  have ef:upd (upd H s (.dK [])) d (.frz o (.dK (ds.map kR))) d=some (.frz o (.dK (ds.map kR))):=Aa
  have es0:upd (upd H s (.dK [])) d (.frz o (.dK (ds.map kR))) s=some (.dK []):=by rw[Ad (cj nds),Aa]
  have len:(Ej 0 ((ds.map kR).map λkv=>kV kv.1)).length=sw.length:=by rw[Bs,<- ed];simp
  have few:=hw.len
  have rlen:=(Hu hw.sets).2.1
  generalize upd (upd H s (.dK [])) d (.frz o (.dK (ds.map kR)))=H0 at O0 ef es0 ⊢
  refine Kd (aw0 (ds.map kR)) (λi σ H'=>(∃v3 v4 v5 v6,σ=[some (.ref d),some (.ref l),some (.ref s),v3,v4,v5,v6])/\Off d H H'/\H' d=some (.frz o (.dK (ds.map kR))) /\
    ∃es:List ((Str×List Str)×Addr),es.map (·.1)=sw.take i/\H' s=some (.dK (es.map kR))/\∀j x,es[j]?=some x->H x.2=none/\H' x.2=some (Vo (Al sw) j x.1.2))
   ⟨⟨_,_,_,_,rfl⟩,O0,ef,[],rfl,es0,λj x hx=>by simp at hx⟩ (λi σ H' _ q=>q.2.2.1) ?_ ?_
  .rintro i x y T σ H1 hxy hT ⟨⟨v3,v4,v5,v6,rfl⟩,O1,f1,es,ee,e1s,he⟩
   have hi':=Aj hxy
   rw[len] at hi'
   have hids:i<ds.length:=by rw[<- ed,ae] at hi';exact hi'
   obtain⟨⟨e,ta⟩,hi⟩:∃z,ds[i]?=some z:=⟨_,ak hids⟩
   have hxy2:=C5 (k:=0) (xs:=(ds.map kR).map λkv=>kV kv.1) (x:=.str e.1) (by rw[ao,ao,hi];rfl)
   rw[hxy2,du] at hxy
   obtain⟨rfl,rfl⟩:V.int (i:Int)=x/\V.str e.1=y:=by simpa using hxy
   have hi2:sw[i]?=some e:=by rw[<- ed,ao,hi];rfl
   have hta:=(hd _ (ah hi)).2
   have nta:ta≠d:=λz=>by rw[z,od] at hta;cases hta
   have hoke:=hw.sets e (ah hi2)
   have hv:=Bo (Ey ed hw.2.2.1) (by rw[ao,hi];rfl)
   have nk:=Pw ee hi2 hw.2.2.1
   have les:es.length=i:=by
    have:=congrArg b9 ee
    rw[ae,aF] at this
    omega
   have ST:=Same.upd (o:=.tup [.int (i:Int),.str e.1]) hT
   refine⟨_,.inl (SqT.of Aa),rfl,?_⟩
   show Ae _ _ _ [some (.ref d),some (.ref l),some (.ref s),some (.int (i:Int)),some (.str e.1),v5,v6] (upd H1 T (.tup [.int (i:Int),.str e.1]))
   generalize upd H1 T (.tup [.int (i:Int),.str e.1])=H2 at ST ⊢
   have O2:=O1.up ST
   have f2:=ST _ _ f1
   have e2s:=ST _ _ e1s
   intro q hq
   have nqd:q≠d:=(Ai f2 hq).symm
   have nqs:q≠s:=(Ai e2s hq).symm
   have fq:H q=none:=O2.free nqd hq
   have Sq:=Same.upd (o:=.dK []) hq
   have eq:upd H2 q (.dK []) q=some (.dK []):=Aa
   refine .inl ?_
   show B8 K (Ab 2) (Ab 4) (.ref q) [some (.ref d),some (.ref l),some (.ref s),some (.int (i:Int)),some (.str e.1),v5,v6] (upd H2 q (.dK [])) _
   generalize upd H2 q (.dK [])=H3 at Sq eq ⊢
   refine⟨_,DPut.k (k:=.inr e.1) (Sq _ _ e2s) ?_,?_⟩
   .rw[ae]
    have:=hw.2.1
    exact be (show es.length<=5 by omega) (by decide)
   rw[Kg nk]
   have O4:Off d H (upd H3 s (.dK ((es++[(e,q)]).map kR))):=(O2.up Sq).set hs
   have f4:upd H3 s (.dK ((es++[(e,q)]).map kR)) d=some (.frz o (.dK (ds.map kR))):=by rw[Ad nds];exact Sq _ _ f2
   have e4s:upd H3 s (.dK ((es++[(e,q)]).map kR)) s=some (.dK ((es++[(e,q)]).map kR)):=Aa
   have e4q:upd H3 s (.dK ((es++[(e,q)]).map kR)) q=some (Vo (Al sw) i (e.2.take 0)):=by rw[Ad nqs];exact eq
   have he4:∀j x,es[j]?=some x->H x.2=none/\upd H3 s (.dK ((es++[(e,q)]).map kR)) x.2=some (Vo (Al sw) j x.1.2)/\x.2≠q/\x.2≠s:=λj x hx=>by
    obtain⟨a1,a2⟩:=he j x hx
    have b1:=Ai (ST _ _ a2) hq
    have b2:x.2≠s:=λz=>by
     rw[z,e1s] at a2
     unfold Vo at a2
     have a3:es.map kR=x.1.2.map λz=>((.inr z:Key),V.int (En (Al sw) j z)):=by injection (aJ a2)
     have m1:kR x∈es.map kR:=aL (ah hx)
     rw[a3] at m1
     obtain⟨y,_,hy⟩:=List.mem_map.mp m1
     injection hy with _ hy
     cases hy
    refine⟨a1,?_,b1,b2⟩
    rw[Ad b2];exact Sq _ _ (ST _ _ a2)
   generalize upd H3 s (.dK ((es++[(e,q)]).map kR))=H4 at O4 f4 e4s e4q he4 ⊢
   have nd4:(((es++[(e,q)]).map kR).map (·.1)).Nodup:=Ey (G8 ee hi2) (by rw[gC];exact hw.2.2.1.sublist (eh _ _))
   have hq4:Bg ((es++[(e,q)]).map kR) (.inr e.1)=some (.ref q):=Bo (i:=es.length) nd4 (by rw[ao,bq (af _),gp];rfl)
   refine⟨.ref ta,.inl ⟨_,.inr e.1,.inr ⟨o,f4⟩,rfl,hv.symm⟩,.inr (.inl ⟨⟨_,SqT.of (O4 _ _ nta hta)⟩,?_⟩)⟩
   refine A5 (aw1 (e.2.map V.str)) (λm σ H'=>(∃v5 v6,σ=[some (.ref d),some (.ref l),some (.ref s),some (.int (i:Int)),some (.str e.1),v5,v6])/\Off d H H'/\H' d=some (.frz o (.dK (ds.map kR)))/\H' s=some (.dK ((es++[(e,q)]).map kR)) /\
     H' q=some (Vo (Al sw) i (e.2.take m))/\∀j x,es[j]?=some x->H' x.2=some (Vo (Al sw) j x.1.2))
    ⟨⟨_,_,rfl⟩,O4,f4,e4s,e4q,λj x hx=>(he4 j x hx).2.1⟩ (λm σ H' _ q=>SqT.of (q.2.1 _ _ nta hta)) ?_ ?_
   .rintro m x σ H5 hx ⟨⟨v5,v6,rfl⟩,O5,f5,e5s,e5q,he5⟩
    obtain⟨z,hz,rfl⟩:=Ak hx
    refine .inl ⟨⟨_,SqL.of (O5 _ _ nld ol)⟩,?_⟩
    refine be1 et (O5 _ _ nld ol) (λx hx=>O5 _ _ (λe=>by have:=(htp x hx).2;rw[e,od] at this;cases this) (htp x hx).2) (λr hr=>by rw[rlen r hr];exact hi') few λD H6 S6 hD eD=>?_
    refine⟨D,_,rfl,SqL.of eD,(λn hn=>?_),?_⟩
    .have:=Pg i z (Al sw) 0 n hn
     omega
    show B8 K (Ah (Av K) (Ab 2) (Ab 4)) (Ab 5) (.int (En (Al sw) i z)) [some (.ref d),some (.ref l),some (.ref s),some (.int (i:Int)),some (.str e.1),some (.str z),some (.ref D)] H6 _
    refine⟨.ref q,.inl ⟨_,.inr e.1,.inl (S6 _ _ e5s),rfl,hq4.symm⟩,_,DPut.k (k:=.inr z) (S6 _ _ e5q) ?_,?_⟩
    .rw[ae,aF]
     have:=hoke.2.2
     exact be (show min m e.2.length<=4 by omega) (by decide)
    rw[ab8 hz hoke.1.2.1]
    refine⟨⟨_,_,rfl⟩,(O5.up S6).set fq,?_,?_,Aa,λj x hx=>?_⟩
    .rw[Ad (cj nqd)];exact S6 _ _ f5
    .rw[Ad (cj nqs)];exact S6 _ _ e5s
    .rw[Ad (he4 j x hx).2.2.1];exact S6 _ _ (he5 j x hx)
   .rintro σ H5 ⟨⟨v5,v6,rfl⟩,O5,f5,e5s,e5q,he5⟩
    rw[ae,aI] at e5q
    refine .inl ⟨⟨_,_,_,_,rfl⟩,O5,f5,es++[(e,q)],G8 ee hi2,e5s,λj x hx=>?_⟩
    by_cases hj:j<es.length
    .rw[bE hj] at hx
     exact⟨(he4 j x hx).1,he5 j x hx⟩
    .have hj2:=Aj hx
     rw[aG] at hj2
     have hj3:j=es.length:=by have:[(e,q)].length=1:=rfl;omega
     subst hj3
     rw[bq (af _),gp] at hx
     have:(e,q)=x:=by simpa using hx
     subst this
     rw[les]
     exact⟨fq,e5q⟩
  .rintro σ H1 ⟨⟨v3,v4,v5,v6,rfl⟩,O1,f1,es,ee,e1s,he⟩
   rw[len,aI] at ee
   refine .inr ⟨d,o,_,od1,f1,?_⟩
   refine k _ s (O1.thaw od) ⟨es,ee,⟨hs,?_⟩,λj x hx=>⟨(he j x hx).1,?_⟩⟩
   .rw[Ad (cj nds)];exact e1s
   .rw[Ad (λz=>by have:=(he j x hx).1;rw[z,od] at this;cases this)];exact(he j x hx).2
def C6(l:List Str):(l.map V.str).all B7=true:=by rw[gn,bh];exact λ_ _=>rfl
def Lp{sw:Sw}{i:Nat}{x:Str×List Str}(h:sw[i]?=some x)(nd:(sw.map (·.1)).Nodup):Gg sw x.1=i:=by
 have hi:=Aj h
 have ex:sw[i]=x:=by rw[ak hi] at h;exact aJ h
 unfold Gg
 rw[List.findIdx_eq hi]
 refine⟨by rw[ex];simp,λj hj=>?_⟩
 have hj2:j<sw.length:=by omega
 refine decide_eq_false λe=>?_
 have:=(dN (h₀:=by rw[ae];exact hj2) (h₁:=by rw[ae];exact hi) nd).mp (by rw[dO,dO,e,ex])
 omega
def Tz{rows:List (List Str)}{i:Nat}{l:List Str}{z:Str}(nd:l.Nodup)(h:z∈l):Bg (l.map λz=>((.inr z:Key),V.int (En rows i z))) (.inr z)=some (.int (En rows i z)):=by
 obtain⟨j,hj,e⟩:=List.mem_iff_getElem.mp h
 refine Bo (i:=j) ?_ ?_
 .rw[au];exact Iv nd
 .rw[ao,ak hj,e];rfl
def bi1(Z:Am K t):OkD K Xa (Ax K t) bl (t.m_zce 6) (t.e_zce 6) (V4 K t):=by
 refine A0 (b35 K t) λvs H Q E h=>?_
 .obtain⟨p,a,l,s,wd,ss,sw,rfl,⟨dx,fs,⟨_,hp⟩,hl,hs,hm⟩,⟨ds,ed,⟨_,os⟩,hd⟩,hw,ha,⟨ne,hL,x,hx,ex,hin⟩,k⟩:=h;refine⟨rfl,?_⟩
  have ex:=ex
  have ne:=ne
  have hL:=hL
  have hin:=hin
  subst ex
  obtain⟨i,hi2⟩:=List.mem_iff_getElem?.mp hx
  have hids:i<ds.length:=by have:=Aj hi2;rw[<- ed,ae] at this;exact this
  obtain⟨⟨x',q⟩,hi⟩:∃z,ds[i]?=some z:=⟨_,ak hids⟩
  have:x'=x:=by
   rw[<- ed,ao,hi] at hi2
   exact aJ hi2
  subst this
  have oq:=(hd i _ hi).2
  have hok:=hw.sets x' hx
  have hv:=Bo (Ey ed hw.2.2.1) (by rw[ao,hi];rfl)
  have pl:=Lp hi2 hw.2.2.1
  have cl:=Z.pf.cl
  have na:NoAttr K t.c_zce "sets" := Z.pf.na _ (by simp)
  have gq:∀{H'},Same H H'->DGet H' s (.str x'.1) (some (.ref q)):=λS=>.inl ⟨_,.inr x'.1,.inl (S _ _ os),rfl,hv.symm⟩
  refine⟨rfl,?_⟩
  refine⟨_,_,_,_,hp,cl,na,hs,?_⟩
  refine .inr ⟨_,.inl ⟨_,.inr x'.1,.inl os,rfl,hv.symm⟩,?_⟩
  refine⟨a,ss,rfl,SqL.of ha,hL,λH1 S1=>⟨by decide,λe he=>.inl ⟨a,e,_,_,rfl,rfl,(S1.trans (Same.upd he)).seqL (SqL.of ha),SqL.of Aa,C6 ss,rfl,Cg ?_ ?_⟩⟩⟩
  .exact Dy (by rw[ae];intro z;exact ne (List.length_eq_zero_iff.mp z))
  have S2:=S1.trans (Same.upd (o:=.lst []) he)
  generalize upd H1 e (.lst [])=H2 at S2 ⊢
  refine .inl ⟨⟨_,S2.seqL (SqL.of ha)⟩,?_⟩
  refine Rn (σ:=[none,some (.ref p),some (.str x'.1)]) (Az (ss.map V.str)) (λσ=>∃v,σ=[v,some (.ref p),some (.str x'.1)]) (λH3 S3=>(S2.trans S3).seqL (SqL.of ha)) ?_ ⟨_,rfl⟩ (λσ x ⟨v,e⟩=>⟨some x,by rw[e];rfl⟩) ?_ λD3 H3 S3 q3=>⟨_,q3,?_⟩
  .rw[ae];exact be hL.2.2 (by decide)
  .rintro y σ H3 Q1 hy ⟨v,rfl⟩ S3 q1
   obtain⟨z,hz,rfl⟩:=List.mem_map.mp hy
   have S:=S2.trans S3
   refine⟨_,_,_,_,(S _ _ hp),cl,na,hs,⟨.ref q,gq S,.inr ⟨_,.inl ⟨_,.inr z,.inl (S _ _ oq),rfl,rfl⟩,?_⟩⟩⟩
   rw[Tz hok.1.2.1 (hin z hz)]
   exact q1 H3 (Same.refl _)
  .rw[Xn]
   have S:=S2.trans S3
   refine .inl ⟨⟨_,S.seqL (SqL.of ha)⟩,λD hD=>?_⟩
   refine Ox (Az (ss.map V.str)) (λσ=>∃v,σ=[v,some (.ref p),some (.str x'.1)]) (λ_=>true) (λv=>match v with | .str z=>.int (En (Al sw) i z)|_=>.non) hD (λH4 S4=>(S.trans S4).seqL (SqL.of ha)) ?_ ⟨_,rfl⟩ ?_ ?_
   .rw[ae];exact be hL.2.2 (by decide)
   .rintro y σ H4 hy ⟨v,rfl⟩ S4 Fin Skip hF hK
    obtain⟨z,hz,rfl⟩:=List.mem_map.mp hy
    have S5:=S.trans S4
    refine(⟨_,_,_,_,(S5 _ _ hp),cl,na,hs,⟨.ref q,gq S5,.int (En (Al sw) i z),.inl ⟨_,.inr z,.inl (S5 _ _ oq),rfl,?_⟩,?_⟩⟩)
    .rw[Tz hok.1.2.1 (hin z hz)]
    .exact hF _ _ _ ⟨_,rfl⟩ (Same.refl _) rfl rfl
   .intro H4 S4 eD
    refine⟨D,ss.map (En (Al sw) i),rfl,SqL.of (eD.trans ?_),?_⟩
    .rw[List.filter_eq_self.mpr (λ_ _=>rfl),au,au];rfl
    .have:=k H4 (S.trans S4)
     unfold Jt at this
     rw[pl] at this
     exact this
def bi8(Z:Am K t):OkD K Xe (Ax K t) bl (t.m_zce 2) (t.e_zce 2) (Wa K t):=by
 refine A0 (b44 K t) λvs H Q E h=>?_
 .obtain⟨p,r,l,s,sw,rule,rfl,hs,ht,hse,hw,⟨ds,ed,⟨_,od⟩,hd⟩,hr,k⟩:=h;refine⟨rfl,?_⟩
  obtain⟨dx,fs,⟨np,hp⟩,_,_,hm⟩:=id hs
  have len:ds.length=rule.length:=by rw[<- ed];simp
  refine⟨_,true,.of (.dK od),rfl,⟨p,dx,fs,⟨t.c_zce,be2 K t⟩,rfl,.head _,hp,hm _ (by decide),⟨aC rfl,aC rfl⟩,p,l,s,sw,rfl,hs.mono Kp.any,ht.mono Kp.any,hw.len,?_⟩⟩
  refine .inr (.inr (.inl (.inl ⟨_,od,λo=>?_⟩)))
  have kf:Kp (· ≠ r) H (· ≠ r) (upd H r (.frz o (.dK (ds.map kR)))):=Kp.off (λe=>e rfl)
  have ef:upd H r (.frz o (.dK (ds.map kR))) r=some (.frz o (.dK (ds.map kR))):=Aa
  have hd2:∀x∈ds,upd H r (.frz o (.dK (ds.map kR))) x.2=some (Ay x.1.2):=λx hx=>by
   rw[Ad (λe=>by have:=(hd x hx).2;rw[e,od] at this;cases this)]
   exact(hd x hx).2
  generalize hHf:upd H r (.frz o (.dK (ds.map kR)))=Hf at kf ef hd2 ⊢
  refine A5 (Eh (ds.map kR)) (λi σ H'=>(∃v3,σ=[some (.ref p),some (.ref r),some (.int ((rule.take i).foldl (λc e=>cD c (Jt sw e)) (Rj sw))),v3])/\Same Hf H') ⟨⟨_,rfl⟩,Same.refl _⟩ (λi σ H' _ q=>q.2 _ _ ef) ?_ ?_
  .rintro i x σ H1 hx ⟨⟨v3,rfl⟩,S1⟩
   obtain⟨kv,hi0,rfl⟩:=Ak hx
   obtain⟨⟨e,la⟩,hi,rfl⟩:=Ak hi0
   have hi2:rule[i]?=some e:=by rw[<- ed,ao,hi];rfl
   have hv:=Bo (Ey ed hr.1) hi0
   have kn:=(kf.trans (Kp.same S1)).trans Kp.any
   refine⟨p,dx,fs,⟨t.c_zce,a80 K t⟩,rfl,.head _,(kn _ _ ⟨np,hp⟩).2,hm _ (by decide),⟨aC rfl,aC rfl⟩,.ref la,.inl ⟨_,.inr e.1,.inr ⟨o,S1 _ _ ef⟩,rfl,hv.symm⟩,?_⟩
   exact⟨p,la,l,s,e.1,e.2,sw,rfl,hs.mono kn,hse.mono kn,hw,S1 _ _ (hd2 _ (ah hi)),hr.2 e (ah hi2),λH2 S2=>⟨⟨_,congrArg (λz=>[some (V.ref p),some (V.ref r),some (V.int z),some (V.str e.1)]) (Dz hi2 (λc e=>cD c (Jt sw e)) (Rj sw)).symm⟩,S1.trans S2⟩⟩
  .rintro σ H1 ⟨⟨v3,rfl⟩,S1⟩
   rw[ae,ae,len,aI]
   exact .inr ⟨r,o,_,od,S1 _ _ ef,k _ (Same.thaw od (hHf▸S1))⟩
def bx4(Z:Am K t):OkD K aw8 (Ax K t) bl (t.m_zce 4) (t.e_zce 4) (as8 K t):=by
 refine A0 (cc0 K t) λvs H Q E h=>?_
 .obtain⟨p,r,l,s,sw,rule,rfl,hs,ht,hse,hw,hrl,hr,k⟩:=h;refine⟨rfl,?_⟩
  obtain⟨ds,ed,⟨_,od⟩,hd⟩:=id hrl
  obtain⟨dx,fs,⟨np,hp⟩,_,_,hm⟩:=id hs
  have len:ds.length=rule.length:=by rw[<- ed];simp
  have pos:=List.length_pos_iff.mpr hr.1
  refine⟨_,true,.of (.dK od),rfl,(.inr ⟨_,.inl od,Cg ?_ ?_⟩)⟩
  .refine decide_eq_false λe=>?_
   rw[ae] at e
   omega
  exact⟨p,dx,fs,⟨t.c_zce,ak6 K t⟩,rfl,.head _,hp,hm _ (by decide),⟨aC rfl,aC rfl⟩,p,r,l,s,sw,rule,rfl,hs,ht,hse,hw,hrl,⟨hr.2.2.1,hr.2.2.2⟩,λH1 S1=>⟨r,rule,rfl,hrl.mono (Kp.same S1),hr.2.2.1,hr.2.1,λH2 c S2 R2=>k H2 c (S1.trans S2) (R2.mono (Kp.fresh S1))⟩⟩
def bw8(Z:Am K t):OkD K aw4 (Ax K t) bl (t.m_zce 5) (t.e_zce 5) (as3 K t):=by
 refine A0 (cb4 K t) λvs H Q E h=>?_
 .obtain⟨p,l,s,ok,v,sw,ζ,rfl,hs,ht,hse,hw,hv,hr,h8,k⟩:=h;refine⟨rfl,?_⟩
  rcases hv with⟨rfl,rfl⟩|⟨kk,rfl,ds,ed,⟨nk,ok1⟩,hd⟩
  .refine⟨by decide,λq hq=>k _ q (Same.upd hq) ⟨[],rfl,⟨hq,Aa⟩,λx hx=>by cases hx⟩⟩
  .obtain⟨dx,fs,⟨op,hp⟩,_,_,hm⟩:=id hs
   have len:(ds.map λx=>V.ref x.2).length=ζ.length:=by rw[<- ed];simp
   refine⟨_,true,.sqL rfl (SqL.of ok1) rfl,rfl,(.inl ⟨_,.inl (SqL.of ok1),Cg ?_ ?_⟩)⟩
   .refine decide_eq_false λe=>?_
    rw[len] at e
    omega
   refine .inl ⟨⟨_,SqL.of ok1⟩,λD hD=>?_⟩
   refine Dg (Az (ds.map λx=>V.ref x.2)) (λm σ H'=>(∃v,σ=[v,some (.ref p)])/\Same H H'/\∃fs:List (Sw×Addr),fs.map (·.1)=ζ.take m/\H' D=some (.lst (fs.map λx=>.ref x.2))/\∀x∈fs,RuleAt (λa=>H a=none/\a≠D) H' x.2 x.1)
    ⟨⟨_,rfl⟩,Same.upd hD,[],rfl,Aa,λx hx=>by cases hx⟩ (λm σ H' _ q=>q.2.1.seqL (SqL.of ok1)) ?_ ?_
   .rintro m x σ H1 hx ⟨⟨v,rfl⟩,S1,gs,eg,eD,hg⟩
    obtain⟨⟨rule,r⟩,hm2,rfl⟩:=Ak hx
    have hm3:ζ[m]?=some rule:=by rw[<- ed,ao,hm2];rfl
    have hrl:=hd _ (ah hm2)
    have nr:¬ ok r:=by obtain⟨_,_,o,_⟩:=hrl;exact o.1
    have kw:Kp ok H (· ≠ r) H1:=(Kp.same S1).trans (Kp.weak λa h e=>nr (e▸h))
    refine⟨p,dx,fs,⟨t.c_zce,bv0 K t⟩,rfl,.head _,S1 _ _ hp,hm _ (by decide),⟨aC rfl,aC rfl⟩,p,r,l,s,sw,rule,rfl,hs.mono kw,ht.mono kw,hse.mono kw,hw,hrl.mono ((Kp.same S1).trans Kp.any),hr rule (ah hm3),λH2 c S2 R2=>?_⟩
    have eD2:=S2 _ _ eD
    refine⟨_,eD2,?_,⟨_,rfl⟩,(S1.trans S2).set hD,gs++[(rule,c)],G8 eg hm3,?_,?_⟩
    .rw[ae]
     have:=Ut eg
     exact be (show gs.length<=8 by omega) (by decide)
    .rw[Aa,aw];rfl
    .have ko:Kp (λa=>H a=none/\a≠D) H2 (λa=>H a=none/\a≠D) (upd H2 D (.lst ((gs.map λx=>V.ref x.2)++[.ref c]))):=Kp.off (λe=>e.2 rfl)
     intro x hx
     rcases List.mem_append.mp hx with hx|hx
     .exact (hg x hx).mono ((Kp.same S2).trans ko)
     .have:x=(rule,c):=by simpa using hx
      subst this
      exact R2.mono ((Kp.weak λa h=>⟨S1.free h,(Ai eD h).symm⟩).trans ko)
   .rintro σ H1 ⟨_,S1,gs,eg,eD,hg⟩
    rw[len,aI] at eg
    exact k H1 D S1 ⟨gs,eg,⟨hD,eD⟩,λx hx=>(hg x hx).mono (Kp.weak λa h=>h.1)⟩
def Gf{f:Str}{p C dx:Addr}{fs fs':List (Str×V)}{y:V}{H:Hp}{N:Hp->Prop}(hp:H p=some (.ins C dx fs))(c:Cls K C)(n:NoAttr K C f)(l:fs.length<1000)(e:Fo f y fs=fs')(k:∀H',(∀b,b≠p->H' b=H b)->H' p=some (.ins C dx fs')->N H'):aq9 K f (.ref p) y H N:=
 ⟨C,dx,fs,hp,c,n,l,k _ (λb hb=>Ad hb) (by rw[Aa,e])⟩
def Kp.but{ok:Addr->Prop}{p:Addr}{H H':Hp}(h:∀b,b≠p->H' b=H b)(n:¬ ok p):Kp ok H ok H':=λa o q=>⟨q.1,by rw[h a (λe=>n (e▸q.1))];exact q.2⟩
def Off.but{p:Addr}{H H1 H2:Hp}(h:Off p H H1)(e:∀b,b≠p->H2 b=H1 b):Off p H H2:=λb u n q=>by rw[e b n];exact h b u n q
def Off.fr{p:Addr}{u:HO}{H H1:Hp}(h:Off p H H1)(e:H1 p=some u):∀b,H1 b=none->H b=none:=λb q=>h.free (λz=>by rw[z,e] at q;cases q) q
structure Pc (ok:Addr->Prop) (H:Hp) (d l n s:Addr) (sw:Sw):Prop where
 sws:SwAt ok H d sw
 tps:TupsAt ok H l (Al sw)
 nms:NumAt ok H n (Al sw)
 sts:SetsAt ok H s sw
theorem Pc.mono{ok ok':Addr->Prop}{H H':Hp}{d l n s:Addr}{sw:Sw}(h:Pc ok H d l n s sw)(k:Kp ok H ok' H'):Pc ok' H' d l n s sw:=⟨h.sws.mono k,h.tps.mono k,h.nms.mono k,h.sts.mono k⟩
abbrev fl6(d l n s k b:Addr):List (Str×V):=[("settings", .ref d),("tuples", .ref l),("numbers", .ref n),("sets", .ref s),("kept_rules", .ref k),("bars", .ref b)]
def Py{fs:List (Str×V)}(h:fs.lookup ("all_choices" : Str)=none/\fs.lookup ("box" : Str)=none/\fs.lookup ("many" : Str)=none/\fs.lookup ("term" : Str)=none/\fs.lookup ("read_rule" : Str)=none/\fs.lookup ("read_rules" : Str)=none):∀m∈(["all_choices","box","many","term","read_rule","read_rules"]:List Str),fs.lookup m=none:=by
 intro m hm
 simp only[aB,cf,or_false] at hm
 rcases hm with rfl|rfl|rfl|rfl|rfl|rfl
 .exact h.1
 .exact h.2.1
 .exact h.2.2.1
 .exact h.2.2.2.1
 .exact h.2.2.2.2.1
 .exact h.2.2.2.2.2
def bh9(Z:Am K t):OkD K D_zam (Ax K t) bl t.f_zam t.d_zam (ar8 K t):=by
 refine A0 (b33 K t) λvs H Q E h=>?_
 .obtain⟨p,a,dx,v,sw,ζ,rfl,hp,hsw,hw,hrl,hr,h8,hf,k⟩:=h;refine⟨rfl,?_⟩
  have cl:=Z.pf.cl
  have na:=Z.pf.na
  have nf:=(F6 hp)
  refine⟨a,sw,rfl,hsw.mono Kp.any,hw,λH1 d S1 A1=>?_⟩
  refine Gf (S1 _ _ hp) cl (na _ (by simp)) (aC rfl) rfl λH2 b2 p2=>?_
  have O2:Off p H H2:=λb u n e=>by rw[b2 b n];exact S1 _ _ e
  have A2:=A1.mono (Kp.but b2 nf)
  refine⟨_,_,_,_,p2,cl,(na _ (by simp)),rfl,⟨d,sw,rfl,A2.mono Kp.any,hw,λH3 l S3 T3=>?_⟩⟩
  refine Gf (S3 _ _ p2) cl (na _ (by simp)) (aC rfl) rfl λH4 b4 p4=>?_
  have O4:=(O2.up S3).but b4
  have A4:=A2.mono ((Kp.same S3).trans (Kp.but b4 nf))
  have T4:=T3.mono ((Kp.weak (O2.fr p2)).trans (Kp.but b4 nf))
  refine⟨_,_,_,_,p4,cl,(na _ (by simp)),rfl,⟨l,Al sw,rfl,T4.mono Kp.any,(Hu hw.sets).1,hw.len,λH5 n S5 N5=>?_⟩⟩
  refine Gf (S5 _ _ p4) cl (na _ (by simp)) (aC rfl) rfl λH6 b6 p6=>?_
  have O6:=(O4.up S5).but b6
  have A6:=A4.mono ((Kp.same S5).trans (Kp.but b6 nf))
  have T6:=T4.mono ((Kp.same S5).trans (Kp.but b6 nf))
  have N6:=N5.mono ((Kp.weak (O4.fr p4)).trans (Kp.but b6 nf))
  refine⟨_,_,_,_,p6,cl,(na _ (by simp)),rfl,(⟨_,_,_,_,p6,cl,(na _ (by simp)),rfl,⟨d,l,sw,rfl,A6.mono Kp.any,T6.mono Kp.any,hw,λH7 s S7 E7=>?_⟩⟩)⟩
  refine Gf (S7 _ _ p6) cl (na _ (by simp)) (aC rfl) rfl λH8 b8 p8=>?_
  have O8:=(O6.up S7).but b8
  have k78:=(Kp.same S7).trans (Kp.but b8 nf)
  have P8:Pc (fresh H) H8 d l n s sw:=⟨A6.mono k78,T6.mono k78,N6.mono k78,E7.mono ((Kp.weak (O6.fr p6)).trans (Kp.but b8 nf))⟩
  have P8':Pc (λb=>H b=none/\H8 b≠none) H8 d l n s sw:=P8.mono λb o q=>⟨⟨q.1,by rw[q.2];exact λz=>nomatch z⟩,q.2⟩
  have w8:Kp (fresh H) H8 (λb=>b=p\/H b=none) H8:=Kp.weak λb e=>.inr e
  have RI:Oq (λb=>¬ (b=p\/H b=none)) H8 v ζ:=by
   rcases hrl with h|⟨kk,e,R⟩
   .exact .inl h
   .refine .inr ⟨kk,e,R.mono λb o q=>⟨λz=>?_,O8 _ _ q.1 q.2⟩⟩
    rcases z with z|z
    .exact q.1 z
    .have:=q.2;rw[z] at this;cases this
  refine⟨p,dx,_,⟨t.c_zce,bu6 K t⟩,rfl,.head _,p8,rfl,⟨aC rfl,aC rfl⟩,p,l,s,(λb=>b=p\/H b=none),v,sw,ζ,rfl,⟨dx,_,⟨.inl rfl,p8⟩,rfl,rfl,Py ⟨rfl,rfl,rfl,rfl,rfl,rfl⟩⟩,P8.tps.mono w8,P8.sts.mono w8,hw,RI,hr,h8,λH9 kk S9 R9=>?_⟩
  refine Gf (S9 _ _ p8) cl (na _ (by simp)) (aC rfl) rfl λH10 b10 p10=>?_
  have O10:=(O8.up S9).but b10
  have n8:=(F6 p8)
  have R10:=R9.mono (Kp.but b10 n8)
  have P10:=P8'.mono ((Kp.same S9).trans (Kp.but b10 (λe=>nf e.1)))
  obtain⟨rs,er,⟨fk,ok⟩,hrs⟩:=id R10
  have lenr:(rs.map λx=>V.ref x.2).length=ζ.length:=by rw[<- er];simp
  refine⟨_,_,_,_,p10,cl,(na _ (by simp)),rfl,(.inl ⟨⟨_,SqL.of ok⟩,λD hD=>?_⟩)⟩
  have fD:H D=none:=O10.fr p10 D hD
  refine Dg (Az (rs.map λx=>V.ref x.2)) (λm σ H'=>(∃v,σ=[v,some (.ref p)])/\Same H10 H'/\H' D=some (.lst ((Jj sw (ζ.take m)).map V.int))) ⟨⟨_,rfl⟩,Same.upd hD,Aa⟩ (λm σ H' _ q=>q.2.1.seqL (SqL.of ok)) ?_ ?_
  .rintro m x σ H11 hx ⟨⟨v,rfl⟩,S11,eD⟩
   obtain⟨⟨rule,r⟩,hm2,rfl⟩:=Ak hx
   have hm3:ζ[m]?=some rule:=by rw[<- er,ao,hm2];rfl
   have hrl2:=hrs _ (ah hm2)
   have nr:H8 r=none:=by obtain⟨_,_,o,_⟩:=hrl2;exact o.1
   have npr:p≠r:=Ai p8 nr
   have kw:Kp (λb=>H b=none/\H8 b≠none) H10 (· ≠ r) H11:=(Kp.same S11).trans (Kp.weak λb h e=>h.2 (e▸nr))
   refine⟨p,dx,_,⟨t.c_zce,ak6 K t⟩,rfl,.head _,S11 _ _ p10,rfl,⟨aC rfl,aC rfl⟩,p,r,l,s,sw,rule,rfl,⟨dx,_,⟨npr,S11 _ _ p10⟩,rfl,rfl,Py ⟨rfl,rfl,rfl,rfl,rfl,rfl⟩⟩,P10.tps.mono kw,P10.sts.mono kw,hw,hrl2.mono ((Kp.same S11).trans Kp.any),(hr rule (ah hm3)).2.2,λH12 S12=>?_⟩
   refine⟨_,S12 _ _ eD,?_,⟨_,rfl⟩,(S11.trans S12).set hD,?_⟩
   .rw[ae]
    unfold Jj
    rw[ae,aF]
    exact be (show min m ζ.length<=8 by omega) (by decide)
   .rw[Aa]
    unfold Jj
    rw[Cc hm3,aw]
    rfl
  rintro σ H11 ⟨_,S11,eD⟩
  rw[lenr,aI] at eD
  refine Gf (S11 _ _ p10) cl (na _ (by simp)) (aC rfl) (fs':=fl6 d l n s kk D) rfl λH12 b12 p12=>?_
  have O12:=(O10.up S11).but b12
  have nDp:D≠p:=(Ai p10 hD).symm
  have B12:H12 D=some (.lst ((Jj sw ζ).map V.int)):=by rw[b12 D nDp];exact eD
  have k12:∀{ok},¬ ok p->Kp ok H10 ok H12:=λh=>(Kp.same S11).trans (Kp.but b12 h)
  have P12:=P10.mono (k12 λe=>nf e.1)
  have R12:=R10.mono (k12 n8)
  refine⟨p,dx,_,⟨t.c_zce,be2 K t⟩,rfl,.head _,p12,rfl,⟨aC rfl,aC rfl⟩,p,l,s,sw,rfl,⟨dx,_,⟨trivial,p12⟩,rfl,rfl,Py ⟨rfl,rfl,rfl,rfl,rfl,rfl⟩⟩,P12.tps.mono Kp.any,hw.len,⟨_,_,_,_,p12,cl,(na _ (by simp)),rfl,⟨D,Jj sw ζ,rfl,SqL.of B12,?_⟩⟩⟩
  refine Gf p12 cl (na _ (by simp)) (aC rfl) (fs':=bu3 d l n s kk D (K9 sw ζ)) rfl λH14 b14 p14=>?_
  refine⟨_,_,_,_,p14,cl,(na _ (by simp)),rfl,(Cg (decide_eq_false hf) ?_)⟩
  have kk14:∀{ok},¬ ok p->(∀b,ok b->H b=none)->Kp ok H12 (λb=>b=p\/H b=none) H14:=λh g=>(Kp.but b14 h).trans (Kp.weak λb e=>.inr (g b e))
  have P14:=P12.mono (kk14 (λe=>nf e.1) λb e=>e.1)
  refine k H14 ((O12.but b14)) ⟨dx,d,l,n,s,kk,D,⟨.inl rfl,p14⟩,P14.sws,P14.tps,P14.nms,P14.sts,R12.mono (kk14 n8 (O8.fr p8)),⟨.inr fD,?_⟩⟩
  rw[b14 D nDp];exact B12
end
def ag7{a b:Bool}{A B:Prop}(hB:¬ (a=true/\b=true)->B)(hA:a=true->b=true->A):if a=true then(if b=true then A else B) else B:=by
 cases a with
 |false=>exact hB λz=>by cases z.1
 | true=>cases b with
  |false=>exact hB λz=>by cases z.2
  |true=>exact hA rfl rfl
def ay2{a b c:Bool}{A B:Prop}(hB:¬ (a=true/\b=true/\c=true)->B)(hA:a=true->b=true->c=true->A):if a=true then(if b=true then(if c=true then A else B) else B) else B:=by
 cases a with
 |false=>exact hB λz=>by cases z.1
 |true=>exact U4 (ag7 (λz=>hB λy=>z y.2) (hA rfl))
def NL(H H':Hp):Prop:=∀a o,(∀l,o≠.lst l)->H a=some o->H' a=some o
def NL.same{H H':Hp}(S:Same H H'):NL H H':=λa o _ e=>S a o e
theorem NL.tup{H H':Hp}(S:NL H H'):∀b ys,H b=some (.tup ys)->H' b=some (.tup ys):=λb ys=>S b _ λ_ z=>by cases z
theorem NL.upd{H:Hp}{D:Addr}{l m:List V}(h:H D=some (.lst l)):NL H (upd H D (.lst m)):=λa o n e=>by rw[Ad λz=>by rw[z,h] at e;cases e;exact n _ rfl];exact e
def G3{J:It}{χ:List V}{ok:Hp->Prop}{te:DE}{rest:St}{H:Hp}{R:Hp->Addr->Prop}{E:EK}{P:Nat->V->Hp->Prop}(up:∀i v H1 H2,NL H1 H2->P i v H1->P i v H2)(Y:C1 J χ ok)(hok:∀H1,Same H H1->ok H1)(hn:χ.length<=1000)(he:∀i x H1 Q1,χ[i]?=some x->Same H H1->(∀v H2,Same H1 H2->P i v H2->Q1 v H2)->te (some x::rest) H1 Q1 E)(k:∀D H' vs,Same H H'->H D=none->H' D=some (.lst vs)->vs.length=χ.length->(∀i v,vs[i]?=some v->P i v H')->R H' D) :
  ∀D,H D=none->Fc J (gdN 0) Bv te D (λH'=>R H' D) (none::rest) (upd H D (.lst [])) E:=by
 intro D hD
 refine Dg Y (λi σ H'=>(∃v,σ=v::rest)/\Same H H'/\∃vs,H' D=some (.lst vs)/\vs.length=i/\∀i v,vs[i]?=some v->P i v H') ⟨⟨_,rfl⟩,Same.upd hD,[],Aa,rfl,λi v h=>by simp at h⟩ (λ_ _ H' _ q=>hok H' q.2.1) ?_ ?_
 .rintro i x σ H1 hx ⟨⟨v,rfl⟩,S1,vs,eD,lv,hv⟩
  have hi:=Aj hx
  have big:=ce2
  refine he i x H1 _ hx S1 λv H2 S2 pv=>⟨vs,S2 _ _ eD,by omega,⟨_,rfl⟩,(S1.trans S2).set hD,vs++[v],Aa,by rw[aG,lv];rfl,λj u hj=>?_⟩
  have nl:=NL.upd (m:=vs++[v]) (S2 _ _ eD)
  by_cases hj2:j<vs.length
  .rw[bE hj2] at hj
   exact up _ _ _ _ nl (up _ _ _ _ (NL.same S2) (hv j u hj))
  .have hj3:=Aj hj
   rw[aG] at hj3
   have hj4:j=vs.length:=by have:j<vs.length+1:=hj3;omega
   subst hj4
   rw[bq (af _),gp] at hj
   cases hj
   rw[lv]
   exact up _ _ _ _ nl pv
 .rintro σ H1 ⟨_,S1,vs,eD,lv,hv⟩
  exact k D H1 vs S1 hD eD lv hv
def K0{J:It}{χ:List V}{ok:Hp->Prop}{te:DE}{rest:St}{H:Hp}{R:Hp->Addr->Prop}{E:EK}{f:Nat->V}(Y:C1 J χ ok)(hok:∀H1,Same H H1->ok H1)(hn:χ.length<=1000)(he:∀i x H1 Q1,χ[i]?=some x->Same H H1->(∀H2,Same H1 H2->Q1 (f i) H2)->te (some x::rest) H1 Q1 E)(k:∀D H',Same H H'->H D=none->H' D=some (.lst ((aV χ.length).map f))->R H' D) :
  ∀D,H D=none->Fc J (gdN 0) Bv te D (λH'=>R H' D) (none::rest) (upd H D (.lst [])) E:=
 G3 (P:=λi v _=>v=f i) (λ_ _ _ _ _ h=>h) Y hok hn (λi x H1 Q1 hx S q=>he i x H1 Q1 hx S λH2 S2=>q _ H2 S2 rfl) λD H' vs S hD eD lv hv=>k D H' S hD (by
  rw[eD]
  congr 2
  refine List.ext_getElem? λi=>?_
  rw[ao]
  by_cases hi:i<χ.length
  .rw[e_ hi,ak (by omega)]
   exact congrArg some (hv i _ (ak (by omega)))
  .rw[dq (by omega),dq (by rw[bg];omega)]
   rfl)
section
variable {P:a_}{w:bB}{K:ac}{mg:Str->Option am}{base:Heap}{t:Adr}
def bk5(Z:Am K t):OkD K af5 (Ax K t) bl (t.f 0) (t.d 0) (Ea K t):=by
 refine A0 (b60 K t) λvs H Q E h=>?_
 .obtain⟨a,ns,k,rfl,hS,q⟩:=h;refine⟨rfl,?_⟩
  refine .inl ⟨_,.inl hS,?_⟩
  refine Hh (λe=>?_) (λe=>?_)
  .have e:(k:Int)<((ns.map V.int).length:Int):=by simpa using e
   have hk:k<ns.length:=by rw[ae] at e;omega
   have:Ci ns k=ns[k]:=by unfold Ci;rw[az,ak hk];rfl
   rw[this] at q
   exact⟨_,_,.inl hS,B5 (by rw[ao,ak hk];rfl),q⟩
  .have e:¬ (k:Int)<((ns.map V.int).length:Int):=by simpa using e
   have hk:ns.length<=k:=by rw[ae] at e;omega
   have:Ci ns k=0:=by unfold Ci;rw[az,dq hk];rfl
   rw[this] at q
   exact q
def bl2(Z:Am K t):OkD K ag2 (Ax K t) bl (t.f 1) (t.d 1) (Bn K t):=by
 refine A0 (b67 K t) λvs H Q E h=>?_
 .obtain⟨c,k,rfl,hk,q⟩:=h;refine⟨rfl,?_⟩
  unfold Bz at q
  refine⟨.inl ⟨by decide,by decide⟩,by omega,by decide,ay2 (λhn=>?_) (λe1 e2 e3=>?_)⟩
  .rw[if_neg (λz=>hn ⟨decide_eq_true z.1,by simp[z.2.1],by simp[z.2.2]⟩)] at q
   have b1:0<=(c+7919*k)*48271%2147483647/\(c+7919*k)*48271%2147483647<2147483647:=⟨dm _ (by decide),cH _ (by decide)⟩
   refine⟨.inl ⟨by decide,by decide⟩,.inr ⟨by decide,by decide⟩,by decide,?_⟩
   dsimp only at q
   generalize (c+7919*k)*48271%2147483647=n at b1 q ⊢
   have b2:0<=n*n%2147483629/\n*n%2147483629<2147483629:=⟨dm _ (by decide),cH _ (by decide)⟩
   refine⟨.inl ⟨by omega,by omega⟩,by decide,?_⟩
   generalize n*n%2147483629=m at b2 q ⊢
   exact⟨.inl ⟨by omega,by omega⟩,by decide,⟨by decide,by decide⟩,q⟩
  .rw[if_pos ⟨of_decide_eq_true e1,by simpa using e2,by simpa using e3⟩] at q
   exact q
def Ew(l:List Nat):Txt.join (fM "") (l.map λk=>(⟨#[k]⟩:Str))=⟨l.toArray⟩:=by
 show Builtin.Str.glued (fM "") _=_
 rw[StrLaws.glued_eq_join,show fM ""=(⟨#[]⟩:Str) from by decide +kernel]
 exact PyProof.Rows.join_ones l
def Fs(l:List Nat):((l.map λk=>(⟨#[k]⟩:Str)).map (·.length)).sum+(l.map λk=>(⟨#[k]⟩:Str)).length*(fM "").length=l.length:=by
 rw[show(fM "").length=0 from by decide +kernel,Nat.mul_zero,Nat.add_zero]
 induction l with
 |nil=>rfl
 |cons a l ih=>rw[a7,a7,List.sum_cons,ih,aP,show(⟨#[a]⟩:Str).length=1 from rfl,Nat.add_comm]
def sgC(sg:Str)(x:Int):Nat:=sg.cps.toList.getD (x%(sg.length:Int)).toNat 0
def ar6{sg:Str}(x:Int)(h:1<=sg.length):atI sg.cps.toList (x%(sg.length:Int))=some (sgC sg x):=by
 have h0:=dm x (show(sg.length:Int)≠0 by omega)
 have h1:=cH x (show 0<(sg.length:Int) by omega)
 have e:x%(sg.length:Int)=(((x%(sg.length:Int)).toNat:Nat):Int):=by omega
 have hl:(x%(sg.length:Int)).toNat<sg.cps.toList.length:=by rw[Hw];omega
 unfold sgC
 rw[e,bb]
 exact B5 (by rw[az,ak hl];rfl)
def Yx{sg:Str}(x:Int)(h:1<=sg.length):sgC sg x∈sg.cps.toList:=by
 have h1:=cH x (show 0<(sg.length:Int) by omega)
 have hl:(x%(sg.length:Int)).toNat<sg.cps.toList.length:=by
  rw[Hw]
  have h0:=dm x (show(sg.length:Int)≠0 by omega)
  omega
 unfold sgC
 rw[az,ak hl]
 exact cS hl
def a53{sg:Str}{x:Int}{i j:Nat}(nd:sg.cps.toList.Nodup)(hi:i<sg.length)(hj:j<sg.length)(e:sgC sg (x+i)=sgC sg (x+j)):i=j:=by
 have hp:0<(sg.length:Int):=by omega
 have a0:=dm (x+i) (show(sg.length:Int)≠0 by omega)
 have a1:=cH (x+i) hp
 have b0:=dm (x+j) (show(sg.length:Int)≠0 by omega)
 have b1:=cH (x+j) hp
 unfold sgC at e
 have l1:((x+i)%(sg.length:Int)).toNat<sg.cps.toList.length:=by rw[Hw];omega
 have l2:((x+j)%(sg.length:Int)).toNat<sg.cps.toList.length:=by rw[Hw];omega
 rw[az,az,ak l1,ak l2] at e
 have e2:=(dN nd).mp (e)
 have e3:(x+i)%(sg.length:Int)=(x+j)%(sg.length:Int):=by omega
 have e4:=Int.emod_emod_of_dvd
 have d1:=jK (x+i) (sg.length:Int)
 have d2:=jK (x+j) (sg.length:Int)
 rw[e3] at d1
 generalize (x+i)/(sg.length:Int)=q1 at d1
 generalize (x+j)/(sg.length:Int)=q2 at d2
 have d3:(sg.length:Int)*q1-(sg.length:Int)*q2=(i:Int)-j:=by omega
 rw[<- Int.mul_sub] at d3
 have:q1-q2=0:=by
  by_cases z:q1-q2=0
  .exact z
  .exfalso
   have:1<=q1-q2\/q1-q2 <= -1:=by omega
   rcases this with z|z
   .have:=g6 z (Int.le_of_lt hp);omega
   .have:=g6 z (Int.le_of_lt hp);omega
 rw[this,Int.mul_zero] at d3
 omega
def wA(g:Nat->Nat)(lo k:Nat):Str:=⟨(((aV lo).map g).take (lo-k)).toArray⟩
def wB(g:Nat->Nat)(n:Nat):Str:=⟨((aV n).map g).toArray⟩
def W0(g:Nat->Nat)(lo k:Nat):(wA g lo k).length=lo-k:=by
 show(((aV lo).map g).take (lo-k)).toArray.size=_
 rw[ay,aF,ae,bg]
 omega
def Q8(g:Nat->Nat)(n:Nat):(wB g n).length=n:=by
 show((aV n).map g).toArray.size=_
 rw[ay,ae,bg]
def So{α:Type}{f:Nat->α}{m:Nat}(h:∀i j,i<m->j<m->f i=f j->i=j):((aV m).map f).Nodup:=by
 refine List.pairwise_iff_getElem.mpr λi j hi hj hij=>?_
 rw[ae,bg] at hi hj
 rw[dO,dO,kZ,kZ]
 intro e
 have:=h i j hi hj e
 omega
def Qc(g:Nat->Nat)(n:Nat):(aV n).map (λj=>V.str ⟨#[g j]⟩)=(((aV n).map g).map λc=>(⟨#[c]⟩:Str)).map V.str:=by rw[au,au];rfl
def bj8(Z:Am K t):OkD K ae9 (Ax K t) bl (t.f 2) (t.d 2) (Lu K t):=by
 refine A0 (b53 K t) λvs H Q E h=>?_
 .obtain⟨c,sg,lo,m,rfl,h1,h12,hm,s1,s100,nd,k⟩:=h;refine⟨rfl,?_⟩
  have big:=ce2
  refine⟨c,1,rfl,by decide,by decide,ag7 (λ_=>?_) (λ_ e2=>?_)⟩
  .have b1:1<=1+Bz c 20%(lo:Int)/\1+Bz c 20%(lo:Int)<=lo:=by
    have:=dm (Bz c 20) (show(lo:Int)≠0 by omega)
    have:=cH (Bz c 20) (show 0<(lo:Int) by omega)
    omega
   refine⟨c,20,rfl,by decide,by omega,c,21,rfl,by decide,by omega,by decide,λD hD=>⟨⟨by omega,by omega⟩,?_⟩⟩
   obtain⟨n,en⟩:∃n:Nat,1+Bz c 20%(lo:Int)=(n:Int):=⟨(1+Bz c 20%(lo:Int)).toNat,by omega⟩
   rw[en] at b1 ⊢
   have b2:0<=Bz c 21%(n:Int)/\Bz c 21%(n:Int)<n:=⟨dm _ (by omega),cH _ (by omega)⟩
   obtain⟨a,ea⟩:∃a:Nat,Bz c 21%(n:Int)=(a:Int):=⟨(Bz c 21%(n:Int)).toNat,by omega⟩
   rw[ea] at b2 ⊢
   let gB:Nat->Nat->Nat:=λi j=>sgC sg (Bz c (22+(j:Int))+(i:Int)*(if decide ((j:Int)=(a:Int))=true then 1 else 0))
   rw[bb]
   refine A5 (B3 0 m) (λi σ H'=>(∃v5 v9,σ=[some (.int c),some (.str sg),some (.int (lo:Int)),some (.int (m:Int)),none,v5,some (.int (n:Int)),some (.int (a:Int)),some (.ref D),v9])/\Same H H'/\H' D=some (Ay ((aV i).map λi=>wB (gB i) n))) ⟨⟨_,_,rfl⟩,Same.upd hD,Aa⟩ (λ_ _ _ _ _=>aZ) ?_ ?_
   .rintro i x σ H2 hx ⟨⟨v5,v9,rfl⟩,S2,eL⟩
    obtain⟨hi,rfl⟩:=Di hx
    refine⟨⟨by omega,by omega⟩,?_⟩
    rw[bb]
    refine K0 (f:=λj=>.int (Bz c (22+(j:Int))+(i:Int)*(if decide ((j:Int)=(a:Int))=true then 1 else 0))) (B3 0 n) (λ_ _=>aZ) (by rw[Bc];omega) (λj x H3 Q1 hj _ q=>?_) λD1 H3 S3 hD1 eD1=>?_
    .obtain⟨hj,rfl⟩:=Di hj
     exact⟨c,22+(j:Int),rfl,by omega,.inl ⟨by omega,by omega⟩,q _ (Same.refl _)⟩
    .rw[Bc] at eD1
     refine⟨.inl ⟨rfl,_,SqL.of (S3 _ _ eL)⟩,rfl,.inl ⟨⟨_,SqL.of eD1⟩,?_⟩⟩
     refine K0 (f:=λj=>.str ⟨#[gB i j]⟩) (Az _) (λH4 S4=>S4.seqL (SqL.of eD1)) (by rw[ae,bg];omega) (λj x H4 Q1 hj _ q=>?_) λD2 H4 S4 hD2 eD2=>?_
     .obtain⟨j',hj',rfl⟩:=Ak hj
      obtain rfl:j'=j:=by
       have:=Aj hj'
       rw[bg] at this
       rw[e_ this] at hj'
       exact(aJ hj').symm
      exact⟨by omega,by omega,by omega,_,ar6 _ s1,q _ (Same.refl _)⟩
     .rw[ae,bg,Qc] at eD2
      have S34:=S3.trans S4
      refine⟨_,D2,_,rfl,rfl,.inl (SqL.of eD2),?_,?_⟩
      .rw[Fs,ae,bg];omega
      rw[Ew]
      refine⟨D,_,_,rfl,rfl,S34 _ _ eL,?_,⟨_,_,rfl⟩,(S2.trans S34).set hD,?_⟩
      .rw[ae,ae,bg]
       omega
      .rw[Aa,Ay,jN,aw,aw]
       rfl
   .rintro σ H2 ⟨⟨v5,v9,rfl⟩,S2,eL⟩
    rw[Bc] at eL
    refine .inl (k H2 D _ S2 hD eL (by simp) ⟨So λi j hi hj e=>?_,λz hz=>?_⟩)
    .have h:(aV n).map (gB i)=(aV n).map (gB j):=congrArg (λz:Str=>z.cps.toList) e
     have h2:=congrArg (λl:List Nat=>l[a]?) h
     have ha:a<n:=by omega
     simp only[ao,e_ ha,cB,gW] at h2
     have h3:sgC sg (Bz c (22+(a:Int))+(i:Int))=sgC sg (Bz c (22+(a:Int))+(j:Int)):=by
      have e1:∀x:Nat,gB x a=sgC sg (Bz c (22+(a:Int))+(x:Int)):=λx=>by
       show sgC sg (_+(x:Int)*(if decide ((a:Int)=(a:Int))=true then 1 else 0))=_
       rw[decide_eq_true rfl,if_pos rfl,Int.mul_one]
      rw[<- e1,<- e1];exact h2
     exact a53 nd (by omega) (by omega) h3
    .obtain⟨i,_,rfl⟩:=List.mem_map.mp hz
     rw[Q8]
     refine⟨by omega,by omega,λx hx=>?_⟩
     have hx:=hx
     obtain⟨j,_,rfl⟩:=List.mem_map.mp hx
     exact Yx _ s1
  .have e2:m<=lo:=by
    have e2:=of_decide_eq_true e2
    omega
   let gA:Nat->Nat:=λj=>sgC sg (Bz c (2+(j:Int)))
   refine⟨rfl,⟨by omega,by omega⟩,?_⟩
   show ∀D,H D=none->Fc (Itr 0 ((lo:Int)).toNat) _ _ _ D _ _ _ _
   rw[bb]
   refine K0 (f:=λj=>.str ⟨#[gA j]⟩) (rest:=[some (.int c),some (.str sg)]) (B3 0 lo) (λ_ _=>aZ) (by rw[Bc];omega) (λj x H2 Q1 hj _ q=>?_) λD H2 S2 hD eD=>?_
   .obtain⟨hj,rfl⟩:=Di hj
    exact⟨c,2+(j:Int),rfl,by omega,by omega,by omega,by omega,_,ar6 _ s1,q _ (Same.refl _)⟩
   .rw[Bc,Qc] at eD
    refine⟨_,D,_,rfl,rfl,.inl (SqL.of eD),?_,?_⟩
    .rw[Fs,ae,bg];omega
    rw[Ew]
    refine⟨⟨by omega,by omega⟩,?_⟩
    show ∀D,H2 D=none->Fc (Itr 0 ((m:Int)).toNat) _ _ _ D _ _ _ _
    rw[bb]
    refine K0 (f:=λk=>.str (wA gA lo k)) (rest:=[some (.int (lo:Int)),some (.str ⟨((aV lo).map gA).toArray⟩)]) (B3 0 m) (λ_ _=>aZ) (by rw[Bc];omega) (λj x H3 Q1 hj _ q=>?_) λD3 H3 S3 hD3 eD3=>?_
    .obtain⟨hj,rfl⟩:=Di hj
     have es:Txt.slice ⟨((aV lo).map gA).toArray⟩ none (some ((lo:Int)-(j:Int)))=wA gA lo j:=by
      have hl:((⟨((aV lo).map gA).toArray⟩:Str).length:Int)=lo:=by
       have:=Q8 gA lo
       unfold wB at this
       rw[this]
      have e:=cK (PyProof.Rows.slice_closes_to (x:=⟨((aV lo).map gA).toArray⟩) (j:=(lo:Int)-(j:Int)) ⟨by omega,by rw[Hw,hl];omega⟩)
      rw[e,Int.sub_zero,show((lo:Int)-(j:Int)).toNat=lo-j by omega]
      unfold wA
      simp
     refine⟨?_,?_⟩
     .have:=Q8 gA lo
      unfold wB at this
      rw[this]
      omega
     .rw[es];exact q _ (Same.refl _)
    .rw[Bc] at eD3
     refine k H3 D3 ((aV m).map (wA gA lo)) (S2.trans S3) (S2.free hD3) (by rw[eD3,Ay,au];rfl) (by simp) ⟨So λi j hi hj e=>?_,λz hz=>?_⟩
     .have h:=congrArg Str.length e
      rw[W0,W0] at h
      omega
     .obtain⟨i,hi,rfl⟩:=List.mem_map.mp hz
      have hi:=List.mem_range.mp hi
      rw[W0]
      refine⟨by omega,by omega,λx hx=>?_⟩
      have hx:x∈((aV lo).map gA).take (lo-i):=hx
      obtain⟨j,_,rfl⟩:=List.mem_map.mp (f6 hx)
      exact Yx _ s1
def bj5(Z:Am K t):OkD K ae6 (Ax K t) bl (t.f 12) (t.d 12) (Wh K t):=by
 refine A0 (b50 K t) λvs H Q E h=>?_
 .obtain⟨c,m,rfl,hm,k⟩:=h;refine⟨rfl,?_⟩
  have l37:(fM "abcdefghijklmnopqrstuvwxyz0123456789.").length=37:=by decide +kernel
  exact⟨c,_,12,m,rfl,by decide,by decide,by rw[l37];omega,by rw[l37];decide,by rw[l37];decide,by decide +kernel,λH' l ws S _ e hl hw=>k H' l ws S e hl hw.1 λz h=>⟨(hw.2 z h).2.1,λe=>by have:=(hw.2 z h).1;rw[e] at this;exact absurd this (by decide)⟩⟩
def K6{xs:List V}{i:Nat}{x y:V}(h:(Ej 0 xs)[i]?=some (x,y)):x=.int (i:Int)/\xs[i]?=some y:=by
 have hi:=Aj h
 rw[Bs] at hi
 have:=C5 (k:=0) (ak hi)
 rw[h] at this
 injection this with e
 injection e with e1 e2
 rw[du] at e1
 exact⟨e1,by rw[e2,ak hi]⟩
structure SwL (H':Hp) (ls:Addr) (ds:List (((Str×List Str)×Addr)×Addr)):Prop where
 at_:H' ls=some (.lst (ds.map λx=>.ref x.2))
 tup:∀x∈ds,H' x.2=some (.tup [.str x.1.1.1,.ref x.1.2])
 lst:∀x∈ds,H' x.1.2=some (Ay x.1.1.2)/\x.1.2≠ls
def SwL.up{H1 H2:Hp}{ls:Addr}{ds:List (((Str×List Str)×Addr)×Addr)}(h:SwL H1 ls ds)(S:Same H1 H2):SwL H2 ls ds:=⟨S _ _ h.at_,λx hx=>S _ _ (h.tup x hx),λx hx=>⟨S _ _ (h.lst x hx).1,(h.lst x hx).2⟩⟩
def SwL.snoc{H1:Hp}{ls:Addr}{ds:List (((Str×List Str)×Addr)×Addr)}(h:SwL H1 ls ds){e:Str×List Str}{la ta:Addr}(ht:H1 ta=some (.tup [.str e.1,.ref la]))(hl:H1 la=some (Ay e.2))(nl:la≠ls) :
  SwL (upd H1 ls (.lst ((ds.map λx=>V.ref x.2)++[.ref ta]))) ls (ds++[((e,la),ta)]):=by
 have nt:∀{a} {xs},H1 a=some (.tup xs)->a≠ls:=λq z=>by rw[z,h.at_] at q;cases q
 refine⟨by rw[Aa,aw];rfl,λx hx=>?_,λx hx=>?_⟩
 .rcases List.mem_append.mp hx with hx|hx
  .rw[Ad (nt (h.tup x hx))];exact h.tup x hx
  .obtain rfl:x=((e,la),ta):=by simpa using hx
   rw[Ad (nt ht)];exact ht
 .rcases List.mem_append.mp hx with hx|hx
  .rw[Ad (h.lst x hx).2];exact h.lst x hx
  .obtain rfl:x=((e,la),ta):=by simpa using hx
   rw[Ad nl];exact⟨hl,nl⟩
def Lq(sw:Sw)(e:Str×List Str):Cp (sw++[e])=Cp sw*e.2.length:=by unfold Cp;rw[fQ];rfl
abbrev lettersS:Str := "abcdefghijklmnopqrstuvwxyz"
def an3{z:Str}(h:1<=z.length/\z.length<=8/\∀c∈z.cps.toList,c∈lettersS.cps.toList):okW z:=⟨h.1,h.2.1,by
 rw[bh]
 intro c hc
 have:=h.2.2 c hc
 rw[show lettersS.cps.toList=(aV 26).map (97 + ·) by decide +kernel] at this
 obtain⟨i,hi,rfl⟩:=List.mem_map.mp this
 have:=List.mem_range.mp hi
 unfold Kj
 simp
 omega⟩
def by7(Z:Am K t):OkD K bb7 (Ax K t) bl (t.f 3) (t.d 3) (au4 K t):=by
 refine A0 (cd6 K t) λvs H Q E h=>?_
 .obtain⟨c,m,rfl,hm,hm2,k⟩:=h;refine⟨rfl,?_⟩
  have l26:lettersS.length=26:=by decide +kernel
  have nd26:lettersS.cps.toList.Nodup:=by decide +kernel
  refine⟨c,lettersS,8,5,rfl,by decide,by decide,by rw[l26];decide,by rw[l26];decide,by rw[l26];decide,nd26,λH1 lw ws S1 _ elw lws okw=>⟨by decide,λls hls=>?_⟩⟩
  have fls:=S1.free hls
  have nwl:=Ai elw hls
  have S2:=S1.trans (Same.upd (o:=.lst []) hls)
  have elw2:upd H1 ls (.lst []) lw=some (Ay ws):=by rw[Ad nwl];exact elw
  have L2:SwL (upd H1 ls (.lst [])) ls []:=⟨Aa,λx hx=>(by cases hx),λx hx=>(by cases hx)⟩
  generalize upd H1 ls (.lst [])=H2 at S2 elw2 L2 ⊢
  refine⟨c,40,rfl,by decide,by decide,⟨by omega,by omega⟩,?_⟩
  have hN:1<=(1+Bz c 40%5).toNat/\(1+Bz c 40%5).toNat<=5:=by omega
  refine A5 (B3 0 (1+Bz c 40%5).toNat) (λi σ H'=>∃ds,(∃v6 v7,σ=[some (.int c),some (.int (m:Int)),some (.str lettersS),some (.ref lw),some (.ref ls),some (.int (Cp (ds.map (·.1.1)):Nat)),v6,v7])/\Same H H'/\H' lw=some (Ay ws)/\SwL H' ls ds /\
    (ds.map (·.1.1.1)).Sublist (ws.take i)/\(∀x∈ds,Ga x.1.1.2)/\Cp (ds.map (·.1.1))<=m/\(i=0->ds=[])/\(1<=i->ds≠[]))
   ⟨[],⟨_,_,rfl⟩,S2,elw2,L2,d_ _,λx hx=>(by cases hx),(show 1<=m by omega),λ_=>rfl,λh=>(by omega)⟩ (λ_ _ _ _ _=>aZ) ?_ ?_
  .rintro i x σ H5 hx ⟨ds,⟨v6,v7,rfl⟩,S45,elw5,L5,sub,oks,pm,z0,z1⟩
   obtain⟨hi,rfl⟩:=Di hx
   have hs:2<=2+Bz c (41+(i:Int))%3/\2+Bz c (41+(i:Int))%3<=4:=by omega
   obtain⟨sz,esz⟩:∃sz:Nat,2+Bz c (41+(i:Int))%3=(sz:Int):=⟨(2+Bz c (41+(i:Int))%3).toNat,by omega⟩
   refine⟨c,41+(i:Int),rfl,by omega,by decide,?_⟩
   refine⟨.inr ⟨by omega,by omega⟩,Hh (λe=>⟨.inr ⟨by omega,by omega⟩,?_⟩) (λe=>?_)⟩
   .have e:=of_decide_eq_true e
    have hiw:i<ws.length:=by omega
    refine⟨.inl ⟨rfl,_,SqL.of L5.at_⟩,_,_,.inl (SqL.of elw5),B5 (by rw[ao,ak hiw];rfl),?_⟩
    refine⟨c+1+(i:Int),lettersS,8,sz,by rw[<- esz];rfl,by decide,by decide,by rw[l26];omega,by rw[l26];decide,by rw[l26];decide,nd26,λH6 la ss S6 fla ela lss okss=>⟨cd9,λta hta=>?_⟩⟩
    have nla:=(Ai L5.at_ fla).symm
    have ST:=Same.upd (o:=.tup [.str ws[i],.ref la]) hta
    have et:upd H6 ta (.tup [.str ws[i],.ref la]) ta=some (.tup [.str ws[i],.ref la]):=Aa
    generalize upd H6 ta (.tup [.str ws[i],.ref la])=H7 at ST et ⊢
    have L7:=L5.up (S6.trans ST)
    have lds:ds.length<=5:=by
     have:=sub.length_le
     rw[ae,aF] at this
     omega
    refine⟨ls,_,_,rfl,rfl,L7.at_,?_,?_⟩
    .rw[ae];exact be lds (by decide)
    have pe:((Cp ((ds++[(((ws[i],ss),la),ta)]).map (·.1.1)):Nat):Int)=(Cp (ds.map (·.1.1)):Nat)*(2+Bz c (41+(i:Int))%3):=by
     rw[aw,show [(((ws[i],ss),la),ta)].map (λx:((Str×List Str)×Addr)×Addr=>x.1.1)=[(ws[i],ss)] from rfl,Lq,jL,lss,esz]
    refine⟨ds++[(((ws[i],ss),la),ta)],⟨_,_,congrArg (λz=>[some (V.int c),some (V.int (m:Int)),some (V.str lettersS),some (V.ref lw),some (V.ref ls),some (V.int z),some (V.int (i:Int)),some (V.int (2+Bz c (41+(i:Int))%3))]) pe.symm⟩,(S45.trans (S6.trans ST)).set fls,?_,L7.snoc et (ST _ _ ela) nla,?_,?_,by omega,λh=>(by omega),λ_ h=>by simp at h⟩
    .rw[Ad nwl];exact(S6.trans ST) _ _ elw5
    .rw[aw,aN,ak hiw]
     exact sub.append (d_ _)
    .intro x hx
     rcases List.mem_append.mp hx with hx|hx
     .exact oks x hx
     .obtain rfl:x=(((ws[i],ss),la),ta):=by simpa using hx
      exact⟨⟨λz hz=>an3 (okss.2 z hz),okss.1,by rw[lss];omega⟩,by rw[lss];omega,by rw[lss];omega⟩
   .have e:¬ ((Cp (ds.map (·.1.1)):Nat):Int)*(2+Bz c (41+(i:Int))%3)<=m:=of_decide_eq_false (by simpa using e)
    have hi0:i≠0:=λz=>e (by
     rw[z0 z]
     show((1:Nat):Int)*_<=_
     omega)
    exact⟨ds,⟨_,_,rfl⟩,S45,elw5,L5,sub.trans (dG (by omega)),oks,pm,λh=>(by omega),λ_=>z1 (by omega)⟩
  .rintro σ H4 ⟨ds,⟨v5,v6,rfl⟩,S4,elw4,L4,sub,oks,pm,z0,z1⟩
   rw[Bc] at sub z0 z1
   have sub2:=sub.trans (eh _ ws)
   have hl:=sub2.length_le
   rw[ae] at hl
   have e1:(ds.map (·.1.1)).map (·.1)=ds.map (·.1.1.1):=by rw[au];rfl
   refine .inl (k H4 ls (ds.map (·.1.1)) S4 ⟨ds,rfl,⟨trivial,L4.at_⟩,λx hx=>⟨⟨trivial,L4.tup x hx⟩,trivial,(L4.lst x hx).1⟩⟩ ⟨?_,?_,?_,?_,?_⟩)
   .rw[ae]
    exact List.length_pos_iff.mpr (z1 hN.1)
   .rw[ae];omega
   .rw[e1];exact okw.1.sublist sub2
   .intro y hy
    obtain⟨x,hx,rfl⟩:=List.mem_map.mp hy
    exact⟨an3 (okw.2 _ (sub2.subset (List.mem_map.mpr ⟨x,hx,rfl⟩))),oks x hx⟩
   .omega
def bj9(Z:Am K t):OkD K af0 (Ax K t) bl (t.f 4) (t.d 4) (Qg K t):=by
 refine A0 (b54 K t) λvs H Q E h=>?_
 .obtain⟨l,sw,rfl,⟨ds,ed,⟨_,ol⟩,hd⟩,hw,k⟩:=h;refine⟨rfl,?_⟩
  have len:ds.length=sw.length:=by rw[<- ed];simp
  refine .inl ⟨⟨_,SqL.of ol⟩,?_⟩
  refine A5 (Az (ds.map λx=>V.ref x.2)) (λi σ H'=>(∃v2 v3,σ=[some (.ref l),some (.int (Cp (sw.take i):Nat)),v2,v3])/\H'=H) ⟨⟨_,_,rfl⟩,rfl⟩ (λ_ _ H' _ q=>q.2▸SqL.of ol) ?_ ?_
  .rintro i x σ H' hx ⟨⟨v2,v3,rfl⟩,rfl⟩
   obtain⟨⟨⟨x',la⟩,ta⟩,hi,rfl⟩:=Ak hx
   have hi2:sw[i]?=some x':=by rw[<- ed,ao,hi];rfl
   obtain⟨⟨_,h1⟩,_,h2⟩:=hd _ (ah hi)
   have h2:H' la=some (Ay x'.2):=h2
   have o4:=(hw.sets x' (ah hi2)).2.2
   refine⟨_,.inl (SqT.of h1),rfl,.inl ⟨_,.inl (SqL.of h2),?_⟩⟩
   have e:((Cp (sw.take (i+1)):Nat):Int)=(Cp (sw.take i):Nat)*((x'.2.map V.str).length:Nat):=by
    rw[aN,hi2,dz,Lq,jL,ae]
   exact⟨.inr ⟨by rw[ae];omega,by rw[ae];omega⟩,⟨_,_,congrArg (λz=>[some (V.ref l),some (V.int z),some (V.str x'.1),some (V.ref la)]) e.symm⟩,rfl⟩
  .rintro σ H' ⟨⟨v2,v3,rfl⟩,rfl⟩
   rw[ae,len,aI]
   rw[Hs] at k
   exact .inl k
def Ra{a:Addr}(xs:List V):C1 (Oo K a xs.length) xs.reverse (λH=>SqL K H a xs):=by
 refine⟨λi H q h=>⟨by rw[aS] at h;exact h,xs,q,rfl⟩,λH q=>by show xs.length<=xs.reverse.length;rw[aS];exact af _,λi H x H' q hi h=>?_⟩
 obtain⟨h1,h2⟩:=h
 rw[aS] at hi
 refine⟨h1,?_⟩
 rw[List.getElem?_reverse hi]
 exact h2 xs q
def Lh:List Nat->Nat->Nat
 |[],n=>n
 |s::r,n=>Lh r (n/s)
theorem N7:∀l s n,Lh (l++[s]) n=Lh l n/s
 |[],_,_=>rfl
 |a::l,s,n=>N7 l s (n/a)
theorem Rw:∀l s n,Mr (l++[s]) n=(Lh l n%s)::Mr l n
 |[],_,_=>rfl
 | a::l,s,n=>by
  show Mr (l++[s]) (n/a)++[n%a]=_
  rw[Rw l s (n/a)]
  rfl
def bi6(Z:Am K t):OkD K ae1 (Ax K t) bl (t.f 6) (t.d 6) (Qe K t):=by
 refine A0 (b41 K t) λvs H Q E h=>?_
 .obtain⟨l,n,sw,rfl,⟨ds,ed,⟨_,ol⟩,hd⟩,hw,k⟩:=h;refine⟨rfl,?_⟩
  refine⟨My,λD hD=>?_⟩
  have S0:=Same.upd (o:=.lst []) hD
  have e0:upd H D (.lst []) D=some (nO []):=Aa
  generalize upd H D (.lst [])=H0 at S0 e0 ⊢
  refine⟨_,SqL.of (S0 _ _ ol),?_⟩
  have big:=ce2
  have rv:(ds.map λx=>V.ref x.2).reverse=(ds.reverse).map λx=>V.ref x.2:=List.map_reverse.symm
  have es:(ds.reverse.map λx=>x.1.1.2.length)=(sw.map (·.2.length)).reverse:=by rw[<- ed,au,bZ];rfl
  have ld:ds.reverse.length<=5:=by
   have:=hw.2.1
   rw[<- ed,ae] at this
   rw[aS];exact this
  refine A5 (Ra (ds.map λx=>V.ref x.2)) (λi σ H'=>(∃v3 v4,σ=[some (.ref l),some (.int (Lh ((ds.reverse.take i).map λx=>x.1.1.2.length) n:Nat)),some (.ref D),v3,v4])/\Same H H'/\H' D=some (nO (Mr ((ds.reverse.take i).map λx=>x.1.1.2.length) n)))
   ⟨⟨_,_,rfl⟩,S0,e0⟩ (λ_ _ H' _ q=>q.2.1.seqL (SqL.of ol)) ?_ ?_
  .rintro i x σ H1 hx ⟨⟨v3,v4,rfl⟩,S1,e1⟩
   rw[rv] at hx
   obtain⟨⟨⟨x',la⟩,ta⟩,hi,rfl⟩:=Ak hx
   have hm:=List.mem_reverse.mp (ah hi)
   have o2:=(hw.sets x' (by rw[<- ed];exact List.mem_map.mpr ⟨_,hm,rfl⟩)).2
   obtain⟨⟨_,h1⟩,_,h2⟩:=hd _ hm
   have h2:H la=some (Ay x'.2):=h2
   have tk:=Cc hi λx=>x.1.1.2.length
   have li:=Aj hi
   refine⟨_,.inl (SqT.of (S1 _ _ h1)),rfl,.inl ⟨rfl,_,SqL.of e1⟩,.inl ⟨_,.inl (SqL.of (S1 _ _ h2)),?_⟩⟩
   have cl:(((x'.2.map V.str).length:Nat):Int)=(x'.2.length:Int):=by rw[ae]
   have md:∀a:Nat,(a:Int)%(x'.2.length:Int)=((a%x'.2.length:Nat):Int):=λa=>(Int.natCast_emod a _).symm
   have el:((Lh ((ds.reverse.take (i+1)).map λx=>x.1.1.2.length) n:Nat):Int)=(Lh ((ds.reverse.take i).map λx=>x.1.1.2.length) n:Nat)/(((x'.2.map V.str).length:Nat):Int):=by
    rw[tk,N7,cl];exact Int.natCast_ediv _ _
   refine⟨by omega,D,_,_,0,rfl,rfl,e1,bw _,?_,.inl ⟨_,.inl (SqL.of ((S1.set hD) _ _ h2)),⟨by omega,by omega⟩,⟨_,_,congrArg (λz=>[some (V.ref l),some (V.int z),some (V.ref D),some (V.str x'.1),some (V.ref la)]) el.symm⟩,S1.set hD,?_⟩⟩
   .rw[ae,Ei,ae,aF];omega
   .rw[Aa,nO,tk,Rw,cl,md]
    rfl
  .rintro σ H1 ⟨⟨v3,v4,rfl⟩,S1,e1⟩
   rw[aS,ae,<- aS,aI,es] at e1
   exact .inl (k H1 D S1 e1)
def bd7{sw:Sw}{x e:Str×List Str}(hw:okSw sw)(hx:x∈sw)(h:e.1=x.1/\e.2≠[]/\e.2.Sublist x.2):Iw sw e:=by
 have ox:=hw.sets x hx
 refine⟨h.2.1,⟨λz hz=>ox.1.1 z (h.2.2.subset hz),ox.1.2.1.sublist h.2.2,?_⟩,x,hx,h.1.symm,λz hz=>h.2.2.subset hz⟩
 have:=h.2.2.length_le
 have:=ox.2.2
 omega
def bj7(Z:Am K t):OkD K ae8 (Ax K t) bl (t.f 5) (t.d 5) (Wi K t):=by
 refine A0 (b52 K t) λvs H Q E h=>?_
 .obtain⟨c,l,sw,rfl,⟨ds,ed,⟨_,ol⟩,hd⟩,hw,k⟩:=h;refine⟨rfl,?_⟩
  have len:ds.length=sw.length:=by rw[<- ed];simp
  have l5:=hw.2.1
  have big:=ce2
  refine⟨My,λkk hkk=>?_⟩
  have S0:=Same.upd (o:=.lst []) hkk
  have ek0:upd H kk (.lst []) kk=some (.lst []):=Aa
  generalize upd H kk (.lst [])=H0 at S0 ek0 ⊢
  refine⟨c,60,rfl,by decide,by decide,⟨by omega,by omega⟩,?_⟩
  refine A5 (B3 0 (Bz c 60%4).toNat) (λi σ H'=>∃gs:List (Sw×Addr),(∃v3 v4 v5 v6 v7 v8 v9,σ=[some (.int c),some (.ref l),some (.ref kk),v3,v4,v5,v6,v7,v8,v9])/\Same H H'/\H' kk=some (.lst (gs.map λx=>.ref x.2))/\(∀x∈gs,RuleAt (· ≠ kk) H' x.2 x.1)/\(∀r∈gs.map (·.1),E3 sw r)/\gs.length<=i)
   ⟨[],⟨_,_,_,_,_,_,_,rfl⟩,S0,ek0,(λx hx=>by cases hx),(λx hx=>by cases hx),af _⟩ (λ_ _ _ _ _=>aZ) ?_ ?_
  .rintro i x σ H1 hx ⟨gs,⟨v3,v4,v5,v6,v7,v8,v9,rfl⟩,S1,ek,hg,okg,gl⟩
   obtain⟨hi,rfl⟩:=Di hx
   intro d hd0
   refine .inl (.inl ⟨⟨_,(S1.trans (Same.upd hd0)).seqL (SqL.of ol)⟩,?_⟩)
   have Sd:=Same.upd (o:=.dK []) hd0
   have e0:upd H1 d (.dK []) d=some (.dK (([]:List ((Str×List Str)×Addr)).map kR)):=Aa
   have ndk:=(Ai ek hd0).symm
   generalize upd H1 d (.dK [])=H2 at Sd e0 ⊢
   refine Kd (E8 (ds.map λx=>V.ref x.2)) (λj σ H'=>(∃v5 v6 v7 v8 v9,σ=[some (.int c),some (.ref l),some (.ref kk),some (.int (i:Int)),some (.ref d),v5,v6,v7,v8,v9])/\Same H1 H'/\∃es:List ((Str×List Str)×Addr),H' d=some (.dK (es.map kR))/\(∀e∈es,H1 e.2=none/\e.2≠d/\H' e.2=some (Ay e.1.2))/\((es.map (·.1)).map (·.1)).Sublist ((sw.take j).map (·.1))/\∀e∈es,Iw sw e.1)
    ⟨⟨_,_,_,_,_,rfl⟩,Sd,[],e0,(λe he=>by cases he),d_ _,(λe he=>by cases he)⟩ (λ_ _ H' _ q=>(S1.trans q.2.1).seqL (SqL.of ol)) ?_ ?_
   .rintro j x y T σ H3 hx3 hT ⟨⟨v5,v6,v7,v8,v9,rfl⟩,S3,es,ed3,he,sub,oke⟩
    obtain⟨⟨⟨x',la⟩,ta⟩,hj,rfl,rfl⟩:=Pb hx3
    have hj2:sw[j]?=some x':=by rw[<- ed,ao,hj];rfl
    have jl:=Aj hj2
    obtain⟨⟨_,h1⟩,_,h2⟩:=hd _ (ah hj)
    have h2:=h2
    have o4:=(hw.sets x' (ah hj2)).2.2
    have ST:=Same.upd (o:=.tup [.int (j:Int),.ref ta]) hT
    refine⟨_,.inl (SqT.of Aa),rfl,?_⟩
    generalize upd H3 T (.tup [.int (j:Int),.ref ta])=H4 at ST ⊢
    have S14:=S3.trans ST
    have S04:=S1.trans S14
    refine⟨_,.inl (SqT.of (S04 _ _ h1)),rfl,⟨.inl ⟨by decide,by decide⟩,c,61+8*(i:Int)+(j:Int),rfl,by omega,?_⟩⟩
    refine .inl ⟨⟨_,SqL.of (S04 _ _ h2)⟩,λD hD=>?_⟩
    refine G1 (E8 (x'.2.map V.str)) (λm σ H'=>(∃v0 v1,σ=[v0,v1,some (.int (Bz c (61+8*(i:Int)+(j:Int))))])/\Same H4 H'/\∃ss,H' D=some (Ay ss)/\ss.Sublist (x'.2.take m)) ⟨⟨_,_,rfl⟩,Same.upd hD,[],Aa,List.nil_sublist _⟩ (λm σ H' _ q=>(S04.trans q.2.1).seqL (SqL.of h2)) ?_ ?_
    .rintro m u y T2 σ H5 hx5 hT2 ⟨⟨v0,v1,rfl⟩,S5,ss,eD,sb⟩
     obtain⟨rfl,hy⟩:=K6 hx5
     obtain⟨z,hz,rfl⟩:=Ak hy
     have ST2:=Same.upd (o:=.tup [.int (m:Int),.str z]) hT2
     refine⟨_,.inl (SqT.of Aa),rfl,by omega,?_⟩
     have pl:ss.length<=4:=by
      have:=sb.length_le
      rw[aF] at this
      omega
     refine Hh (λ_=>?_) (λ_=>?_)
     .refine⟨_,ST2 _ _ eD,by rw[ae];omega,⟨_,_,rfl⟩,(S5.trans ST2).set hD,ss++[z],by rw[Aa,Ay,aw];rfl,?_⟩
      rw[aN,hz]
      exact sb.append (d_ _)
     .exact⟨⟨_,_,rfl⟩,S5.trans ST2,ss,ST2 _ _ eD,sb.trans (dG (by omega))⟩
    .rintro σ H5 ⟨_,S5,ss,eD,sb⟩
     have sb2:ss.Sublist x'.2:=sb.trans (eh _ _)
     have S15:=S14.trans S5
     refine⟨My,λq hq=>.inl ⟨D,q,_,_,rfl,rfl,SqL.of ((Same.upd hq) _ _ eD),SqL.of Aa,C6 _,rfl,?_⟩⟩
     have Sq:=Same.upd (o:=.lst []) hq
     generalize upd H5 q (.lst [])=H6 at Sq ⊢
     have S16:=S15.trans Sq
     have stay:(∃v5 v6 v7 v8 v9,[some (V.int c),some (.ref l),some (.ref kk),some (.int (i:Int)),some (.ref d),some (.int (j:Int)),some (.str x'.1),some (.ref la),some (.int (Bz c (61+8*(i:Int)+(j:Int)))),some (.ref D)]=[some (V.int c),some (.ref l),some (.ref kk),some (.int (i:Int)),some (.ref d),v5,v6,v7,v8,v9])/\Same H1 H6/\∃es:List ((Str×List Str)×Addr),H6 d=some (.dK (es.map kR))/\(∀e∈es,H1 e.2=none/\e.2≠d/\H6 e.2=some (Ay e.1.2))/\((es.map (·.1)).map (·.1)).Sublist ((sw.take (j+1)).map (·.1))/\∀e∈es,Iw sw e.1:=
      ⟨⟨_,_,_,_,_,rfl⟩,S16,es,(ST.trans (S5.trans Sq)) _ _ ed3,λe h=>⟨(he e h).1,(he e h).2.1,(ST.trans (S5.trans Sq)) _ _ (he e h).2.2⟩,sub.trans ((dG (by omega)).map _),oke⟩
     by_cases hp:ss=[]
     .subst hp
      exact stay
     .refine F9 (by rw[Dy (by rw[ae];intro z;exact hp (List.length_eq_zero_iff.mp z))];rfl) ?_
      refine⟨⟨by decide,by decide⟩,by decide,Hh (λ_=>?_) (λ_=>stay)⟩
      have nk:Bg (es.map kR) (.inr x'.1)=none:=by
       refine Cq λq=>?_
       rw[Ki] at q
       obtain⟨y,hy,e⟩:=List.mem_map.mp q
       cases e
       have hm:=sub.subset hy
       rw[gC] at hm
       exact Eb hw.2.2.1 (show(sw.map (·.1))[j]?=some x'.1 by rw[ao,hj2];rfl) hm
      have el:es.length<=5:=by
       have:=sub.length_le
       rw[ae,ae,ae,aF] at this
       omega
      have e6D:=Sq _ _ eD
      have e6d:=(ST.trans (S5.trans Sq)) _ _ ed3
      have ndD:D≠d:=λz=>by rw[z,e6d] at e6D;cases e6D
      refine⟨_,DPut.k (k:=.inr x'.1) e6d (by rw[ae];omega),?_⟩
      rw[Kg (e:=(x'.1,ss)) nk]
      refine⟨⟨_,_,_,_,_,rfl⟩,S16.set hd0,es++[((x'.1,ss),D)],Aa,λx hx=>?_,?_,λx hx=>?_⟩
      .rcases List.mem_append.mp hx with hx|hx
       .obtain⟨a1,a2,a3⟩:=he x hx
        exact⟨a1,a2,by rw[Ad a2];exact(ST.trans (S5.trans Sq)) _ _ a3⟩
       .obtain rfl:x=((x'.1,ss),D):=by simpa using hx
        exact⟨S14.free hD,ndD,by rw[Ad ndD];exact e6D⟩
      .rw[aw,aw,aN,hj2,aw]
       exact sub.append (d_ _)
      .rcases List.mem_append.mp hx with hx|hx
       .exact oke x hx
       .obtain rfl:x=((x'.1,ss),D):=by simpa using hx
        exact bd7 hw (ah hj2) ⟨rfl,hp,sb2⟩
   .rintro σ H3 ⟨⟨v5,v6,v7,v8,v9,rfl⟩,S3,es,ed3,he,sub,oke⟩
    rw[Bs,ae,len,aI] at sub
    refine .inl ?_
    intro q hq
    refine .inl (.inr (.inr (.inl (.inr (.inl ⟨_,.inl ((Same.upd hq) _ _ ed3),.inl Aa,?_⟩)))))
    have Sq:=Same.upd (o:=.dK []) hq
    generalize upd H3 q (.dK [])=H4 at Sq ⊢
    have S14:=S3.trans Sq
    have ek4:=S14 _ _ ek
    have hg4:∀x∈gs,RuleAt (· ≠ kk) H4 x.2 x.1:=λx hx=>(hg x hx).mono (Kp.same S14)
    cases es with
    |nil=>exact⟨gs,⟨_,_,_,_,_,_,_,rfl⟩,S1.trans S14,ek4,hg4,okg,eo gl⟩
    |cons e0 es0=>
     refine U4 ?_
     refine⟨.inl ⟨rfl,_,SqL.of ek4⟩,kk,_,_,rfl,rfl,ek4,by rw[ae];omega,?_⟩
     refine⟨gs++[((e0::es0).map (·.1),d)],⟨_,_,_,_,_,_,_,rfl⟩,(S1.trans S14).set hkk,by rw[Aa,aw];rfl,λx hx=>?_,λr hr=>?_,by rw[aG];exact bJ gl⟩
     .refine RuleAt.mono (H:=H4) (ok:=(· ≠ kk)) ?_ (Kp.off λz=>z rfl)
      rcases List.mem_append.mp hx with hx|hx
      .exact hg4 x hx
      .obtain rfl:x=((e0::es0).map (·.1),d):=by simpa using hx
       exact⟨e0::es0,rfl,⟨ndk,Sq _ _ ed3⟩,λx hx=>⟨(Ai ek (he x hx).1).symm,Sq _ _ (he x hx).2.2⟩⟩
     .rw[aw] at hr
      rcases List.mem_append.mp hr with hr|hr
      .exact okg r hr
      .obtain rfl:r=(e0::es0).map (·.1):=by simpa using hr
       have sl:=sub.length_le
       rw[ae,ae,ae] at sl
       refine⟨by simp,by rw[ae];omega,hw.2.2.1.sublist sub,λe h=>?_⟩
       obtain⟨x,hx,rfl⟩:=List.mem_map.mp h
       exact oke x hx
  .rintro σ H1 ⟨gs,⟨v3,v4,v5,v6,v7,v8,v9,rfl⟩,S1,ek,hg,okg,gl⟩
   rw[Bc] at gl
   exact .inl (k H1 kk (gs.map (·.1)) S1 ⟨gs,rfl,⟨trivial,ek⟩,λx hx=>(hg x hx).mono Kp.any⟩ okg (by rw[ae];omega))
def Lc(z:Str)(l:List Str):inV (.str z) (l.map V.str)=decide (z∈l):=by
 unfold inV
 rw[jM,bK,decide_eq_true_iff,dM]
 constructor
 .rintro⟨y,hy,e⟩
  have e:=e
  rw[<- cK e]
  exact hy
 .intro h
  exact⟨z,h,beq_self_eq_true z⟩
def inE(rule:Sw)(x z:Str):Bool:=rule.all λe=>!decide (e.1=x)||decide (z∈e.2)
def Zy(sw rule:Sw)(r:List Str)(j:Nat):Bool:=inE rule ((sw.map (·.1)).getD j cQ) (r.getD j cQ)
def Ke{α:Type}{l:List α}{i:Nat}{x d:α}(h:l[i]?=some x):l.getD i d=x:=by rw[az,h];rfl
def bc8{sw rule:Sw}{n:Nat}{r:List Str}(hw:okSw sw)(hb:E3 sw rule)(hn:(Al sw)[n]?=some r):((aV sw.length).all (Zy sw rule r))=(F8 sw rule).testBit n:=by
 have rl:=(Hu hw.sets).2.1 r (ah hn)
 have nm:∀{j} {x},sw[j]?=some x->(sw.map (·.1)).getD j cQ=x.1:=λh=>Ke (by rw[ao,h];rfl)
 have hz:∀{j},j<sw.length->r[j]?=some (r.getD j cQ):=λh=>by rw[az,ak (by omega)];rfl
 rw[ah4,decide_eq_true (Aj hn),jg,bK,bh,bh]
 constructor
 .intro h e he
  obtain⟨_,_,x,hx,ex,_⟩:=hb.2.2.2 e he
  obtain⟨j,hj⟩:=List.mem_iff_getElem?.mp hx
  have jl:=Aj hj
  have:=List.all_eq_true.mp (h j (List.mem_range.mpr jl)) e he
  rw[nm hj,ex,decide_eq_true rfl,Bool.not_true,jf,decide_eq_true_iff] at this
  refine List.any_eq_true.mpr ⟨_,this,?_⟩
  unfold Zv
  rw[hn,<- ex,Lp hj hw.2.2.1]
  exact decide_eq_true (hz jl)
 .intro h j hj
  have jl:=List.mem_range.mp hj
  have hx:=ak jl
  refine List.all_eq_true.mpr λe he=>?_
  rw[nm hx]
  by_cases c:e.1=sw[j].1
  .obtain⟨z,hz1,hz2⟩:=List.any_eq_true.mp (h e he)
   have hz2:=of_decide_eq_true hz2
   rw[hn,c,Lp hx hw.2.2.1] at hz2
   have hz2:=hz2
   rw[Ke hz2,decide_eq_true hz1,Bool.or_true]
  .rw[decide_eq_false c];rfl
def bc6(f:Nat->Bool)(n:Nat):(((aV n).map f).all λb=>b)=(aV n).all f:=by rw[gn];rfl
def bi5(Z:Am K t):OkD K ae0 (Ax K t) bl (t.f 7) (t.d 7) (V8 K t):=by
 refine A0 (b40 K t) λvs H Q E h=>?_
 .obtain⟨l,kk,n,sw,ζ,rfl,hsw,hw,⟨gs,eg,⟨_,ok⟩,hg⟩,hr,hn,k⟩:=h;refine⟨rfl,?_⟩
  have big:=ce2
  have l5:=hw.2.1
  refine⟨l,n,sw,rfl,hsw,hw,λH1 r S1 er=>?_⟩
  obtain⟨ds,ed,⟨_,ol⟩,hd⟩:=hsw
  have len:ds.length=sw.length:=by rw[<- ed];simp
  have hrow:=ak hn
  generalize (Al sw)[n]=row at hrow
  refine .inl ⟨⟨_,SqL.of (S1 _ _ ok)⟩,?_⟩
  refine A5 (Az (gs.map λx=>V.ref x.2)) (λi σ H'=>(∃v4 v5,σ=[some (.ref l),some (.ref kk),some (.int (n:Int)),some (.ref r),v4,v5])/\Same H1 H'/\∀q∈ζ.take i,(F8 sw q).testBit n=false) ⟨⟨_,_,rfl⟩,Same.refl _,λq hq=>(by cases hq)⟩ (λ_ _ H' _ q=>(S1.trans q.2.1).seqL (SqL.of ok)) ?_ ?_
  .rintro i x σ H2 hx ⟨⟨v4,v5,rfl⟩,S2,pre⟩
   obtain⟨⟨rule,ra⟩,hi,rfl⟩:=Ak hx
   have hi2:ζ[i]?=some rule:=by rw[<- eg,ao,hi];rfl
   obtain⟨es,ee,⟨_,oe⟩,he⟩:=hg _ (ah hi)
   have ee:es.map (·.1)=rule:=ee
   have oe:=oe
   have okr:=hr rule (ah hi2)
   have S02:=S1.trans S2
   refine .inl ⟨⟨_,SqL.of (S02 _ _ ol)⟩,λD hD=>?_⟩
   refine G1 (E8 (ds.map λx=>V.ref x.2)) (λm σ H'=>(∃v0 v1 v2,σ=[v0,v1,v2,some (.ref r),some (.ref ra)])/\Same H2 H'/\H' D=some (.lst (((aV m).map (Zy sw rule row)).map V.bl))) ⟨⟨_,_,_,rfl⟩,Same.upd hD,Aa⟩ (λm σ H' _ q=>(S02.trans q.2.1).seqL (SqL.of ol)) ?_ ?_
   .rintro j x y T σ H3 hx3 hT ⟨⟨v0,v1,v2,rfl⟩,S3,eD⟩
    obtain⟨⟨⟨x',la⟩,ta⟩,hj,rfl,rfl⟩:=Pb hx3
    have hj2:sw[j]?=some x':=by rw[<- ed,ao,hj];rfl
    have jl:=Aj hj2
    obtain⟨⟨_,h1⟩,_,h2⟩:=hd _ (ah hj)
    have h2:=h2
    have ST:=Same.upd (o:=.tup [.int (j:Int),.ref ta]) hT
    refine⟨_,.inl (SqT.of Aa),rfl,?_⟩
    generalize upd H3 T (.tup [.int (j:Int),.ref ta])=H4 at ST ⊢
    have S24:=S3.trans ST
    have S04:=S02.trans S24
    obtain⟨dg,hd1,hd2,hd3⟩:=bd4 hw hrow hj2
    have hz:=ak hd2
    rw[hz] at hd3
    generalize x'.2[dg]=z at hz hd3
    refine⟨_,.inl (SqT.of (S04 _ _ h1)),rfl,?_⟩
    refine⟨_,.int (dg:Int),.inl (SqL.of ((S2.trans S24) _ _ er)),B5 (by rw[ao,hd1];rfl),_,.str z,.inl (SqL.of (S04 _ _ h2)),B5 (by rw[ao,hz];rfl),?_⟩
    refine⟨.inr (.inr (.inl ⟨rfl,.inl ⟨_,S04 _ _ oe⟩⟩)),_,DGet.k (k:=.inr x'.1) (S04 _ _ oe),?_⟩
    have fin:∀b,b=Zy sw rule row j -> ∃ys,H4 D=some (.lst ys)/\ys.length<sizeLine/\(∃v0 v1 v2,[some (V.int (j:Int)),some (.str x'.1),some (.ref la),some (.ref r),some (.ref ra)]=[v0,v1,v2,some (.ref r),some (.ref ra)])/\Same H2 (upd H4 D (.lst (ys++[.bl b])))/\upd H4 D (.lst (ys++[.bl b])) D=some (.lst (((aV (j+1)).map (Zy sw rule row)).map V.bl)):=λb hb=>
     ⟨_,ST _ _ eD,by rw[ae,ae,bg];omega,⟨_,_,_,rfl⟩,S24.set hD,by rw[Aa,hb,jN,aw,aw];rfl⟩
    have ins:Zy sw rule row j=inE rule x'.1 z:=by unfold Zy;rw[Ke hd3,Ke (by rw[ao,hj2];rfl)]
    by_cases hin:x'.1∈rule.map (·.1)
    .obtain⟨e,hee,en⟩:=List.mem_map.mp hin
     rw[<- ee] at hee
     obtain⟨⟨e',le⟩,hes,rfl⟩:=List.mem_map.mp hee
     obtain⟨a,ha⟩:=List.mem_iff_getElem?.mp hes
     have hv:Bg (es.map kR) (.inr x'.1)=some (.ref le):=by
      rw[<- en]
      exact Bo (Ey ee okr.2.2.1) (by rw[ao,ha];rfl)
     rw[hv]
     refine .inl ⟨le,_,rfl,.inl (SqL.of (S04 _ _ (he _ hes).2)),rfl,C6 _,fin _ ?_⟩
     show inV (.str z) _=_
     rw[Lc,ins]
     have em:e'∈rule:=by rw[<- ee];exact hee
     unfold inE
     rw[bK,decide_eq_true_iff,bh]
     refine⟨λhz e he2=>?_,λh=>by simpa [show e'.1=x'.1 from en] using h e' em⟩
     by_cases c:e.1=x'.1
     .have:e=e':=by
       obtain⟨a1,q1⟩:=List.mem_iff_getElem?.mp he2
       obtain⟨a2,q2⟩:=List.mem_iff_getElem?.mp em
       have l1:=Aj q1
       have l2:=Aj q2
       rw[ak l1] at q1
       rw[ak l2] at q2
       have:=(dN (i:=a1) (j:=a2) (h₀:=by rw[ae];exact l1) (h₁:=by rw[ae];exact l2) okr.2.2.1).mp (by rw[dO,dO,aJ q1,aJ q2,c];exact en.symm)
       subst this
       exact(aJ q1).symm.trans (aJ q2)
      rw[this,decide_eq_true hz,Bool.or_true]
     .rw[decide_eq_false c];rfl
    .have hv:Bg (es.map kR) (.inr x'.1)=none:=by
      refine Cq λq=>hin ?_
      rw[Ki,ee] at q
      obtain⟨y,hy,e⟩:=List.mem_map.mp q
      cases e
      exact hy
     rw[hv]
     refine .inl ⟨la,_,rfl,.inl (SqL.of (S04 _ _ h2)),rfl,C6 _,fin _ ?_⟩
     show inV (.str z) _=_
     rw[Lc,ins,decide_eq_true (ah hz)]
     refine(List.all_eq_true.mpr λe he2=>?_).symm
     rw[decide_eq_false λc=>hin (List.mem_map.mpr ⟨e,he2,c⟩)];rfl
   .rintro σ H3 ⟨_,S3,eD⟩
    rw[Bs,ae,len] at eD
    refine⟨_,SqL.of eD,?_⟩
    rw[bc6,bc8 hw okr hrow]
    cases hc:(F8 sw rule).testBit n with
    |true=>
     have:=k H3 (S02.trans S3)
     have hb:Gc sw ζ n=true:=List.any_eq_true.mpr ⟨rule,ah hi2,hc⟩
     rw[hb] at this
     exact this
    |false=>
     refine⟨⟨_,_,rfl⟩,S2.trans S3,λq hq=>?_⟩
     rw[aN,hi2] at hq
     rcases List.mem_append.mp hq with hq|hq
     .exact pre q hq
     .obtain rfl:q=rule:=by simpa using hq
      exact hc
  .rintro σ H2 ⟨⟨v4,v5,rfl⟩,S2,pre⟩
   rw[ae,<- ae (f:=lP) (as:=gs),eg,aI] at pre
   have hb:Gc sw ζ n=false:=by
    unfold Gc
    rw[i3]
    exact λq hq z=>by rw[pre q hq] at z;cases z
   have:=k H2 (S1.trans S2)
   rw[hb] at this
   exact .inl this
def Zr(l:List Nat):(l.map λn:Nat=>V.int (n:Int)).all B7=true:=by rw[gn,bh];exact λ_ _=>rfl
def bk0(Z:Am K t):OkD K af1 (Ax K t) bl (t.f 8) (t.d 8) (Wj K t):=by
 refine A0 (b55 K t) λvs H Q E h=>?_
 .obtain⟨c,m,rfl,hm,hm2,k⟩:=h;refine⟨rfl,?_⟩
  have big:=ce2
  refine⟨c,m,rfl,hm,hm2,λH1 l sw S1 hsw hw=>⟨c,l,sw,rfl,hsw,hw,λH2 kk ζ S2 hr okr lr=>?_⟩⟩
  have few:=hw.len
  have S02:=S1.trans S2
  have hsw2:=hsw.mono (Kp.same S2)
  refine⟨l,sw,rfl,hsw2,hw,⟨by omega,by omega⟩,λD hD=>?_⟩
  rw[bb]
  refine Dg (B3 0 (Al sw).length) (λi σ H'=>(∃v,σ=[v,some (.ref kk),some (.ref l)])/\Same H2 H'/\H' D=some (nO ((aV i).filter λn=>!Gc sw ζ n))) ⟨⟨_,rfl⟩,Same.upd hD,Aa⟩ (λ_ _ _ _ _=>aZ) ?_ ?_
  .rintro i x σ H3 hx ⟨⟨v,rfl⟩,S3,eD⟩
   obtain⟨hi,rfl⟩:=Di hx
   refine⟨l,kk,i,sw,ζ,rfl,hsw2.mono (Kp.same S3),hw,hr.mono (Kp.same S3),okr,hi,λH4 S4=>?_⟩
   have S34:=S3.trans S4
   have fs:(aV (i+1)).filter (λn=>!Gc sw ζ n)=(aV i).filter (λn=>!Gc sw ζ n)++(if(!Gc sw ζ i)=true then [i] else []):=by
    rw[jN,kY,List.filter_cons,List.filter_nil]
   cases hc:Gc sw ζ i with
   |true=>
    rw[hc,if_neg (by decide),b5] at fs
    exact⟨⟨_,rfl⟩,S34,by rw[fs];exact S4 _ _ eD⟩
   |false=>
    rw[hc,if_pos (by decide)] at fs
    refine⟨_,S4 _ _ eD,?_,⟨_,rfl⟩,S34.set hD,?_⟩
    .rw[ae]
     have:=bQ (λn=>!Gc sw ζ n) (aV i)
     rw[bg] at this
     omega
    .rw[Aa,fs,nO,aw];rfl
  .rintro σ H3 ⟨_,S3,eD⟩
   rw[Bc] at eD
   have eD:H3 D=some (nO (An sw ζ)):=eD
   refine⟨My,λq hq=>.inl ⟨D,q,_,_,rfl,rfl,SqL.of ((Same.upd hq) _ _ eD),SqL.of Aa,Zr _,rfl,?_⟩⟩
   have Sq:=Same.upd (o:=.lst []) hq
   generalize upd H3 q (.lst [])=H4 at Sq ⊢
   have S24:=S3.trans Sq
   have S04:=S02.trans S24
   by_cases hf:An sw ζ=[]
   .rw[hf]
    refine U4 ?_
    refine⟨My,λk2 hk2=>?_⟩
    have S5:=Same.upd (o:=.lst []) hk2
    have e5:upd H4 k2 (.lst []) k2=some (.lst []):=Aa
    generalize upd H4 k2 (.lst [])=H5 at S5 e5 ⊢
    refine⟨l,sw,rfl,hsw2.mono (Kp.same (S24.trans S5)),hw,by omega,by omega,λD2 hD2=>?_⟩
    rw[bb]
    have S6:=Same.upd (o:=nO (aV (Al sw).length)) hD2
    have e6:upd H5 D2 (nO (aV (Al sw).length)) D2=some (nO (aV (Al sw).length)):=Aa
    generalize upd H5 D2 (nO (aV (Al sw).length))=H6 at S6 e6 ⊢
    refine⟨ce0,λW hW=>?_⟩
    have S7:=Same.upd (o:=.lst [.ref l,.ref k2,.ref D2]) hW
    have f0:An sw []=aV (Al sw).length:=List.filter_eq_self.mpr λ_ _=>rfl
    refine k _ W sw [] l k2 D2 (S04.trans (S5.trans (S6.trans S7))) ⟨Aa,hsw2.mono (Kp.same (S24.trans (S5.trans (S6.trans S7)))),hw,⟨[],rfl,⟨trivial,(S6.trans S7) _ _ e5⟩,λx hx=>by cases hx⟩,λr hr=>(by cases hr),bw _,by rw[f0];exact S7 _ _ e6,?_⟩
    rw[f0]
    intro z
    have:=congrArg b9 z
    rw[bg,List.length_nil] at this
    have:=hw.pos
    omega
   .refine Cg (Dy (by rw[ae];intro z;exact hf (List.length_eq_zero_iff.mp z))) ?_
    refine⟨ce0,λW hW=>?_⟩
    have S7:=Same.upd (o:=.lst [.ref l,.ref kk,.ref D]) hW
    exact k _ W sw ζ l kk D (S04.trans S7) ⟨Aa,hsw2.mono (Kp.same (S24.trans S7)),hw,hr.mono (Kp.same (S24.trans S7)),okr,by omega,(Sq.trans S7) _ _ eD,hf⟩
def G6(x:Int){m:Nat}(h:1<=m):∃v,v<m/\x%(m:Int)=(v:Int):=by
 have h0:=dm x (show(m:Int)≠0 by omega)
 have h1:=cH x (show 0<(m:Int) by omega)
 exact⟨(x%(m:Int)).toNat,by omega,by omega⟩
def bh6(Z:Am K t):OkD K ad8 (Ax K t) bl (t.f 13) (t.d 13) (Vz K t):=by
 refine A0 (b29 K t) λvs H Q E h=>?_
 .obtain⟨c,l,sw,n,m,rfl,hsw,hw,hm,k⟩:=h;refine⟨rfl,?_⟩
  obtain⟨ds,ed,⟨_,ol⟩,hd⟩:=id hsw
  have len:ds.length=sw.length:=by rw[<- ed];simp
  have l1:=hw.1
  refine⟨c,70,rfl,by decide,by decide,Hh (λ_=>?_) (λ_=>?_)⟩
  .refine⟨l,n,sw,rfl,hsw,hw,λH1 r S1 er=>⟨c,71,rfl,by decide,.inl ⟨_,.inl (SqL.of (S1 _ _ ol)),?_⟩⟩⟩
   rw[ae,len]
   obtain⟨j,hj,ej⟩:=G6 (Bz c 71) l1
   have hd2:(Rv sw n)[j]?=some ((Rv sw n)[j]'(by rw[K5];exact hj)):=ak _
   refine⟨by omega,_,.int ((Rv sw n)[j]'(by rw[K5];exact hj):Nat),.inl (SqL.of er),?_,by omega,?_⟩
   .rw[ej];exact B5 (by rw[ao,hd2];rfl)
   .obtain⟨v,hv,ev⟩:=G6 (((Rv sw n)[j]'(by rw[K5];exact hj):Nat):Int) hm
    rw[ev]
    exact k H1 v S1 hv
  .obtain⟨v,hv,ev⟩:=G6 (Bz c (700+(n:Int))) hm
   refine⟨c,700+(n:Int),rfl,by omega,by omega,?_⟩
   rw[ev]
   exact k H v (Same.refl _) hv
def textS:Str := " !\"#$&'()*+,-./0123456789:;<=>?@ABCDEFGHIJKLMNOPQRSTUVWXYZ[\\]^_`" ++ "abcdefghijklmnopqrstuvwxyz{|}~"
def b85(x:Int)(h0:0<=x)(h:x<5):∃L:Nat,L<=60/\atI [V.int 0,.int 1,.int 2,.int 5,.int 60] x=some (.int (L:Int)):=by
 have:x=0\/x=1\/x=2\/x=3\/x=4:=by omega
 rcases this with rfl|rfl|rfl|rfl|rfl
 .exact⟨0,by decide,rfl⟩
 .exact⟨1,by decide,rfl⟩
 .exact⟨2,by decide,rfl⟩
 .exact⟨5,by decide,rfl⟩
 .exact⟨60,by decide,rfl⟩
def bk7(Z:Am K t):OkD K af7 (Ax K t) bl (t.f 9) (t.d 9) (Qj K t):=by
 refine A0 (b62 K t) λvs H Q E h=>?_
 .obtain⟨c,rfl,k⟩:=h;refine⟨rfl,?_⟩
  have ts:1<=textS.length/\textS.length<=1000:=by decide +kernel
  have big:=ce2
  refine⟨by decide +kernel,(show 5<=sizeLine by decide),λq hq=>⟨c,301,rfl,by decide,by decide,?_⟩⟩
  have S1:=Same.upd (o:=.lst [.int 0,.int 1,.int 2,.int 5,.int 60]) hq
  obtain⟨L,hL,eL⟩:=b85 (Bz c 301%5) (by omega) (by omega)
  refine⟨_,_,.inl (SqL.of Aa),eL,?_⟩
  generalize upd H q (.lst [.int 0,.int 1,.int 2,.int 5,.int 60])=H1 at S1 ⊢
  refine⟨rfl,⟨by omega,by omega⟩,?_⟩
  rw[bb]
  refine K0 (f:=λj=>.str ⟨#[sgC textS (Bz c (302+(j:Int)))]⟩) (rest:=[some (.int c),some (.str textS)]) (B3 0 L) (λ_ _=>aZ) (by rw[Bc];omega) (λj x H2 Q1 hj _ q=>?_) λD H2 S2 hD eD=>?_
  .obtain⟨hj,rfl⟩:=Di hj
   exact⟨c,302+(j:Int),rfl,by omega,by omega,by omega,by omega,_,ar6 _ ts.1,q _ (Same.refl _)⟩
  .rw[Bc,Qc] at eD
   refine⟨_,D,_,rfl,rfl,.inl (SqL.of eD),?_,?_⟩
   .rw[Fs,ae,bg];omega
   rw[Ew]
   exact k H2 _ (S1.trans S2) (by have:=Q8 (λj=>sgC textS (Bz c (302+(j:Int)))) L;unfold wB at this;rw[this];exact hL)
theorem Tw{H:Hp}{x:TK}{v:V}(hx:TkAt H x v):∀{l} {vs},Au H l vs->Au H (l++[x]) (vs++[v])
 |[],vs,h=>by unfold Au at h;subst h;show Au H [x] [v];unfold Au;exact⟨v,[],rfl,hx,by unfold Au;rfl⟩
 |y::l,vs,h=>by unfold Au at h;obtain⟨u,r,rfl,h1,h2⟩:=h;show Au H (y::(l++[x])) _;unfold Au;exact⟨u,_,rfl,h1,Tw hx h2⟩
theorem Q5{H H':Hp}(hs:∀b ys,H b=some (.tup ys)->H' b=some (.tup ys)):∀{l} {vs},Au H l vs->Au H' l vs
 |[],vs,h=>by unfold Au at h ⊢;exact h
 |y::l,vs,h=>by unfold Au at h ⊢;obtain⟨u,r,e,h1,h2⟩:=h;exact⟨u,r,e,h1.up hs,Q5 hs h2⟩
theorem To{H:Hp}:∀{vs},(∀v∈vs,∃z,v=.str z) -> ∃l,Au H l vs/\∀k∈l,Ap k<=0
 |[],_=>⟨[],by unfold Au;rfl,λk hk=>by cases hk⟩
 | v::vs,h=>by
  obtain⟨l,h1,h2⟩:=To λu hu=>h u (aA _ hu)
  obtain⟨z,rfl⟩:=h v aD
  refine⟨.at_ (.inr z)::l,by unfold Au;exact⟨_,_,rfl,by unfold TkAt;rfl,h1⟩,λk hk=>?_⟩
  rcases List.mem_cons.mp hk with rfl|hk
  .exact Cs _ _
  .exact h2 k hk
def bh5(Z:Am K t):OkD K ad7 (Ax K t) bl (t.f 10) (t.d 10) (Vy K t):=by
 refine A0 (b28 K t) λvs H Q E h=>?_
 .obtain⟨kd,c,rfl,k⟩:=h;refine⟨rfl,?_⟩
  have big:=ce2
  refine Hh (λ_=>?_) (λ_=>?_)
  .exact⟨c,rfl,λH' z S hz=>k H' (.at_ (.inr z)) (.str z) S (by unfold TkAt;rfl) ⟨Cs _ _,λ_ z=>by cases z⟩⟩
  .refine⟨c,310,rfl,by decide,by decide,My,λR hR=>?_⟩
   have S0:=Same.upd (o:=.lst []) hR
   have e0:upd H R (.lst []) R=some (.lst []):=Aa
   generalize upd H R (.lst [])=H0 at S0 e0 ⊢
   refine⟨c,311,rfl,by decide,by decide,⟨by omega,by omega⟩,?_⟩
   refine A5 (B3 0 (1+Bz c 311%3).toNat) (λi σ H'=>(∃v4,σ=[some (.str kd),some (.int c),some (.int (1+Bz c 310%3)),some (.ref R),v4])/\Same H H'/\∃ks vs,H' R=some (.lst vs)/\Au H' ks vs/\(∀k∈ks,Ap k<=1)/\vs.length=i)
    ⟨⟨_,rfl⟩,S0,[],[],e0,(by unfold Au;rfl),(λk hk=>by cases hk),rfl⟩ (λ_ _ _ _ _=>aZ) ?_ ?_
   .rintro i x σ H1 hx ⟨⟨v4,rfl⟩,S1,ks,vs,eR,tk,dp,lv⟩
    obtain⟨hi,rfl⟩:=Di hx
    refine⟨.inl ⟨rfl,_,SqL.of eR⟩,⟨by omega,by omega⟩,?_⟩
    refine G3 (P:=λ_ v _=>∃z,v=.str z) (λ_ _ _ _ _ h=>h) (B3 0 (1+Bz c 310%3).toNat) (λ_ _=>aZ) (by rw[Bc];omega) (λj x H2 Q1 hj _ q=>?_) λD H2 us S2 hD eD lu hu=>?_
    .obtain⟨hj,rfl⟩:=Di hj
     exact⟨.inl ⟨by decide,by decide⟩,.inl ⟨by decide,by decide⟩,_,rfl,λH3 z S3 hz=>⟨by omega,q _ H3 S3 ⟨_,rfl⟩⟩⟩
    .refine⟨_,.inl ⟨SqL.of eD,λT hT=>?_⟩⟩
     have ST:=Same.upd (o:=.tup us) hT
     have eT:upd H2 T (.tup us) T=some (.tup us):=Aa
     generalize upd H2 T (.tup us)=H3 at ST eT ⊢
     have S13:=S2.trans ST
     obtain⟨l,tl,dl⟩:=To λv hv=>by
      obtain⟨j,hj⟩:=List.mem_iff_getElem?.mp hv
      exact hu j v hj
     have e3:=S13 _ _ eR
     have nl:=NL.upd (m:=vs++[.ref T]) e3
     refine⟨R,_,_,rfl,rfl,e3,by omega,⟨_,rfl⟩,(S1.trans S13).set hR,ks++[.tup l],_,Aa,?_,λk hk=>?_,by rw[aG,lv];rfl⟩
     .refine Q5 nl.tup (Tw ?_ (Q5 (NL.same S13).tup tk))
      unfold TkAt
      exact⟨T,us,rfl,eT,tl⟩
     .rcases List.mem_append.mp hk with hk|hk
      .exact dp k hk
      .obtain rfl:k=.tup l:=by simpa using hk
       unfold Ap
       exact bJ (Ce dl)
   .rintro σ H1 ⟨⟨v4,rfl⟩,S1,ks,vs,eR,tk,dp,lv⟩
    refine .inl ⟨_,.inl ⟨SqL.of eR,λT hT=>?_⟩⟩
    have ST:=Same.upd (o:=.tup vs) hT
    refine k _ (.tup ks) (.ref T) (S1.trans ST) ?_ ?_
    .unfold TkAt
     exact⟨T,vs,rfl,Aa,Q5 (NL.same ST).tup tk⟩
    .refine⟨?_,λ_ z=>by cases z⟩
     unfold Ap
     exact bJ (Ce dp)
end
def Xq(b:Bel T n z):∃y,T.lookup z=some y:=by cases b with|one h _=>exact⟨_,h⟩|more h _=>exact⟨_,h⟩
def ay4{T:Tr}{n:Str}(u:Up T)(ne:n ≠ ""):¬ Bel T n n:=λb=>by
 obtain⟨rk,u⟩:=u
 have lt:∀{z},Bel T n z->rk n<rk z:=λb=>by
  induction b with
  |one h e=>exact(u _ _ h).2.elim (λq=>absurd (e.symm.trans q) ne) λq=>e▸q.2
  |more h b ih=>
   obtain⟨y,hy⟩:=Xq b
   exact(u _ _ h).2.elim (λq=>absurd q (u _ _ hy).1) λq=>lK ih q.2
 exact fS _ (lt b)
structure WInv (T:Tr) (n:Str) (F W:List Str):Prop where
 nd:(F++W).Nodup
 bel:∀z∈F++W,Bel T n z
 mem:∀z,z∈F++W↔Ch T n z \/ ∃p∈F,Ch T p z
def WInv.first(nd:W.Nodup)(h:∀z,z∈W↔Ch T n z):WInv T n [] W:=⟨nd,λz hz=>by obtain⟨x,a,b⟩:=(h z).mp hz;exact .one a b,λz=>⟨λq=>.inl ((h z).mp q),λq=>q.elim (h z).mpr fun⟨p,hp,_⟩=>by cases hp⟩⟩
def WInv.step{T:Tr}{n:Str}(o:Up T)(ne:n ≠ ""){F W C:List Str}{z:Str}(I:WInv T n F (W++[z]))(nd:C.Nodup)(h:∀y,y∈C↔Ch T z y):WInv T n (F++[z]) (W++C):=by
 have pm:(F++[z]++(W++C)).Perm (F++(W++[z])++C):=by
  rw[cE,cE,cE]
  refine List.Perm.append_left F ?_
  rw[<- cE,<- cE]
  exact List.Perm.append_right C List.perm_append_comm
 have zm:z∈F++(W++[z]):=by simp
 have zF:z∉F:=λq=>(List.nodup_append.mp I.nd).2.2 z q z (by simp) rfl
 have me:∀y,y∈F++[z]++(W++C)↔y∈F++(W++[z])\/y∈C:=λy=>by rw[pm.mem_iff,ax]
 have un:∀{p q y},Ch T p y->Ch T q y->p=q:=fun⟨x,a,b⟩ ⟨x',a',b'⟩=>by rw[a] at a';cases a';rw[<- b,<- b']
 refine⟨pm.nodup_iff.mpr (List.nodup_append.mpr ⟨I.nd,nd,λa ha b hb e=>?_⟩),λy hy=>?_,λy=>?_⟩
 .subst e
  have hc:=(h a).mp hb
  rcases(I.mem a).mp ha with q|⟨p,hp,q⟩
  .exact ay4 o ne (un q hc▸I.bel z zm)
  .exact zF (un q hc▸hp)
 .rcases (me y).mp hy with q|q
  .exact I.bel y q
  .obtain⟨x,a,b⟩:=(h y).mp q
   exact .more a (b▸I.bel z zm)
 .rw[me,I.mem,h]
  exact⟨λq=>q.elim (λq=>q.imp id fun⟨p,hp,c⟩=>⟨p,bo _ hp,c⟩) λc=>.inr ⟨z,by simp,c⟩,λq=>q.elim (λc=>.inl (.inl c)) fun⟨p,hp,c⟩=>by
   rcases List.mem_append.mp hp with hp|hp
   .exact .inl (.inr ⟨p,hp,c⟩)
   .exact .inr (List.mem_singleton.mp hp▸c)⟩
def WInv.last(I:WInv T n F []):F.Nodup/\∀z,z∈F↔Bel T n z:=by
 have e:=b5 F
 have nd:=I.nd
 have mem:=I.mem
 have bel:=I.bel
 rw[e] at nd mem bel
 refine⟨nd,λz=>⟨bel z,λb=>?_⟩⟩
 induction b with
 |one h e=>exact(mem _).mpr (.inl ⟨_,h,e⟩)
 |more h b ih=>exact(mem _).mpr (.inr ⟨_,ih,_,h,rfl⟩)
def WInv.len(I:WInv T n F W):F.length+W.length<=T.length:=by
 have:=Hv (x:=T.map (·.1)) I.nd λz hz=>by
  obtain⟨y,hy⟩:=Xq (I.bel z hz)
  exact List.mem_map.mpr ⟨_,Ef hy,rfl⟩
 rwa[aG,ae] at this
section
variable {P:a_}{w:bB}{K:ac}{mg:Str->Option am}{base:Heap}{t:Adr}
def av4{S:St->Prop}{C:St->Hp->Prop}{H:Hp}{G:Prop}(use:(∀ σ,S σ->C σ H)->G)(h:∀ σ,S σ->C σ H):G:=use h
def Ky{xs:List V}(x:Int){n:Int}(hn:n=xs.length)(h:0<xs.length):∃v∈xs,atI xs (x%n)=some v:=by
 obtain⟨j,hj,e⟩:=G6 x (h)
 subst hn
 rw[e]
 exact⟨xs[j],cS hj,B5 (ak hj)⟩
def Hk(es:List ((Str×Rc)×Addr)):(es.map kT).map (·.1)=(es.map (·.1.1)).map (cV:Str->Key):=by simp[au,Function.comp_def]
def bv6{es:List ((Str×Rc)×Addr)}(h:(es.map (·.1.1)).Nodup):((es.map kT).map (·.1)).Nodup:=by rw[Hk];exact Iv h
def Fj{es:List ((Str×Rc)×Addr)}(h:(es.map (·.1.1)).Nodup){i:Nat}{e:(Str×Rc)×Addr}(hi:es[i]?=some e):Bg (es.map kT) (.inr e.1.1)=some (.ref e.2):=Bo (bv6 h) (by rw[ao,hi];rfl)
def al0{es:List ((Str×Rc)×Addr)}{n:Str}(h:¬ n∈es.map (·.1.1)):Bg (es.map kT) (.inr n)=none:=by
 refine Cq λq=>h ?_
 rw[Hk] at q
 obtain⟨y,hy,e⟩:=List.mem_map.mp q
 cases e
 exact hy
def Kh{es:List ((Str×Rc)×Addr)}{e:Str×Rc}{a:Addr}(h:¬ e.1∈es.map (·.1.1)):Bt (es.map kT) (.inr e.1) (.ref a)=(es++[(e,a)]).map kT:=by rw[Er _ (al0 h),aw];rfl
def Ij{H:Hp}{d:Addr}{kvs:List (Key×V)}{o:HO}(h:H d=some (.dK kvs) \/ ∃x,H d=some (.frz x (.dK kvs))):∀b ys,H b=some (.tup ys)->upd H d o b=some (.tup ys):=λb ys e=>by
 rw[Ad λz=>?_];exact e
 rcases h with h|⟨x,h⟩ <;> (rw[z,h] at e;cases e)
def kdsL:List Str:=["chapter","para","table","chapter"]
def Up.nil:Up []:=⟨λ_=>0,λn x h=>by cases h⟩
def Up.push{T:Tr}{n:Str}{x:Rc}(u:Up T)(fr:n∉T.map (·.1))(ne:n ≠ "")(h:x.p="" \/ x.p∈T.map (·.1))(nd:(T.map (·.1)).Nodup):Up (T++[(n,x)]):=by
 obtain⟨rk,u⟩:=u
 obtain⟨N,hN⟩:=bnd (T.map λe=>rk e.1)
 have has:∀{m y},T.lookup m=some y->m≠n/\rk m<N:=λ{m y} e=>⟨λz=>fr (z▸List.mem_map.mpr ⟨_,Ef e,rfl⟩),hN _ (List.mem_map.mpr ⟨_,Ef e,rfl⟩)⟩
 refine⟨λz=>if z=n then N else rk z,λm y e=>?_⟩
 rw[List.lookup_append] at e ⊢
 dsimp only
 cases q:T.lookup m with
 |some y0=>
  rw[q] at e
  cases e
  obtain⟨a,b⟩:=u m y q
  refine⟨a,b.imp id fun⟨c,d⟩=>?_⟩
  obtain⟨y1,c⟩:=Option.isSome_iff_exists.mp c
  rw[c,if_neg (has c).1,if_neg (has q).1]
  exact⟨rfl,d⟩
 |none=>
  rw[q,Option.none_or,cU] at e
  split at e
  .rename_i z
   cases e
   rw[cK z,if_pos rfl]
   refine⟨ne,h.imp id λc=>?_⟩
   obtain⟨⟨w,y1⟩,c,z⟩:=List.mem_map.mp c
   have c:=Ez nd ((show w=x.p from z)▸c)
   rw[c,if_neg (has c).1]
   exact⟨rfl,(has c).2⟩
  .cases e
def bk8(Z:Am K t):OkD K af8 (Ax K t) bl (t.f 11) (t.d 11) (Wn K t):=by
 refine A0 (b63 K t) λvs H Q E h=>?_
 .obtain⟨c,v,l,ws,rfl,hl,nd,few,nz,k⟩:=h;refine⟨rfl,?_⟩
  have big:=ce2
  intro d hd0
  refine .inl (.inl ⟨⟨_,(Same.upd hd0).seqL (SqL.of hl)⟩,?_⟩)
  have Sd:=Same.upd (o:=.dK []) hd0
  have e0:upd H d (.dK []) d=some (.dK (([]:List ((Str×Rc)×Addr)).map kT)):=Aa
  generalize upd H d (.dK [])=H0 at Sd e0 ⊢
  refine Kd (E8 (ws.map V.str)) (λi σ H'=>(∃v4 v5 v6 v7 v8 v9,σ=[some (.int c),some (.int (v:Int)),some (.ref l),some (.ref d),v4,v5,v6,v7,v8,v9])/\Same H H'/\∃es,H' d=some (.dK (es.map kT))/\(∀e∈es,RcAt H' e.2 e.1.2/\okC e.1.2.c)/\(es.map (·.1.1)).Sublist (ws.take i)/\Up (es.map (·.1)))
   ⟨⟨_,_,_,_,_,_,rfl⟩,Sd,[],e0,(λe he=>by cases he),List.nil_sublist _,Up.nil⟩ (λ_ _ H' _ q=>q.2.1.seqL (SqL.of hl)) ?_ ?_
  .rintro i x y T σ H1 hx hT ⟨⟨v4,v5,v6,v7,v8,v9,rfl⟩,S1,es,ed,he,sub,up⟩
   obtain⟨rfl,hy⟩:=K6 hx
   obtain⟨n,hn,rfl⟩:=Ak hy
   have il:=Aj hn
   have ST:=Same.upd (o:=.tup [.int (i:Int),.str n]) hT
   refine⟨_,.inl (SqT.of Aa),rfl,?_⟩
   generalize upd H1 T (.tup [.int (i:Int),.str n])=H2 at ST ⊢
   have S2:=S1.trans ST
   have ed2:=ST _ _ ed
   have he2:∀e∈es,RcAt H2 e.2 e.1.2/\okC e.1.2.c:=λe h=>⟨(he e h).1.up (NL.same ST).tup,(he e h).2⟩
   clear he ed
   have sub1:(es.map (·.1.1)).Sublist (ws.take (i+1)):=sub.trans (dG (by omega))
   refine⟨c,100+(i:Int),rfl,by omega,?_⟩
   refine' av4 (S:=λσ=>∃N,σ=[some (.int c),some (.int (v:Int)),some (.ref l),some (.ref d),some (.int (i:Int)),some (.str n),some (.int N),v7,v8,v9]) (λrest=>?u) ?v
   case u=>
    exact Hh (λ_=>⟨.inl ⟨by decide,by decide⟩,c,130+40*(v:Int)+(i:Int),rfl,by omega,by decide,Hh (λ_=>⟨.inl ⟨by decide,by decide⟩,c,500+40*(v:Int)+(i:Int),rfl,by omega,rest _ ⟨_,rfl⟩⟩) (λ_=>rest _ ⟨_,rfl⟩)⟩) (λ_=>Pj (rest _ ⟨_,rfl⟩))
   case v=>
    rintro σ ⟨N,rfl⟩
    refine⟨by decide,Hh (λ_=>?_) (λ_=>⟨⟨_,_,_,_,_,_,rfl⟩,S2,es,ed2,he2,sub1,up⟩)⟩
    refine⟨ce1,λq1 hq1=>⟨⟨by decide,by decide⟩,by decide,?_⟩⟩
    have S3:=Same.upd (o:=.lst (kdsL.map V.str)) hq1
    obtain⟨kv,hkv,ekv⟩:=Ky (xs:=kdsL.map V.str) (N/6) (n:=4) rfl (by decide)
    obtain⟨kd,_,rfl⟩:=List.mem_map.mp hkv
    refine⟨_,_,.inl (SqL.of Aa),ekv,?_⟩
    show Ae _ _ _ _ (upd H2 q1 (.lst (kdsL.map V.str)))
    generalize upd H2 q1 (.lst (kdsL.map V.str))=H3 at S3 ⊢
    have ed3:=S3 _ _ ed2
    refine⟨cd8,λb1 hb1=>?_⟩
    have S4:=Same.upd (o:=.lst [.str ""]) hb1
    have e4:upd H3 b1 (.lst [.str ""]) b1=some (.lst [.str ""]):=Aa
    generalize upd H3 b1 (.lst [.str ""])=H4 at S4 e4 ⊢
    have ed4:=S4 _ _ ed3
    have he4:∀e∈es,RcAt H4 e.2 e.1.2/\okC e.1.2.c:=λe h=>⟨(he2 e h).1.up (NL.same (S3.trans S4)).tup,(he2 e h).2⟩
    have nde:(es.map (·.1.1)).Nodup:=nd.sublist (sub.trans (eh _ _))
    refine .inr (.inr (.inl (.inl ⟨_,ed4,λo L hL=>?_⟩)))
    have ef:upd H4 d (.frz o (.dK (es.map kT))) d=some (.frz o (.dK (es.map kT))):=Aa
    have tf:=Ij (o:=.frz o (.dK (es.map kT))) (.inl ed4)
    have e4f:upd H4 d (.frz o (.dK (es.map kT))) b1=some (.lst [.str ""]):=by rw[Ad λz=>by rw[z,ed4] at e4;cases e4];exact e4
    have th:∀H',Same (upd H4 d (.frz o (.dK (es.map kT)))) H'->Same H4 (upd H' d (.dK (es.map kT))):=λH' S=>Same.thaw ed4 S
    generalize upd H4 d (.frz o (.dK (es.map kT)))=Hf at ef tf e4f th hL ⊢
    refine Dg (Eh (es.map kT)) (λi σ' H'=>(∃v,σ'=[v,some (.ref d)])/\Same Hf H'/\∃ps,H' L=some (Ay ps)/\ps.length<=i/\∀z∈ps,z∈es.map (·.1.1)) ⟨⟨_,rfl⟩,Same.upd hL,[],Aa,af _,λz h=>by cases h⟩ (λ_ _ H' _ q=>q.2.1 _ _ ef) ?_ ?_
    .rintro j x σ' H5 hx ⟨⟨vv,rfl⟩,S5,ps,eL,lp,hps⟩
     rw[au] at hx
     obtain⟨e,hj,rfl⟩:=Ak hx
     obtain⟨cv,er,_⟩:=(he4 e (ah hj)).1
     have jl:=Aj hj
     have sl:=sub.length_le
     rw[ae,aF] at sl
     refine⟨.ref e.2,.inl ⟨_,.inr e.1.1,.inr ⟨o,S5 _ _ ef⟩,rfl,(Fj nde hj).symm⟩,_,_,.inr (SqT.of (S5 _ _ (tf _ _ er))),rfl,Hh (λ_=>?_) (λ_=>?_)⟩
     .exact⟨_,eL,by rw[ae];omega,⟨_,rfl⟩,S5.set hL,ps++[e.1.1],by rw[Aa,Ay,aw];rfl,by rw[aG];exact bJ lp,λz hz=>(List.mem_append.mp hz).elim (hps z) λh=>by rw[List.mem_singleton.mp h];exact List.mem_map.mpr ⟨e,ah hj,rfl⟩⟩
     .exact⟨⟨_,rfl⟩,S5,ps,eL,eo lp,hps⟩
    .rintro σ' H5 ⟨_,S5,ps,eL,lp,hps⟩
     rw[ae,ae] at lp
     have sl:=sub.length_le
     rw[ae,aF] at sl
     refine .inl ⟨b1,L,_,_,rfl,rfl,S5 _ _ e4f,eL,by rw[ae,bW];omega,λM hM=>?_⟩
     have S6:=S5.trans (Same.upd (o:=.lst ([.str ""]++ps.map V.str)) hM)
     have eM:upd H5 M (.lst ([.str ""]++ps.map V.str)) M=some (Ay (("" : Str)::ps)):=Aa
     generalize upd H5 M (.lst ([.str ""]++ps.map V.str))=H6 at S6 eM ⊢
     refine .inr ⟨d,o,_,ed3,S6 _ _ ef,?_⟩
     have S7:=S4.trans (th _ S6)
     have eM7:upd H6 d (.dK (es.map kT)) M=some (Ay (("" : Str)::ps)):=by rw[Ad λz=>by rw[z,S6 _ _ ef] at eM;cases eM];exact eM
     generalize upd H6 d (.dK (es.map kT))=H7 at S7 eM7 ⊢
     refine⟨⟨by decide,by decide,by decide⟩,⟨by decide,by decide⟩,by decide,ce1,λb2 hb2=>⟨⟨by decide,by decide⟩,by decide,?_⟩⟩
     obtain⟨v2,hv2,ev2⟩:=Ky (xs:=[(0:Int),1,10^lT 9,N/96%1000].map V.int) (N/24) (n:=4) rfl (by simp)
     obtain⟨rk,_,rfl⟩:=List.mem_map.mp hv2
     refine⟨_,_,.inl (SqL.of Aa),ev2,?_⟩
     have S8:=Same.upd (o:=.lst ([(0:Int),1,10^lT 9,N/96%1000].map V.int)) hb2
     show Ae _ _ _ _ (upd H7 b2 (.lst ([(0:Int),1,10^lT 9,N/96%1000].map V.int)))
     generalize upd H7 b2 (.lst ([(0:Int),1,10^lT 9,N/96%1000].map V.int))=H8 at S8 ⊢
     obtain⟨v3,hv3,ev3⟩:=Ky (xs:=(("" : Str)::ps).map V.str) (N/384) rfl (by simp)
     obtain⟨pr,hpr,rfl⟩:=List.mem_map.mp hv3
     have eM8:=S8 _ _ eM7
     refine⟨⟨by decide,by decide⟩,.inl ⟨_,.inl (SqL.of eM8),by rw[ae,aP];omega,_,_,.inl (SqL.of eM8),ev3,?_⟩⟩
     refine⟨⟨by decide,by decide⟩,kd,N/96,rfl,λH9 x vv S9 tk dp=>⟨ce1,λT2 hT2=>?_⟩⟩
     have S10:=S9.trans (Same.upd (o:=.tup [.str kd,.str pr,.int rk,vv]) hT2)
     have eT:upd H9 T2 (.tup [.str kd,.str pr,.int rk,vv]) T2=some (.tup [.str kd,.str pr,.int rk,vv]):=Aa
     have tk2:=tk.up (NL.same (Same.upd (o:=.tup [.str kd,.str pr,.int rk,vv]) hT2)).tup
     generalize upd H9 T2 (.tup [.str kd,.str pr,.int rk,vv])=H10 at S10 eT tk2 ⊢
     have S310:=S7.trans (S8.trans S10)
     have ed10:=S310 _ _ ed3
     have nn:¬ n∈es.map (·.1.1):=λz=>Eb nd hn (sub.subset z)
     refine⟨_,DPut.k (k:=.inr n) ed10 (by rw[ae];omega),?_⟩
     rw[Kh (e:=(n,⟨kd,pr,rk,x⟩)) nn]
     have tu:=Ij (o:=.dK ((es++[((n,(⟨kd,pr,rk,x⟩:Rc)),T2)]).map kT)) (.inl ed10)
     refine⟨⟨_,_,_,_,_,_,rfl⟩,(S2.trans (S3.trans S310)).set hd0,_,Aa,λe h=>?_,?_,?_⟩
     .rcases List.mem_append.mp h with h|h
      .exact⟨((he2 e h).1.up (NL.same (S3.trans S310)).tup).up tu,(he2 e h).2⟩
      .obtain rfl:e=((n,(⟨kd,pr,rk,x⟩:Rc)),T2):=by simpa using h
       exact⟨RcAt.up (x:=⟨kd,pr,rk,x⟩) tu ⟨vv,eT,tk2⟩,dp⟩
     .rw[aw,aN,hn]
      exact sub.append (d_ _)
     .rw[aw]
      have em:(es.map (·.1)).map (·.1)=es.map (·.1.1):=by rw[au];rfl
      exact up.push (x:=⟨kd,pr,rk,x⟩) (by rw[em];exact nn) (nz n (ah hn)) ((List.mem_cons.mp hpr).imp id λq=>by rw[em];exact hps pr q) (by rw[em];exact nde)
  .rintro σ H1 ⟨⟨v4,v5,v6,v7,v8,v9,rfl⟩,S1,es,ed,he,sub,up⟩
   have sub2:=sub.trans (eh _ ws)
   have e1:(es.map (·.1)).map (·.1)=es.map (·.1.1):=by rw[au];rfl
   have sl:=sub2.length_le
   rw[ae] at sl
   refine .inl (k H1 d (es.map (·.1)) S1 ⟨es,rfl,⟨trivial,ed⟩,λe h=>(he e h).1⟩ ⟨by rw[e1];exact nd.sublist sub2,by rw[ae];omega,λx hx=>?_⟩ up)
   obtain⟨e,h,rfl⟩:=List.mem_map.mp hx
   exact(he e h).2
def TrAt.nl{H H':Hp}{d:Addr}{T:Tr}(h:TrAt any H d T)(S:NL H H'):TrAt any H' d T:=let⟨es,e,⟨_,o⟩,q⟩:=h;⟨es,e,⟨trivial,S _ _ (λ_ z=>by cases z) o⟩,λx hx=>(q x hx).up S.tup⟩
theorem Yu{α:Type}{P:α->Addr->Prop}:∀{vs:List V},(∀v∈vs,∃d T,v=.ref d/\P T d) -> ∃es:List (α×Addr),vs=es.map (λe=>.ref e.2)/\∀e∈es,P e.1 e.2
 |[],_=>⟨[],rfl,λe h=>by cases h⟩
 | v::vs,h=>by
  obtain⟨es,rfl,q⟩:=Yu λu hu=>h u (aA _ hu)
  obtain⟨d,T,rfl,p⟩:=h v aD
  refine⟨(T,d)::es,rfl,λe he=>?_⟩
  rcases List.mem_cons.mp he with rfl|he
  .exact p
  .exact q e he
def Pk(g:Nat->Addr)(ns:List Nat):(ns.map (kF g)).map (·.1)=ns.map λn:Nat=>(.inl (n:Int):Key):=by rw[au];rfl
def bf1{g:Nat->Addr}{ns:List Nat}{n:Nat}(h:¬ n∈ns):Bg (ns.map (kF g)) (.inl (n:Int))=none:=by
 refine Cq λq=>h ?_
 rw[Pk] at q
 obtain⟨m,hm,e⟩:=List.mem_map.mp q
 injection e with e
 have:m=n:=by omega
 exact this▸hm
def ao4(b:Bool)(x y:V):atI [x,y] (if b=true then 1 else 0)=some (if b=true then y else x):=by cases b <;> rfl
def bk6(Z:Am K t):OkD K af6 (Ax K t) bl (t.f 14) (t.d 14) (Wm K t):=by
 refine A0 (b61 K t) λvs H Q E h=>?_
 .obtain⟨a,ns,b,rfl,hS,k⟩:=h;refine⟨rfl,?_⟩
  have big:=ce2
  refine⟨a,ns,0,rfl,hS,⟨by decide,by decide⟩,cd9,λq hq=>⟨_,_,.inl (SqL.of Aa),ao4 b _ _,?_⟩⟩
  have S1:=Same.upd (o:=.lst [.int 24,.int 256]) hq
  generalize upd H q (.lst [.int 24,.int 256])=H1 at S1 ⊢
  refine⟨Ci ns 0/8,if b=true then 256 else 24,by cases b <;> rfl,by cases b <;> decide,by cases b <;> decide,λH2 W sw ζ l kk f S2 hW=>?_⟩
  have S02:=S1.trans S2
  refine⟨a,ns,1,rfl,S02.seqL hS,a,ns,2,rfl,S02.seqL hS,cd9,λq2 hq2=>⟨_,_,.inl (SqL.of Aa),ao4 b _ _,?_⟩⟩
  have S3:=Same.upd (o:=.lst [.int 8,.int 3]) hq2
  generalize upd H2 q2 (.lst [.int 8,.int 3])=H3 at S3 ⊢
  obtain⟨m2,lm2,em2⟩:∃m:Nat,(1<=m/\m<=8)/\1+Ci ns 2%(if b=true then 3 else 8)=(m:Int):=by
   cases b
   .exact⟨(1+Ci ns 2%8).toNat,by omega,by show 1+Ci ns 2%8=_;omega⟩
   .exact⟨(1+Ci ns 2%3).toNat,by omega,by show 1+Ci ns 2%3=_;omega⟩
  have ev:(if b=true then V.int 3 else V.int 8)=V.int (if b=true then 3 else 8):=by cases b <;> rfl
  rw[ev]
  refine⟨by cases b <;> decide,Ci ns 1,m2,by rw[<- em2];rfl,lm2.2,λH4 nm ws S4 enm lws ndw z12=>?_⟩
  have S04:=S02.trans (S3.trans S4)
  refine⟨a,ns,2,rfl,S04.seqL hS,⟨by decide,by decide⟩,by decide,⟨by omega,by omega⟩,?_⟩
  obtain⟨m4,l4,em4⟩:∃m:Nat,(1<=m/\m<=4)/\1+Ci ns 2/8%4=(m:Int):=⟨(1+Ci ns 2/8%4).toNat,by omega,by omega⟩
  have em5:(1+Ci ns 2/8%4).toNat=m4:=by omega
  refine G3 (P:=λ_ v H'=>∃d T,v=.ref d/\TrAt any H' d T/\Ba T/\Up T) (λ_ _ _ _ S ⟨d,T,e,h,o⟩=>⟨d,T,e,h.nl S,o⟩) (B3 0 (1+Ci ns 2/8%4).toNat) (λ_ _=>aZ) (by rw[Bc];omega) (λj x H5 Q1 hj S5 q=>?_) λD H5 vs S5 hD eD lv hv=>?_
  .obtain⟨hj,rfl⟩:=Di hj
   exact⟨a,ns,3,rfl,(S04.trans S5).seqL hS,Ci ns 3,j,nm,ws,rfl,S5 _ _ enm,ndw,by omega,λz hz=>(z12 z hz).2,λH6 d T S6 hT okT up=>q _ H6 S6 ⟨d,T,rfl,hT,okT,up⟩⟩
  rw[Bc,em5] at lv
  obtain⟨es,rfl,he⟩:=Yu λv hm=>by
   obtain⟨j,hj⟩:=List.mem_iff_getElem?.mp hm
   exact hv j v hj
  rw[ae] at lv
  have hW5:=hW
  have S25:=S3.trans (S4.trans S5)
  intro F hF
  refine .inl ⟨_,_,.inl (SqL.of ((S25.trans (Same.upd hF)) _ _ hW.at_)),rfl,.inl ⟨⟨_,SqL.of ((S25.trans (Same.upd hF)) _ _ hW.fr)⟩,?_⟩⟩
  have S6:=Same.upd (o:=.dK []) hF
  have e6:upd H5 F (.dK []) F=some (.dK (([]:List Nat).map (kF λ_=>0))):=Aa
  generalize upd H5 F (.dK [])=H6 at S6 e6 ⊢
  have d0:=es[0]'(by omega)
  have asc:=Ha sw ζ
  have ndf:(An sw ζ).Nodup:=asc.imp λh=>aQ h
  have le256:(An sw ζ).length<=256:=by
   have:=bQ (λn=>!Gc sw ζ n) (aV (Al sw).length)
   rw[bg] at this
   exact aT this hW.ok.len
  refine A5 (Az ((An sw ζ).map λn:Nat=>V.int (n:Int))) (λi σ H'=>(∃v7,σ=[some (.ref a),some (.bl b),some (.ref W),some (.ref nm),some (.int (1+Ci ns 2/8%4)),some (.ref D),some (.ref F),v7])/\Same H5 H'/\∃u:Nat->Nat,(∀n∈(An sw ζ).take i,u n<es.length)/\H' F=some (.dK (((An sw ζ).take i).map (kF λn=>(es.getD (u n) d0).2))))
   ⟨⟨_,rfl⟩,S6,λ_=>0,(λn hn=>by cases hn),e6⟩ (λ_ _ H' _ q=>(S25.trans q.2.1).seqL (SqL.of hW.fr)) ?_ ?_
  .rintro i x σ H7 hx ⟨⟨v7,rfl⟩,S7,u,hu,eF⟩
   obtain⟨n,hn,rfl⟩:=Ak hx
   have S27:=S25.trans S7
   have S07:=S04.trans (S5.trans S7)
   refine⟨a,ns,4,rfl,S07.seqL hS,_,_,.inl (SqL.of (S27 _ _ hW.at_)),rfl,Ci ns 4,l,sw,n,m4,by rw[<- em4];rfl,hW.sws.mono (Kp.same S27),hW.ok,l4.1,λH8 v S8 hv2=>?_⟩
   have S78:=S7.trans S8
   have hv3:v<es.length:=by omega
   refine⟨_,_,.inl (SqL.of (S78 _ _ eD)),B5 (j:=v) (by rw[ao,ak hv3];rfl),.inr ⟨_,DPut.k (k:=.inl (n:Int)) (S8 _ _ eF) ?_,?_⟩⟩
   .rw[ae,aF];omega
   have nn:¬ n∈(An sw ζ).take i:=Eb ndf hn
   rw[Er _ (bf1 nn)]
   refine⟨⟨_,rfl⟩,S78.set hF,λm=>if m=n then v else u m,λm hm=>?_,?_⟩
   .show (if m=n then v else u m)<_
    rw[aN,hn] at hm
    rcases List.mem_append.mp hm with hm|hm
    .rw[if_neg (λz:m=n=>nn (z▸hm))];exact hu m hm
    .obtain rfl:m=n:=by simpa using hm
     rw[if_pos rfl];exact hv3
   .rw[Aa,Cc hn]
    congr 3
    .refine bu λm hm=>?_
     show(_,V.ref (es.getD (u m) d0).2)=(_,V.ref (es.getD (if m=n then v else u m) d0).2)
     rw[if_neg (λz:m=n=>nn (z▸hm))]
    .show [((.inl (n:Int):Key),V.ref es[v].2)]=[(_,V.ref (es.getD (if n=n then v else u n) d0).2)]
     rw[if_pos rfl,az,ak hv3];rfl
  .rintro σ H7 ⟨⟨v7,rfl⟩,S7,u,hu,eF⟩
   rw[ae,aI] at hu eF
   refine .inl ⟨ce0,λL hL=>?_⟩
   have S8:=Same.upd (o:=.lst [.ref W,.ref nm,.ref F]) hL
   have S28:=S25.trans (S7.trans S8)
   have gd:∀n∈An sw ζ,es.getD (u n) d0∈es:=λn hn=>by rw[az,ak (hu n hn)];exact cS (hu n hn)
   refine k _ L W nm F sw ζ l kk f ws (λn=>(es.getD (u n) d0).2) (λn=>(es.getD (u n) d0).1) (S04.trans (S5.trans (S7.trans S8))) Aa ((S5.trans (S7.trans S8)) _ _ enm) ⟨by omega,by omega,z12⟩ ⟨S28 _ _ hW.at_,hW.sws.mono (Kp.same S28),hW.ok,hW.rl.mono (Kp.same S28),hW.rok,hW.few,S28 _ _ hW.fr,hW.ne⟩ ⟨S8 _ _ eF,λn hn=>?_,es.map (·.1),by rw[ae];omega,λn hn=>?_⟩ (λn hn=>?_) ⟨es.map (·.1),by rw[ae];omega,λn hn=>aL (gd n hn)⟩
   .exact⟨(he _ (gd n hn)).1.nl (NL.same (S7.trans S8)),(he _ (gd n hn)).2.1⟩
   .exact aL (gd n hn)
   .exact (he _ (gd n hn)).2.2
def by2(Z:Am K t):OkD K ax3 (Ax K t) bl (t.m_zce 1) (t.e_zce 1) (at7 K t):=by
 refine A0 (cc9 K t) λvs H Q E h=>?_
 .obtain⟨p,sw,ζ,rfl,⟨dx,d,l,n,s,kk,b,hp⟩,k⟩:=h;refine⟨rfl,?_⟩
  exact⟨_,_,_,_,hp.ins.2,Z.pf.cl,(Z.pf.na _ (by simp)),rfl,k⟩
def bi2(Z:Am K t):OkD K D_zap (Ax K t) bl t.f_zap t.d_zap (ar9 K t):=by
 refine A0 (b36 K t) λvs H Q E h=>?_
 .obtain⟨a,dx,rfl,e,k⟩:=h;refine⟨rfl,?_⟩
  intro d hd
  have ne:a≠d:=λz=>by rw[z,hd] at e;cases e
  exact .inl ⟨t.c_zcf,dx,[],by rw[Ad ne];exact e,Z.pc,Z.pr,by decide,k d hd ne.symm⟩
def bj0(Z:Am K t):OkD K Xg (Ax K t) bl (t.m_zcf 5) (t.e_zcf 5) (Wc K t):=by
 refine A0 (b46 K t) λvs H Q E h=>?_
 .obtain⟨p,dx,d,kvs,n,kd,q,r,v,rfl,e,ed,hl,k⟩:=h;refine⟨rfl,?_⟩
  refine⟨ce1,λa ha=>?_⟩
  have n1:p≠a:=λz=>by rw[z,ha] at e;cases e
  have n2:d≠a:=λz=>by rw[z,ha] at ed;cases ed
  exact⟨_,_,_,.ref d,(by rw[Ad n1];exact e),Z.pc,Z.pr,rfl,⟨_,DPut.k (k:=.inr n) (by rw[Ad n2];exact ed) (be hl (by decide)),k a ha⟩⟩
def an4(Z:Am K t):OkD K W4 (Ax K t) bl (t.m_zcf 6) (t.e_zcf 6) (Vu K t):=by
 refine A0 (b24 K t) λvs H Q E h=>?_
 .obtain⟨p,T,rfl,⟨dx,d,⟨_,e⟩,es,et,⟨_,ed⟩,_⟩,o,k⟩:=h;refine⟨rfl,?_⟩
  have ek:(es.map kT).map (·.1)=(T.map (·.1)).map (cV:Str->Key):=by rw[Hk,<- et,au];simp[au,Function.comp_def]
  have l8:(T.map (·.1)).length<=8:=by rw[ae];exact o.2.1
  have nd:=o.1
  generalize T.map (·.1)=zs at ek k l8 nd
  exact⟨_,_,_,.ref d,e,Z.pc,Z.pr,rfl,.inr ⟨rfl,.inl ⟨d,zs,rfl,.inr ⟨_,.inl ed,ek⟩,nd,by omega,k⟩⟩⟩
theorem TrAt.up(h:TrAt ok H d T)(S:Same H H'):TrAt ok H' d T:=let⟨es,e,⟨q,o⟩,z⟩:=h;⟨es,e,⟨q,S _ _ o⟩,λx hx=>(z x hx).up (NL.same S).tup⟩
theorem PlAt.up(h:PlAt C ok H p T)(S:Same H H'):PlAt C ok H' p T:=let⟨dx,d,⟨q,o⟩,z⟩:=h;⟨dx,d,⟨q,S _ _ o⟩,z.up S⟩
def am9(ha:H a=none)(hdx:H dx=none)(ne:dx≠a)(hd0:upd (upd H dx (.own a)) a (.ins C dx []) d0=none) :
  H d0=none/\Same H (upd (upd (upd (upd H dx (.own a)) a (.ins C dx [])) d0 (.dK [])) a (.ins C dx [("records", .ref d0)]))/\upd (upd (upd (upd H dx (.own a)) a (.ins C dx [])) d0 (.dK [])) a (.ins C dx [("records", .ref d0)]) d0=some (.dK []):=by
 have n1:d0≠a:=λc=>by rw[c,Aa] at hd0;cases hd0
 have n2:d0≠dx:=λc=>by rw[c,Ad ne,Aa] at hd0;cases hd0
 have hd1:H d0=none:=by rw[Ad n1,Ad n2] at hd0;exact hd0
 exact⟨hd1,(((Same.upd hdx).set ha).set hd1).set ha,by rw[Ad n1,Aa]⟩
def by6(Z:Am K t):OkD K ax8 (Ax K t) bl (t.m_zcf 3) (t.e_zcf 3) (au3 K t):=by
 refine A0 (cd5 K t) λvs H Q E h=>?_
 .obtain⟨p,T,rfl,hP,k⟩:=h;refine⟨rfl,?_⟩
  intro a dx ha hdx ne
  refine⟨a,dx,rfl,Aa,λd0 hd0 _=>⟨rfl,?_⟩⟩
  obtain⟨_,S1,_⟩:=am9 ha hdx ne hd0
  have ea:upd (upd (upd (upd H dx (.own a)) a (.ins t.c_zcf dx [])) d0 (.dK [])) a (.ins t.c_zcf dx [("records", .ref d0)]) a=some (.ins t.c_zcf dx [("records", .ref d0)]):=Aa
  generalize upd (upd (upd (upd H dx (.own a)) a (.ins t.c_zcf dx [])) d0 (.dK [])) a (.ins t.c_zcf dx [("records", .ref d0)])=H1 at S1 ea ⊢
  obtain⟨dx1,d,⟨_,e1⟩,es,et,⟨_,ed⟩,he⟩:=hP.up S1
  refine⟨_,_,_,.ref d,e1,Z.pc,Z.pr,rfl,⟨d,_,rfl,.inl ed,λq hq=>?_⟩⟩
  have S2:=Same.upd (o:=.dK (es.map kT)) hq
  have eq:upd H1 q (.dK (es.map kT)) q=some (.dK (es.map kT)):=Aa
  have he2:∀e∈es,RcAt (upd H1 q (.dK (es.map kT))) e.2 e.1.2:=λe h=>(he e h).up (NL.same S2).tup
  generalize upd H1 q (.dK (es.map kT))=H2 at S2 eq he2 ⊢
  have ea2:=S2 _ _ ea
  refine⟨_,_,_,ea2,Z.pc,Z.pr,(show 1<1000 by decide),k _ a ((S1.trans S2).set ha) ⟨dx,q,⟨trivial,Aa⟩,es,et,⟨trivial,by rw[Ad λz=>by rw[z,ea2] at eq;cases eq];exact eq⟩,λe h=>(he2 e h).up λb ys e=>?_⟩⟩
  rw[Ad λz=>by rw[z,ea2] at e;cases e];exact e
theorem au8:∀{zs:List Str}{vs:List V},vs.length=zs.length->(∀(i:Nat) v z,vs[i]?=some v->zs[i]?=some z->TkAt H (F z) v)->Au H (zs.map F) vs
 |[],[],_,_=>by rw[eU];unfold Au;rfl
 |[],_::_,h,_=>by cases h
 |_::_,[],h,_=>by cases h
 |z::zs,v::vs,h,g=>by rw[a7];unfold Au;exact⟨v,vs,rfl,g 0 v z rfl rfl,au8 (by simpa using h) λi v z h1 h2=>g (i+1) v z h1 h2⟩
def bx6(Z:Am K t):OkD K ax0 (Ax K t) bl (t.m_zcf 12) (t.e_zcf 12) (at1 K t):=by
 refine A0 (cc3 K t) λvs H Q E h=>?_
 .obtain⟨p,T,rfl,hP,o,k⟩:=h;refine⟨rfl,?_⟩
  have big:=ce2
  obtain⟨dx,d,⟨_,e⟩,es,et,⟨_,ed⟩,he⟩:=id hP
  have nde:(es.map (·.1.1)).Nodup:=by have:=o.1;rw[<- et,au] at this;exact this
  refine⟨p,dx,_,⟨t.c_zcf,X3 K t⟩,rfl,.head _,e,rfl,ce3,⟨p,T,rfl,hP,o,λl hl=>?_⟩⟩
  have S1:=Same.upd (o:=Ay (Bq ltS (T.map (·.1)))) hl
  have e1:upd H l (Ay (Bq ltS (T.map (·.1)))) l=some (Ay (Bq ltS (T.map (·.1)))):=Aa
  have pm:=Aw ltS (T.map (·.1))
  have hm:∀n∈Bq ltS (T.map (·.1)),n∈T.map (·.1):=λn hn=>pm.mem_iff.mp hn
  have lm:=pm.length_eq
  have hvk:vkT T=.tup ((Bq ltS (T.map (·.1))).map λn=>.tup [.at_ (.inr n),ab3 T n]):=rfl
  rw[hvk] at k
  rw[ae] at lm
  have l8:=o.2.1
  generalize Bq ltS (T.map (·.1))=zs at S1 e1 hm lm k ⊢
  refine .inl ⟨⟨_,SqL.of e1⟩,?_⟩
  generalize upd H l (Ay zs)=H1 at S1 e1 ⊢
  refine G3 (P:=λi v H'=>∀z,zs[i]?=some z->TkAt H' (.tup [.at_ (.inr z),ab3 T z]) v) (λi v _ _ S q z hz=>(q z hz).up S.tup) (Az (zs.map V.str)) (λH2 S2=>S2.seqL (SqL.of e1)) (by rw[ae];omega) (λi x H2 Q1 hx S2 q=>?_) λD H2 vs S2 hD eD lv hv=>?_
  .obtain⟨z,hz,rfl⟩:=Ak hx
   have S02:=S1.trans S2
   obtain⟨⟨z',x⟩,hx1,hx2⟩:=List.mem_map.mp (hm z (ah hz))
   obtain rfl:z'=z:=hx2
   rw[<- et] at hx1
   obtain⟨e',he',ee⟩:=List.mem_map.mp hx1
   obtain⟨j,hj⟩:=List.mem_iff_getElem?.mp he'
   have hv:=Fj nde hj
   have hr:=he e' he'
   rw[ee] at hv hr
   refine⟨_,_,_,.ref d,S02 _ _ e,Z.pc,Z.pr,rfl,⟨.ref e'.2,.inl ⟨_,.inr z',.inl (S02 _ _ ed),rfl,hv.symm⟩,cd9,λB hB=>q _ _ (Same.upd hB) λz2 hz2=>?_⟩⟩
   rw[hz] at hz2
   cases hz2
   have rt:=Vm (Ez o.1 (by rw[<- et];exact hx1))
   rw[rt]
   refine⟨B,_,rfl,Aa,?_⟩
   unfold Au;refine⟨_,_,rfl,by unfold TkAt;rfl,?_⟩
   unfold Au;refine⟨_,_,rfl,hr.tk.up (NL.same (S02.trans (Same.upd hB))).tup,?_⟩
   unfold Au;rfl
  .rw[ae] at lv
   refine⟨_,.inl ⟨SqL.of eD,λB hB=>k _ B (S1.trans (S2.trans (Same.upd hB))) ?_⟩⟩
   unfold TkAt
   exact⟨B,vs,rfl,Aa,au8 lv λi v z h1 h2=>(hv i v h1 z h2).up (NL.same (Same.upd hB)).tup⟩
def bc5(m n:Nat):decide (cD ((m:Int)/2^((n:Int)).toNat) 1=1)=m.testBit n:=by
 rw[bb,Fy,<- Int.natCast_ediv,show(1:Int)=((1:Nat):Int) from rfl,Ev,Nat.and_one_is_mod,Nat.testBit_eq_decide_div_mod_eq]
 exact decide_eq_decide.mpr (by omega)
def bl3(Z:Am K t):OkD K ag3 (Ax K t) bl (t.f 15) (t.d 15) (Ql K t):=by
 refine A0 (b68 K t) λvs H Q E h=>?_
 .obtain⟨c,n,rfl,k⟩:=h;refine⟨rfl,?_⟩
  rw[<- bc5] at k
  exact⟨by omega,k⟩
def Kz(c:Nat):Nat:=ib (c:Int)
def ay6(c:Nat):c<2^Kz c:=by
 have h:=(ke (m:=Kz c)).mp (af _)
 simpa using h
def ay5(h:c<2^m):Kz c<=m:=(ke).mpr (h)
def bg9(Z:Am K t):OkD K ad4 (Ax K t) bl (t.f 16) (t.d 16) (Vr K t):=by
 refine A0 (b21 K t) λvs H Q E h=>?_
 .obtain⟨c,o,rfl,ho,hc,k⟩:=h;refine⟨rfl,?_⟩
  have hbl:=ay5 hc
  refine⟨rfl,_,rfl,rfl,⟨by show -(2^62)<=((Kz c:Nat):Int);omega,by show((Kz c:Nat):Int)<2^62;omega⟩,?_⟩
  refine A5 (B3 0 (Kz c)) (λm σ H'=>(∃v,σ=[some (.int (c:Int)),v])/\H'=H/\∀n,o=some n->m<=n) ⟨⟨_,rfl⟩,rfl,λ_ _=>bw _⟩ (λ_ _ _ _ _=>aZ) ?_ ?_
  .rintro m x σ H1 hx ⟨⟨v,rfl⟩,rfl,no⟩
   obtain⟨hm,rfl⟩:=Di hx
   refine⟨c,m,rfl,?_⟩
   cases o with
   |none=>
    have ho:=ho
    have hz:c.testBit m=false:=by rw[ho];exact dP m
    rw[hz];exact⟨⟨_,rfl⟩,rfl,λ_ z=>by cases z⟩
   |some n=>
    obtain⟨hb,hn⟩:=ho
    rcases Nat.eq_or_lt_of_le (no n rfl) with rfl|h
    .rw[hb];exact k
    .rw[hn m h];exact⟨⟨_,rfl⟩,rfl,λ_ z=>by cases z;exact h⟩
  .rintro σ H1 ⟨⟨v,rfl⟩,rfl,no⟩
   rw[Bc] at no
   cases o with
   |none=>exact .inl k
   |some n=>
    obtain⟨hb,hn⟩:=ho
    rw[Nat.testBit_lt_two_pow (aR (ay6 c) (j_ (by decide) (no n rfl)))] at hb
    cases hb
def bj6(Z:Am K t):OkD K ae7 (Ax K t) bl (t.f 32) (t.d 32) (Qf K t):=by
 refine A0 (b51 K t) λvs H Q E h=>?_
 .obtain⟨d0,T,rfl,hT,oT,k⟩:=h;refine⟨rfl,?_⟩
  intro p dx hp0 hdx nep
  refine⟨p,dx,rfl,Aa,λd hd0 npd=>⟨rfl,?_⟩⟩
  obtain⟨hd,S1,e1d⟩:=am9 hp0 hdx nep hd0
  have e1p:upd (upd (upd (upd H dx (.own p)) p (.ins t.c_zcf dx [])) d (.dK [])) p (.ins t.c_zcf dx [("records", .ref d)]) p=some (.ins t.c_zcf dx [("records", .ref d)]):=Aa
  generalize upd (upd (upd (upd H dx (.own p)) p (.ins t.c_zcf dx [])) d (.dK [])) p (.ins t.c_zcf dx [("records", .ref d)])=H1 at S1 e1d e1p ⊢
  obtain⟨es,et,⟨_,ed⟩,he⟩:=hT.up S1
  have nde:(es.map (·.1.1)).Nodup:=by have:=oT.1;rw[<- et,au] at this;exact this
  have l8:=oT.2.1
  have le:es.length=T.length:=by rw[<- et,ae]
  have ndd:d≠d0:=λz=>by
   obtain⟨es2,_,⟨_,e2⟩,_⟩:=hT
   rw[<- z,hd] at e2;cases e2
  have npd0:p≠d0:=λz=>by rw[z,ed] at e1p;cases e1p
  refine .inr (.inr (.inl (.inl ⟨_,ed,λo=>?_⟩)))
  have ef:upd H1 d0 (.frz o (.dK (es.map kT))) d0=some (.frz o (.dK (es.map kT))):=Aa
  have tf:=Ij (o:=.frz o (.dK (es.map kT))) (.inl ed)
  have efd:upd H1 d0 (.frz o (.dK (es.map kT))) d=some (.dK []):=by rw[Ad ndd];exact e1d
  have efp:upd H1 d0 (.frz o (.dK (es.map kT))) p=some (.ins t.c_zcf dx [("records", .ref d)]):=by rw[Ad npd0];exact e1p
  have of:∀b u,b≠d0->H1 b=some u->upd H1 d0 (.frz o (.dK (es.map kT))) b=some u:=λb u nb e=>by rw[Ad nb];exact e
  generalize upd H1 d0 (.frz o (.dK (es.map kT)))=Hf at ef tf efd efp of ⊢
  refine A5 (Eh (es.map kT)) (λi σ H'=>(∃v2 v3 v4 v5 v6,σ=[some (.ref d0),some (.ref p),v2,v3,v4,v5,v6])/\(∀a u,a≠d->Hf a=some u->H' a=some u)/\∃fs,fs.map (·.1)=T.take i/\H' d=some (.dK (fs.map kT))/\∀e∈fs,RcAt H' e.2 e.1.2)
   ⟨⟨_,_,_,_,_,rfl⟩,(λ_ _ _ e=>e),[],rfl,efd,λe h=>by cases h⟩ (λ_ _ H' _ q=>q.2.1 _ _ ndd.symm ef) ?_ ?_
  .rintro i x σ H2 hx ⟨⟨v2,v3,v4,v5,v6,rfl⟩,B2,fs,ft,e2d,hf⟩
   rw[au] at hx
   obtain⟨e,hi,rfl⟩:=Ak hx
   have tt:∀b ys,H1 b=some (.tup ys)->H2 b=some (.tup ys):=λb ys q=>B2 _ _ (λz=>by rw[z,e1d] at q;cases q) (tf _ _ q)
   obtain⟨v,er,tk⟩:=(he e (ah hi)).up tt
   have hiT:T[i]?=some e.1:=by rw[<- et,ao,hi];rfl
   have nn:¬ e.1.1∈fs.map (·.1.1):=λz=>by
    have:e.1.1∈(T.take i).map (·.1):=by rw[<- ft,au];exact z
    rw[gC] at this
    exact Eb oT.1 (show(T.map (·.1))[i]?=some e.1.1 by rw[ao,hiT];rfl) this
   have lf:fs.length<=8:=by
    have:=congrArg b9 ft
    rw[ae,aF] at this
    omega
   refine⟨.ref e.2,.inl ⟨_,.inr e.1.1,.inr ⟨o,B2 _ _ ndd.symm ef⟩,rfl,(Fj nde hi).symm⟩,_,.inl (SqT.of er),rfl,?_⟩
   refine⟨p,dx,_,⟨t.c_zcf,a83 K t⟩,rfl,.head _,B2 _ _ (cj npd) efp,rfl,ce3,⟨p,dx,d,_,e.1.1,e.1.2.k,e.1.2.p,e.1.2.r,v,rfl,B2 _ _ (cj npd) efp,e2d,by rw[ae];exact lf,λa ha=>?_⟩⟩
   have nda:=Ai e2d ha
   have Sa:=Same.upd (o:=.tup [.str e.1.2.k,.str e.1.2.p,.int e.1.2.r,v]) ha
   have ea:upd H2 a (.tup [.str e.1.2.k,.str e.1.2.p,.int e.1.2.r,v]) a=some (.tup [.str e.1.2.k,.str e.1.2.p,.int e.1.2.r,v]):=Aa
   generalize upd H2 a (.tup [.str e.1.2.k,.str e.1.2.p,.int e.1.2.r,v])=H3 at Sa ea ⊢
   have tu:=Ij (o:=.dK ((fs++[(e.1,a)]).map kT)) (.inl (Sa _ _ e2d))
   rw[Kh nn]
   refine⟨⟨_,_,_,_,_,rfl⟩,λb u nb q=>by rw[Ad nb];exact Sa _ _ (B2 b u nb q),_,?_,Aa,λf hf2=>?_⟩
   .rw[aw,ft,aN,hiT];rfl
   .rcases List.mem_append.mp hf2 with h|h
    .exact ((hf f h).up (NL.same Sa).tup).up tu
    .obtain rfl:f=(e.1,a):=by simpa using h
     exact RcAt.up tu ⟨v,ea,tk.up (NL.same Sa).tup⟩
  .rintro σ H2 ⟨⟨v2,v3,v4,v5,v6,rfl⟩,B2,fs,ft,e2d,hf⟩
   rw[ae,ae,le,aI] at ft
   have e2f:=B2 _ _ ndd.symm ef
   refine .inr ⟨d0,o,_,ed,e2f,k _ p (λb u q=>?_) ⟨dx,d,⟨trivial,by rw[Ad npd0];exact B2 _ _ (cj npd) efp⟩,fs,ft,⟨trivial,by rw[Ad ndd];exact e2d⟩,λf h=>(hf f h).up (Ij (.inr ⟨o,e2f⟩))⟩⟩
   by_cases hb:b=d0
   .subst hb
    rw[Aa,<- ed,S1 _ _ q]
   .rw[Ad hb]
    exact B2 _ _ (λz=>by rw[z,hd] at q;cases q) (of _ _ hb (S1 _ _ q))
def Sx{α β:Type}{f:α->β}{xs ys:List β}(pm:xs.Perm ys):∀{rs:List α},rs.map f=ys -> ∃rs':List α,xs=rs'.map f/\rs'.Perm rs:=by
 induction pm with
 |nil=>exact λ{rs} h=>⟨[],rfl,by rw[List.map_eq_nil_iff.mp h]⟩
 |cons x _ ih=>
  intro rs h
  obtain⟨r,rs,rfl,rfl,h'⟩:=List.map_eq_cons_iff.mp h
  obtain⟨rs',e,p⟩:=ih h'
  exact⟨r::rs',by rw[e];rfl,p.cons r⟩
 |swap x y l=>
  intro rs h
  obtain⟨r,rs,rfl,rfl,h'⟩:=List.map_eq_cons_iff.mp h
  obtain⟨r2,rs,rfl,rfl,h2⟩:=List.map_eq_cons_iff.mp h'
  exact⟨r2::r::rs,by rw[<- h2];rfl,.swap ..⟩
 |trans _ _ ih1 ih2=>
  intro rs h
  obtain⟨r2,e2,p2⟩:=ih2 h
  obtain⟨r1,e1,p1⟩:=ih1 e2.symm
  exact⟨r1,e1,p1.trans p2⟩
def bk2(Z:Am K t):OkD K D_zbl (Ax K t) bl (t.f 17) (t.d 17) (Wk K t):=by
 intro P w mg base dV F T
 obtain⟨oc,od,kV,doc,pm,an,θ,ct,osl,ef,lk,hcd⟩:=F.ex
 have hl:(match (t.d 17).code with
  |.ref c=>dQ K c 299
  |_=>false)=true:=by
  have:=Z.lam
  unfold Lg at this
  rw[lk] at this
  exact this
 obtain⟨c,hcode,hc⟩:∃c,(t.d 17).code=.ref c/\dQ K c 299=true:=by
  cases e:(t.d 17).code with
  |ref c=>rw[e] at hl;exact⟨c,rfl,hl⟩
  |_=>rw[e] at hl;cases hl
 have T5:=T 5 (by decide)
 have T2:=T 2 (by decide)
 obtain⟨hb1,hb2⟩:=T5.1 "__builtins__" (.val (.ref 4) (t.u 0)) (List.mem_filterMap.mpr ⟨⟨0,"__builtins__", .val (.ref 4) (t.u 0)⟩,aE _ (bo _ aD),rfl⟩)
 have hbm:mg "__builtins__"=some (.ref 4):=by rw[hb1];exact congrArg some hb2
 refine be0 (m:=40) (n:=40) (N:=D_zbl.N) (N':=["pair"]) (dl:=b57 K t) (da:=Ab 0) F (ScOk.fn (by decide +kernel)) (by decide +kernel) T5 T2 rfl (by decide +kernel) (T5.2 _ (by decide)) rfl hcode hc hbm (λ_=>rfl) (λ_=>rfl) (ScOk.fn (by decide +kernel)) (by decide +kernel) rfl (λ_ _ _ _ _=>rfl) (by kernel_rfl) (by kernel_rfl) (λvs H Q E h=>?_) (λvs H Q E h=>?_)
 .obtain⟨b,rs,rfl,_⟩:=h;rfl
 .obtain⟨b,rs,rfl,⟨tb,ob,u,hB,b1,b2,b3⟩,eb,l64,dj,one,k⟩:=h
  obtain⟨lk,hk⟩:∃lk:Nat->Nat,∀r∈rs,r.1.testBit (lk r.1)=true/\∀j,j<lk r.1->r.1.testBit j=false:=by
   have:∀m:Nat,∃n,m≠0->m.testBit n=true/\∀j,j<n->m.testBit j=false:=λm=>by
    by_cases h:m=0
    .exact⟨0,λz=>absurd h z⟩
    .obtain⟨i,hi⟩:=fm h
     have:∀n,(∃i,i<n/\m.testBit i=true) -> ∃n,m.testBit n=true/\∀j,j<n->m.testBit j=false:=λn=>by
      induction n with
      |zero=>rintro⟨i,h,_⟩;omega
      |succ n ih=>
       rintro⟨i,hi,e⟩
       by_cases c:∃i,i<n/\m.testBit i=true
       .exact ih c
       .refine⟨i,e,λj hj=>?_⟩
        rw[Bool.eq_false_iff]
        exact λz=>c ⟨j,by omega,z⟩
     obtain⟨n,q⟩:=this (i+1) ⟨i,by omega,hi⟩
     exact⟨n,λ_=>q⟩
   exact⟨λm=>(this m).choose,λr hr=>(this r.1).choose_spec (one r hr).2.1⟩
  have e2:(rs.map λr=>(((lk r.1:Nat):Int),V.ref r.2.2)).map (·.2)=rs.map λr=>V.ref r.2.2:=by rw[au];rfl
  have ni:∀{a o},H a=some (.tup o)->a≠299:=λ{a o} h z=>by rcases tb with tb|⟨_,tb,_⟩ <;> (rw[z,tb] at h;cases h)
  refine⟨.ref b,rfl,b,ob,u,rs.map λr=>(((lk r.1:Nat):Int),V.ref r.2.2),rfl,by rw[e2];exact SqL.of eb,by rw[ae];exact l64,?_,tb,hB,⟨b1,b2,b3⟩,λd hd H3 O3=>?_,λH' D ds' O tb' pm pw e=>?_⟩
  .rw[au]
   exact List.pairwise_map.mpr (dj.imp_of_mem λ{x y} hx hy h z=>h (lk x.1) ⟨(hk x hx).1,(show lk x.1=lk y.1 by have z:((lk x.1:Nat):Int)=lk y.1:=z;omega)▸(hk y hy).1⟩)
  .obtain⟨r,hr,rfl⟩:=List.mem_map.mp hd
   obtain⟨h1,h2,h4⟩:=one r hr
   exact⟨_,_,.inr (SqT.of (O3 _ _ (ni h1) h1)),rfl,r.1,some (lk r.1),rfl,hk r hr,h4,rfl,Same.refl _⟩
  .obtain⟨rs',rfl,pm'⟩:=Sx pm rfl
   have S4:St0 H':=⟨tb',ob,u,O _ _ (λz=>by rcases tb with tb|⟨_,tb,_⟩ <;> (rw[z,tb] at hB;cases hB)) hB,b1,b2,b3⟩
   refine k H' D rs' O S4 pm' ?_ (by rw[e,au];rfl)
   rw[au] at pw
   exact(List.pairwise_map.mp pw).imp_of_mem λ{x y} hx hy h=>⟨lk x.1,(hk x (pm'.mem_iff.mp hx)).1,λj hj=>(hk y (pm'.mem_iff.mp hy)).2 j (by have h:((lk x.1:Nat):Int)<lk y.1:=h;omega)⟩
def ah8{p:Addr}{o:Obj}{kvs:List (TK×V)}{g:DG}{tc:DT}{te:DE}{L:Addr}{R:Hp->Prop}{σ:St}{H:Hp}{E:EK}(Pv:Nat->St->Hp->Prop)(h0:Pv 0 σ H)(hok:∀i σ H,Pv i σ H->H p=some (.frz o (.dT kvs)))(hs:∀i k v u σ H,kvs[i]?=some (k,v)->Ap k<=8/\TkAt H k u->Pv i σ H->g u σ H λσ3 H3=>tc σ3 H3 (λb H4=>if b=true then te σ3 H4 (λv H5=>∃ys,H5 L=some (.lst ys)/\ys.length<sizeLine/\Pv (i+1) σ3 (upd H5 L (.lst (ys++[v])))) E else Pv (i+1) σ3 H4) E)(hd:∀ σ H,Pv kvs.length σ H->R H):Fc (ay0 p o kvs) g tc te L R σ H E:=by
 refine⟨λi m σ H=>m=kvs.length-i/\i<=kvs.length/\Pv i σ H,⟨kvs.length,by simp,bw _,h0⟩,?_⟩
 rintro i m σ H ⟨rfl,hi,q⟩
 by_cases hlt:i<kvs.length
 .refine .inr ⟨⟨hok i σ H q,hlt⟩,Pv (i+1),λσ' H' p'=>⟨kvs.length-(i+1),by omega,rfl,hlt,p'⟩,λx H' y=>?_⟩
  obtain⟨rfl,k,v,h1,h2,h3⟩:=y
  exact hs i k v x σ _ h1 ⟨h2,h3⟩ q
 .have e:i=kvs.length:=by omega
  subst e
  exact .inl ⟨⟨hok _ σ H q,af _⟩,hd σ H q⟩
abbrev gK(g:Mk):TK×V:=(g.1,.int (g.2:Int))
def Hb(gs:List Mk):(gs.map gK).map (·.1)=gs.map (·.1):=by rw[au];rfl
def any_mem{κ:Type} [DecidableEq κ]{kvs:List (κ×V)}{k:κ}:(kvs.any λkv=>decide (kv.1=k))=true↔k∈kvs.map (·.1):=by
 rw[dM,aq]
 exact⟨fun⟨x,h,e⟩=>⟨x,h,of_decide_eq_true e⟩,fun⟨x,h,e⟩=>⟨x,h,decide_eq_true e⟩⟩
def Oc{κ:Type} [DecidableEq κ](kvs:List (κ×V))(k:κ)(v:V):(Bt kvs k v).map (·.1)=if k∈kvs.map (·.1) then kvs.map (·.1) else kvs.map (·.1)++[k]:=by
 unfold Bt
 by_cases h:k∈kvs.map (·.1)
 .rw[if_pos (any_mem.mpr h),if_pos h,au]
  exact bu λkv _=>by show(if _ then _ else _:κ×V).1=_;split <;> rfl
 .rw[if_neg (λz=>h (any_mem.mp z)),if_neg h,aw];rfl
def ap2{κ:Type} [DecidableEq κ]{kvs:List (κ×V)}{k:κ}{v:V}{x:κ×V}(h:x∈Bt kvs k v):x∈kvs\/(x.1=k/\x.2=v):=by
 unfold Bt at h
 split at h
 .obtain⟨y,hy,rfl⟩:=List.mem_map.mp h
  split
  .exact .inr ⟨‹_›,rfl⟩
  .exact .inl hy
 .rcases List.mem_append.mp h with h|h
  .exact .inl h
  .obtain rfl:x=(k,v):=by simpa using h
   exact .inr ⟨rfl,rfl⟩
def Yj{gs:List Mk}(k:TK)(m:Nat)(h:(gs.map (·.1)).Nodup):∃old:Nat,(Bg (gs.map gK) k).getD (.int 0)=.int (old:Int)/\Bt (gs.map gK) k (.int ((old ||| m:Nat):Int))=(Lr gs (k,m)).map gK:=by
 have nd:((gs.map gK).map (·.1)).Nodup:=by rw[Hb];exact h
 by_cases hk:k∈gs.map (·.1)
 .obtain⟨g,hg,rfl⟩:=List.mem_map.mp hk
  obtain⟨j,hj⟩:=List.mem_iff_getElem?.mp hg
  refine⟨g.2,by rw[Bo nd (by rw[ao,hj];rfl)];rfl,?_⟩
  unfold Bt Lr
  rw[if_pos (any_mem.mpr (by rw[Hb];exact hk)),if_pos hk,au,au]
  refine bu λg' hg'=>?_
  show(if g'.1=g.1 then(g'.1,V.int ((g.2 ||| m:Nat):Int)) else gK g')=gK (if g'.1=g.1 then _ else g')
  split
  .rename_i e
   rw[Pu h g' hg' g hg e]
  .rfl
 .have hv:=Cq (by rw[Hb];exact hk)
  refine⟨0,by rw[hv];rfl,?_⟩
  unfold Lr
  rw[Er _ hv,if_neg hk,aw,Nat.zero_or]
  rfl
def PO:HO->Prop
 |.ins _ _ fs=>fs.lookup ("kept" : Str)=none
 |.dK _=>True
 |.tup _=>True
 |_=>False
def PlAt.kp(h:PlAt C any H p T)(n:∀a o,PO o->H a=some o->H' a=some o):PlAt C any H' p T:=
 let⟨dx,d,⟨_,o⟩,es,e,⟨_,q⟩,z⟩:=h
 ⟨dx,d,⟨trivial,n _ _ rfl o⟩,es,e,⟨trivial,n _ _ trivial q⟩,λx hx=>(z x hx).up λb ys=>n b _ trivial⟩
def PlAt.keep{C:Addr}{H H':Hp}{p:Addr}{T:Tr}(h:PlAt C any H p T)(n:∀a o,(∀l,o≠.dT l)->H a=some o->H' a=some o):PlAt C any H' p T:=h.kp λa o q=>n a o λl z=>by subst z;exact q
def Vb{H:Hp}{a:Addr}{l:List (TK×V)}{o:HO}(h:H a=some (.dT l)):∀b u,(∀l,u≠.dT l)->H b=some u->upd H a o b=some u:=λb u n e=>by rw[Ad λz=>by rw[z,h] at e;cases e;exact n _ rfl];exact e
def ay3{S A:Nat}(h:∀j,S.testBit j=true->A.testBit j=true):cD (S:Int) (A:Int)=(S:Int):=by
 rw[Ev]
 congr 1
 refine Lk λj=>?_
 rw[fH,aU]
 exact⟨And.left,λq=>⟨q,h j q⟩⟩
def R0{rs:List ((Nat×Tr)×Addr×Addr)}{ns:List Nat}{f:Nat->TK}(hr:∀r∈rs,∀j,r.1.1.testBit j=true->j∈ns/\f j=vkT r.1.2)(hn:∀j∈ns,∃r∈rs,r.1.1.testBit j=true){g:Mk}(h:g∈Cr (rs.map λr=>(vkT r.1.2,r.1.1)).reverse)(j:Nat):g.2.testBit j=true↔j∈ns/\f j=g.1:=by
 rw[Uy h]
 constructor
 .rintro⟨p,hp,e,b⟩
  obtain⟨r,h,rfl⟩:=List.mem_map.mp (List.mem_reverse.mp hp)
  rw[<- e]
  exact hr r h j b
 .rintro⟨hj,e⟩
  obtain⟨r,h,b⟩:=hn j hj
  exact⟨_,List.mem_reverse.mpr (aL h),((hr r h j b).2.symm.trans e),b⟩
def grp_has{rs:List ((Nat×Tr)×Addr×Addr)}{k:TK}:k∈(Cr (rs.map λr=>(vkT r.1.2,r.1.1)).reverse).map (·.1) ↔ ∃r∈rs,vkT r.1.2=k:=by
 rw[gm_key,bZ,bD,au,aq]
 exact iL
def bt9{rs:List ((Nat×Tr)×Addr×Addr)}{ns:List Nat}{f:Nat->TK}(hr:∀r∈rs,r.1.1≠0/\∀j,r.1.1.testBit j=true->j∈ns/\f j=vkT r.1.2)(hn:∀j∈ns,∃r∈rs,r.1.1.testBit j=true){gs:List Mk}(pm:gs.Perm (Cr (rs.map λr=>(vkT r.1.2,r.1.1)).reverse))(asc:gs.Pairwise λa b=>LtM a.2 b.2):Cn ns f gs:=by
 refine⟨asc,λg hg=>R0 (λr h=>(hr r h).2) hn (pm.mem_iff.mp hg),λg hg=>?_,λn h=>?_⟩
 .obtain⟨r,h,e⟩:=grp_has.mp (aL (pm.mem_iff.mp hg))
  obtain⟨j,b⟩:=fm (hr r h).1
  obtain⟨a,b⟩:=(hr r h).2 j b
  exact⟨j,a,b.trans e⟩
 .obtain⟨r,h,b⟩:=hn n h
  obtain⟨g,hg,e⟩:=List.mem_map.mp (grp_has.mpr ⟨r,h,rfl⟩)
  exact⟨g,pm.mem_iff.mpr hg,e.trans ((hr r h).2 n b).2.symm⟩
def NB(H H':Hp):Prop:=∀a o,(∀x,o≠.tbl x)->H a=some o->H' a=some o
def NB.of{P:Addr}{H H':Hp}{x:Array am}(O:Op P H H')(h:H P=some (.tbl x)):NB H H':=λa o n e=>O _ _ (λz=>by rw[z,h] at e;cases e;exact n _ rfl) e
def NB.tu{H H':Hp}(n:NB H H'){a:Addr}{xs:List V}(e:H a=some (.tup xs)):H' a=some (.tup xs):=n _ _ (λ_ z=>by cases z) e
def PlAt.nb{C:Addr}{H H':Hp}{p:Addr}{T:Tr}(h:PlAt C any H p T)(n:NB H H'):PlAt C any H' p T:=h.kp λa o q=>n a o λl z=>by subst z;exact q
def PlAt.nl(h:PlAt C any H p T)(n:NL H H'):PlAt C any H' p T:=h.kp λa o q=>n a o λl z=>by subst z;exact q
def St0.up{H H':Hp}(h:St0 H)(S:Same H H'):St0 H':=⟨h.1.imp (S _ _) fun⟨c,a,b⟩=>⟨c,S _ _ a,S _ _ b⟩,let⟨ob,u,a,z⟩:=h.2;⟨ob,u,S _ _ a,z⟩⟩
def St0.tb{H:Hp}(h:St0 H):∃x,H 299=some (.tbl x):=h.1.elim (λh=>⟨_,h⟩) fun⟨_,h,_⟩=>⟨_,h⟩
theorem RwAt.up{C:Addr}{H H':Hp}{l:Addr}{rs:List ((Nat×Tr)×Addr×Addr)}(h:RwAt C H l rs)(S:Same H H'):RwAt C H' l rs:=⟨S _ _ h.1,λr hr=>let q:=h.2 r hr;⟨S _ _ q.1,q.2.1.up S,q.2.2⟩⟩
def RwAt.push{C:Addr}{H:Hp}{D B q:Addr}{rs:List ((Nat×Tr)×Addr×Addr)}{m:Nat}{T:Tr}(h:RwAt C H D rs)(eB:H B=some (.tup [.int (m:Int),.ref q]))(hq:PlAt C any H q T)(o:Ba T)(l:rs.length<1000):∃xs,H D=some (.lst xs)/\xs.length<sizeLine/\RwAt C (upd H D (.lst (xs++[.ref B]))) D (rs++[((m,T),q,B)]):=by
 have big:=ce2
 have nl:=NL.upd (m:=(rs.map λe=>V.ref e.2.2)++[.ref B]) h.1
 refine⟨_,h.1,by rw[ae];omega,by rw[Aa,aw];rfl,λe he=>?_⟩
 rcases List.mem_append.mp he with he|he
 .have z:=h.2 e he
  exact⟨nl.tup _ _ z.1,z.2.1.nl nl,z.2.2⟩
 .obtain rfl:=List.mem_singleton.mp he
  exact⟨nl.tup _ _ eB,hq.nl nl,o⟩
def bj3(Z:Am K t):OkD K ae4 (Ax K t) bl (t.f 18) (t.d 18) (Wf K t):=by
 refine A0 (b48 K t) λvs H Q E h=>?_
 .obtain⟨A,l,rs,ns,f,rfl,hst,hR,hr,hn,⟨Ks,k5,hK⟩,k⟩:=h;refine⟨rfl,?_⟩
  have big:=ce2
  obtain⟨ps,hps⟩:∃ps,ps=rs.map λr=>(vkT r.1.2,r.1.1):=⟨_,rfl⟩
  have few:∀i,(Cr (ps.take i).reverse).length<=5:=λi=>by
   have:=Hv (Jl (ps.take i).reverse) λz hz=>by
    rw[gm_key,bZ,bD] at hz
    obtain⟨p,hp,rfl⟩:=List.mem_map.mp hz
    obtain⟨r,h,rfl⟩:=List.mem_map.mp (hps▸f6 hp)
    exact hK r h
   rw[ae] at this
   omega
  intro sx hsx
  refine .inr ?_
  have S1:=Same.upd (o:=.dT []) hsx
  have e1:upd H sx (.dT []) sx=some (.dT []):=Aa
  generalize upd H sx (.dT [])=H1 at S1 e1 ⊢
  intro px hpx
  refine .inr ?_
  have S2:=S1.trans (Same.upd (o:=.dT []) hpx)
  have fpx:=S1.free hpx
  have nsp:=Ai e1 hpx
  have e2s:upd H1 px (.dT []) sx=some (.dT ((Cr (ps.take 0).reverse).map gK)):=by rw[Ad nsp];exact e1
  have e2p:upd H1 px (.dT []) px=some (.dT []):=Aa
  generalize upd H1 px (.dT [])=H2 at S2 e2s e2p ⊢
  refine .inl ⟨⟨_,SqL.of (S2 _ _ hR.1)⟩,?_⟩
  refine A5 (Az (rs.map λr=>V.ref r.2.2)) (λi σ H'=>(∃v4 v5 v6,σ=[some (.int (A:Int)),some (.ref l),some (.ref sx),some (.ref px),v4,v5,v6])/\Same H H'/\H' sx=some (.dT ((Cr (ps.take i).reverse).map gK))/\∃kp,H' px=some (.dT kp)/\kp.map (·.1)=(Cr (ps.take i).reverse).map (·.1)/\∀x∈kp,∃p T,x.2=.ref p/\PlAt t.c_zcf any H' p T/\Ba T/\vkT T=x.1)
   ⟨⟨_,_,_,rfl⟩,S2,e2s,[],e2p,rfl,λx hx=>by cases hx⟩ (λ_ _ H' _ q=>q.2.1.seqL (SqL.of hR.1)) ?_ ?_
  .rintro i x σ H3 hx ⟨⟨v4,v5,v6,rfl⟩,S3,e3s,kp,e3p,ek,hk⟩
   obtain⟨⟨⟨m,T⟩,p,B⟩,hi,rfl⟩:=Ak hx
   have hm:=ah hi
   obtain⟨eT,hP,okT⟩:=hR.2 _ hm
   obtain⟨m0,hb⟩:=hr _ hm
   have st:=X1 (l:=ps) (i:=i) (p:=(vkT T,m)) (by rw[hps,ao,hi];rfl)
   have fi:=few i
   have ndi:=Jl (ps.take i).reverse
   generalize hgs:Cr (ps.take i).reverse=gs at e3s ek st fi ndi
   have ab:=ay3 (S:=m) (A:=A) λj q=>(hb j q).1
   refine⟨_,.inl (SqT.of (S3 _ _ eT)),rfl,?_⟩
   refine F9 (by
    show(!decide (cD (m:Int) (A:Int)=0))=true
    have m0:m≠0:=m0
    rw[ab,decide_eq_false (by omega)];rfl) ?_
   have hP3:=PlAt.up hP S3
   obtain⟨dx,d,⟨_,ep⟩,_⟩:=id hP3
   refine⟨p,dx,_,⟨t.c_zcf,bv3 K t⟩,rfl,.head _,ep,rfl,ce3,⟨p,T,rfl,hP3,okT,λH4 b S4 tk=>?_⟩⟩
   have dk:Ap (vkT T)<=8/\TkAt H4 (vkT T) (.ref b):=⟨bs5 okT,tk⟩
   obtain⟨old,ho,hp⟩:=Yj (vkT T) m ndi
   refine⟨.inr (.inr (.inl ⟨rfl,.inr ⟨_,S4 _ _ e3s⟩⟩)),_,DGet.t (S4 _ _ e3s) dk,?_⟩
   rw[ho]
   show ∃H',DPut H4 sx (.ref b) (.int (cL (old:Int) (cD (m:Int) (A:Int)))) H'/\_
   rw[ab,C2]
   refine⟨_,DPut.t (S4 _ _ e3s) dk (by rw[ae];omega),?_⟩
   rw[hp,<- st]
   generalize hG:Cr (ps.take (i+1)).reverse=G at st ⊢
   have nt5:=Vb (o:=.dT (G.map gK)) (S4 _ _ e3s)
   have e5s:upd H4 sx (.dT (G.map gK)) sx=some (.dT (G.map gK)):=Aa
   have e5p:upd H4 sx (.dT (G.map gK)) px=some (.dT kp):=by rw[Ad nsp.symm];exact S4 _ _ e3p
   have S5:=(S3.trans S4).set (o:=.dT (G.map gK)) hsx
   show Ae _ _ _ _ (upd H4 sx (.dT (G.map gK)))
   generalize upd H4 sx (.dT (G.map gK))=H5 at nt5 e5s e5p S5 ⊢
   have lk:kp.length<=5:=by
    have:=congrArg b9 ek
    rw[ae,ae] at this
    omega
   refine⟨_,DPut.t e5p ⟨dk.1,dk.2.up λb ys=>nt5 b _ λ_ z=>by cases z⟩ (by omega),?_⟩
   have nt6:=Vb (o:=.dT (Bt kp (vkT T) (.ref p))) e5p
   refine⟨⟨_,_,_,rfl⟩,S5.set fpx,by rw[Ad nsp];exact e5s,_,Aa,?_,λx hx=>?_⟩
   .rw[Oc,ek,st,Iz]
   .rcases ap2 hx with hx|hx
    .obtain⟨p',T',e',h',o',v'⟩:=hk x hx
     exact⟨p',T',e',((h'.up S4).keep nt5).keep nt6,o',v'⟩
    .exact⟨p,T,hx.2,((hP3.up S4).keep nt5).keep nt6,okT,hx.1.symm⟩
  .rintro σ H3 ⟨⟨v4,v5,v6,rfl⟩,S3,e3s,kp,e3p,ek,hk⟩
   have fn:=few rs.length
   have tk:ps.take rs.length=ps:=cI (by rw[hps,ae];exact af _)
   rw[ae,tk] at e3s ek
   rw[tk] at fn
   have ndg:=Jl ps.reverse
   obtain⟨gs,hgs⟩:∃gs,gs=Cr ps.reverse:=⟨_,rfl⟩
   rw[<- hgs] at e3s ek fn ndg
   refine .inl (.inr (.inr (.inr ⟨_,e3s,λo D hD=>?_⟩)))
   have ef:upd H3 sx (.frz o (.dT (gs.map gK))) sx=some (.frz o (.dT (gs.map gK))):=Aa
   have ntf:=Vb (o:=.frz o (.dT (gs.map gK))) e3s
   have efp:upd H3 sx (.frz o (.dT (gs.map gK))) px=some (.dT kp):=by rw[Ad nsp.symm];exact e3p
   have Sf:Same H (upd H3 sx (.frz o (.dT (gs.map gK)))):=S3.set hsx
   generalize upd H3 sx (.frz o (.dT (gs.map gK)))=Hf at ef ntf efp Sf hD ⊢
   have nd1:((gs.map gK).map (·.1)).Nodup:=by rw[Hb];exact ndg
   have nd2:(kp.map (·.1)).Nodup:=by rw[ek];exact ndg
   refine ah8 (λi σ H'=>(∃v,σ=[v,some (.ref px),some (.ref sx)])/\Same Hf H'/\∃es,RwAt t.c_zcf H' D es/\(es.map λr=>(vkT r.1.2,r.1.1))=gs.take i) ⟨⟨_,rfl⟩,Same.upd hD,[],⟨Aa,λe h=>by cases h⟩,rfl⟩ (λ_ _ _ q=>q.2.1 _ _ ef) ?_ ?_
   .rintro i kk vv b σ H4 hi dk ⟨⟨v,rfl⟩,S4,es,hE,ee⟩
    obtain⟨g,hg,eg⟩:=Ak hi
    obtain⟨rfl,rfl⟩:kk=g.1/\vv=.int (g.2:Int):=by injection eg with a b;exact⟨a,b⟩
    have hj:(kp.map (·.1))[i]?=some g.1:=by rw[ek,ao,hg];rfl
    obtain⟨⟨k2,v2⟩,hj2,e2⟩:=Ak hj
    obtain rfl:g.1=k2:=e2
    obtain⟨p,T,ev,hP,oT,vT⟩:=hk _ (ah hj2)
    obtain rfl:v2=.ref p:=ev
    have hP4:=(hP.keep ntf).up S4
    obtain⟨dx,d,⟨_,ep⟩,_⟩:=id hP4
    have d1:DGet H4 sx b (some (.int (g.2:Int))):=.inr ⟨_,g.1,.inr ⟨o,S4 _ _ ef⟩,dk,(Bo nd1 hi).symm⟩
    have d2:DGet H4 px b (some (.ref p)):=.inr ⟨_,g.1,.inl (S4 _ _ efp),dk,(Bo nd2 hj2).symm⟩
    obtain⟨b,rfl⟩:∃b',b=.ref b':=by
     have z:=dk.2
     rw[<- vT] at z
     obtain⟨b',_,z,_⟩:=z
     exact⟨b',z⟩
    refine⟨_,d1,_,d2,p,dx,_,⟨t.c_zcf,be7 K t⟩,rfl,.head _,ep,rfl,ce3,⟨p,T,rfl,hP4,λH5 q S5 hq5=>⟨cd9,λB hB=>?_⟩⟩⟩
    have SB:=Same.upd (o:=.tup [.int (g.2:Int),.ref q]) hB
    have le:=congrArg b9 ee
    rw[ae,aF] at le
    obtain⟨xs,z1,z2,z3⟩:=(hE.up (S5.trans SB)).push (m:=g.2) Aa (hq5.up SB) oT (by omega)
    exact⟨xs,z1,z2,⟨_,rfl⟩,(S4.trans (S5.trans SB)).set hD,_,z3,by rw[aw,ee,aN,hg];show _++[(vkT T,g.2)]=_;rw[vT];rfl⟩
   .rintro σ H4 ⟨_,S4,es,hE,ee⟩
    rw[ae,aI] at ee
    have S04:=Sf.trans S4
    have le:=congrArg b9 ee
    rw[ae] at le
    have em:(es.map λe=>(e.1.1,V.ref e.2.1,e.2.2)).map (λr=>V.ref r.2.2)=es.map λe=>V.ref e.2.2:=by rw[au];rfl
    have Kz:∀e∈es,∀j,e.1.1.testBit j=true↔j∈ns/\f j=vkT e.1.2:=λe h j=>R0 (λr h j b=>((hr r h).2 j b).2) (λj h=>(hn j h).2) (g:=(vkT e.1.2,e.1.1)) (by rw[<- hps,<- hgs,<- ee];exact aL h) j
    have nde:(es.map λe=>vkT e.1.2).Nodup:=by rw[<- ee,au] at ndg;exact ndg
    have st4:=hst.up S04
    refine⟨D,es.map λe=>(e.1.1,.ref e.2.1,e.2.2),rfl,st4,by rw[em];exact hE.1,by rw[ae];omega,?_,λx hx=>?_,λH5 D5 rs' O5 st5 pm pw e5=>?_⟩
    .refine List.pairwise_map.mpr ((List.pairwise_map.mp nde).imp_of_mem λ{a b} ha hb ne j ⟨h1,h2⟩=>ne ?_)
     exact((Kz a ha j).mp h1).2.symm.trans ((Kz b hb j).mp h2).2
    .obtain⟨e,h,rfl⟩:=List.mem_map.mp hx
     refine⟨(hE.2 e h).1,λz=>?_,aR (Nat.lt_pow_two_of_testBit (n:=256) _ λj hj=>?_) (j_ (by decide) (by decide))⟩
     .obtain⟨r,hr2,er⟩:=grp_has.mp (show vkT e.1.2∈(Cr (rs.map λr=>(vkT r.1.2,r.1.1)).reverse).map (·.1) by rw[<- hps,<- hgs,<- ee,au];exact aL h)
      obtain⟨j,b⟩:=fm (hr r hr2).1
      have:=(Kz e h j).mpr ⟨((hr r hr2).2 j b).2.1,((hr r hr2).2 j b).2.2.trans er⟩
      have z:e.1.1=0:=z
      rw[z,dP] at this
      cases this
     .rw[Bool.eq_false_iff]
      exact λz=>by have:=(hn j ((Kz e h j).mp z).1).1;omega
    .obtain⟨es',rfl,pm'⟩:=Sx pm rfl
     obtain⟨x,hP⟩:=st4.tb
     have nb:=NB.of O5 hP
     refine k H5 D5 _ (λb u nb q=>O5 _ _ nb (S04 _ _ q)) st5 ⟨es',⟨by rw[e5,au];rfl,λr h=>?_⟩,rfl⟩ (bt9 (rs:=rs) (λr h=>⟨(hr r h).1,λj b=>((hr r h).2 j b).2⟩) (λj h=>(hn j h).2) ?_ ?_) (by rw[ae,pm'.length_eq];omega)
     .obtain⟨z1,z2,z3⟩:=hE.2 r (pm'.mem_iff.mp h)
      exact⟨nb.tu z1,z2.nb nb,z3⟩
     .rw[<- hps,<- hgs,<- ee]
      exact pm'.map _
     .rw[cN] at pw ⊢
      exact pw
def bi7(Z:Am K t):OkD K D_zav (Ax K t) bl t.f_zav t.d_zav (as0 K t):=by
 refine A0 (b42 K t) λvs H Q E h=>?_
 .obtain⟨b,p,dx,sw,ζ,rfl,eb,hp,k⟩:=h;refine⟨rfl,?_⟩
  refine⟨_,_,_,eb,Z.bc,Z.bp,(show 0<1000 by decide),?_⟩
  have e1:upd H b (.ins t.c_zcg dx [("panel", .ref p)]) b=some (.ins t.c_zcg dx [("panel", .ref p)]):=Aa
  have O1:∀a o,a≠b->H a=some o->upd H b (.ins t.c_zcg dx [("panel", .ref p)]) a=some o:=λa o n e=>by rw[Ad n];exact e
  have hp1:=hp.mono (Kp.off (o:=.ins t.c_zcg dx [("panel", .ref p)]) λz=>z rfl)
  show Ae _ _ _ _ (upd H b (.ins t.c_zcg dx [("panel", .ref p)]))
  generalize upd H b (.ins t.c_zcg dx [("panel", .ref p)])=H1 at e1 O1 hp1 ⊢
  obtain⟨dxp,d,l,n,s,kk,br,h1⟩:=id hp1
  refine⟨p,dxp,_,⟨t.c_zce,be4 K t⟩,rfl,.head _,h1.ins.2,rfl,ce3,⟨p,sw,ζ,rfl,hp1.mono Kp.any,?_⟩⟩
  intro a dxa ha hdx ne
  refine⟨a,dxa,rfl,Aa,λd0 hd0 _=>⟨rfl,?_⟩⟩
  obtain⟨_,S2,_⟩:=am9 ha hdx ne hd0
  generalize upd (upd (upd (upd H1 dxa (.own a)) a (.ins t.c_zcf dxa [])) d0 (.dK [])) a (.ins t.c_zcf dxa [("records", .ref d0)])=H2 at S2 ⊢
  refine⟨cd9,λT hT=>⟨cd8,λL hL=>?_⟩⟩
  rw[Ik] at hL ⊢
  have S3:=Same.upd (o:=.tup [.int ((Ek sw ζ:Nat):Int),.ref a]) hT
  have e3:upd H2 T (.tup [.int ((Ek sw ζ:Nat):Int),.ref a]) T=some (.tup [.int ((Ek sw ζ:Nat):Int),.ref a]):=Aa
  generalize upd H2 T (.tup [.int ((Ek sw ζ:Nat):Int),.ref a])=H3 at S3 e3 hL ⊢
  have S4:=Same.upd (o:=.lst [.ref T]) hL
  have e4:upd H3 L (.lst [.ref T]) L=some (.lst [.ref T]):=Aa
  generalize upd H3 L (.lst [.ref T])=H4 at S4 e4 ⊢
  have S14:=S2.trans (S3.trans S4)
  have eb4:=S14 _ _ e1
  refine⟨_,_,_,eb4,Z.bc,Z.bk,(show 1<1000 by decide),?_⟩
  exact k _ L (λx o nx e=>by rw[Ad nx];exact S14 _ _ (O1 _ _ nx e)) Aa
def _root_.Pn.PanAt.self(h:PanAt C ok H p sw ζ dx d l n s k b):SelfAt C ok H p l s:=by
 refine⟨dx,_,h.ins,rfl,rfl,λm hm=>?_⟩
 simp only[aB,cf,or_false] at hm
 rcases hm with rfl|rfl|rfl|rfl|rfl|rfl <;> rfl
def bk1(Z:Am K t):OkD K af2 (Ax K t) bl (t.f 19) (t.d 19) (Qh K t):=by
 refine A0 (b56 K t) λvs H Q E h=>?_
 .obtain⟨p,l,sw,ζ,rs,ns,f,rfl,hst,hp,hR,hr,hn,few,k⟩:=h;refine⟨rfl,?_⟩
  intro b dx hb hdx ne
  have S1:Same H (upd (upd H dx (.own b)) b (.ins t.c_zcg dx [])):=(Same.upd hdx).set hb
  have e1:upd (upd H dx (.own b)) b (.ins t.c_zcg dx []) b=some (.ins t.c_zcg dx []):=Aa
  have K1:Kp (· ≠ 299) H (· ≠ b) (upd (upd H dx (.own b)) b (.ins t.c_zcg dx [])):=λa o q=>⟨λz=>(by have q2:=q.2;rw[z,hb] at q2;cases q2),S1 _ _ q.2⟩
  generalize upd (upd H dx (.own b)) b (.ins t.c_zcg dx [])=H1 at S1 e1 K1 ⊢
  refine⟨b,p,dx,sw,ζ,rfl,e1,hp.mono K1,λH2 l0 O2 e2=>⟨rfl,?_⟩⟩
  have S2:Same H H2:=λa o q=>O2 _ _ (λz=>by rw[z,hb] at q;cases q) (S1 _ _ q)
  have hp2:=hp.mono (Kp.same S2)
  obtain⟨dxp,d,l1,n,s,kk,br,h1⟩:=id hp2
  refine⟨p,dxp,_,⟨t.c_zce,be4 K t⟩,rfl,.head _,h1.ins.2,rfl,ce3,⟨p,sw,ζ,rfl,hp2.mono Kp.any,?_⟩⟩
  rw[Ik]
  refine⟨Ek sw ζ,l,rs,ns,f,rfl,hst.up S2,hR.up S2,hr,hn,few,λH3 D gs O3 st3 ⟨rs',hK,ek⟩ cn l5=>?_⟩
  obtain⟨x,hP⟩:=hst.tb
  have nb:b≠299:=λz=>by rw[<- z,hb] at hP;cases hP
  have e3:=O3 _ _ nb e2
  refine⟨_,_,_,e3,Z.bc,Z.bk,(show 2<1000 by decide),?_⟩
  generalize hH4:upd H3 b (.ins t.c_zcg dx (Fo "kept" (.ref D) [("panel", .ref p),("kept", .ref l0)]))=H4
  have ni:∀a o,PO o\/(∃l,o=.lst l)\/(∃l,o=.tbl l)\/(∃q f,o=.frz q f)\/(∃f,o=.ext f)->H3 a=some o->H4 a=some o:=λa o n e=>by
   rw[<- hH4,Ad λz=>?_];exact e
   rw[z,e3] at e
   cases e
   rcases n with n|⟨_,n⟩|⟨_,n⟩|⟨_,_,n⟩|⟨_,n⟩ <;> cases n
  have fin:∀a o,a≠299->H a=some o->H4 a=some o:=λa o na q=>by rw[<- hH4,Ad λz=>by rw[z,hb] at q;cases q];exact O3 _ _ na (S2 _ _ q)
  have hp4:=hp.mono (λa o q=>⟨trivial,fin _ _ q.1 q.2⟩:Kp (· ≠ 299) H any H4)
  obtain⟨_,_,l1,_,s1,_,_,h1⟩:=hp4
  refine k H4 b gs fin ⟨st3.1.imp (λe=>ni _ _ (.inr (.inr (.inl ⟨_,rfl⟩))) e) fun⟨c,a,z⟩=>⟨c,ni _ _ (.inr (.inr (.inl ⟨_,rfl⟩))) a,ni _ _ (.inr (.inr (.inr (.inr ⟨_,rfl⟩)))) z⟩,let⟨ob,u,a,z⟩:=st3.2;⟨ob,u,ni _ _ (.inr (.inr (.inr (.inl ⟨_,_,rfl⟩)))) a,z⟩⟩ ⟨dx,p,D,by rw[<- hH4,Aa];rfl,⟨l1,s1,h1.self,h1.tps⟩,rs',⟨ni _ _ (.inr (.inl ⟨_,rfl⟩)) hK.1,λr h=>?_⟩,ek⟩ cn l5
  obtain⟨z1,z2,z3⟩:=hK.2 r h
  exact⟨ni _ _ (.inl trivial) z1,z2.kp λa o q=>ni a o (.inl q),z3⟩
def Y4{H:Hp}{l:Addr}{sw:Sw}{E:EK}{R:Hp->Addr->Prop}(h:SwIn any H l sw)(l5:sw.length<=5)(k:∀D H',Same H H'->SwIn any H' D sw->R H' D) :
  ∀D,H D=none->Fc (Itl K l) (gdT K 2 [gdN 0,gdN 1]) Bv (C4 (Ac (Ab 0) (Ac (dFn (λvs H Q _=>(Gh K true) vs H Q) (Ac (Ab 1) Ag)) Ag))) D (λH'=>R H' D) [none,none] (upd H D (.lst [])) E:=by
 intro D hD
 obtain⟨ds,ed,⟨_,ol⟩,hd⟩:=h
 have len:ds.length=sw.length:=by rw[<- ed];simp
 have big:=ce2
 refine Dg (Az (ds.map λx=>V.ref x.2)) (λi σ H'=>(∃v0 v1,σ=[v0,v1])/\Same H H'/\∃fs,fs.map (·.1.1)=sw.take i/\SwL H' D fs) ⟨⟨_,_,rfl⟩,Same.upd hD,[],rfl,Aa,λx hx=>(by cases hx),λx hx=>(by cases hx)⟩ (λ_ _ H' _ q=>q.2.1.seqL (SqL.of ol)) ?_ ?_
 .rintro i x σ H1 hx ⟨⟨v0,v1,rfl⟩,S1,fs,ef,L1⟩
  obtain⟨⟨⟨x',la⟩,ta⟩,hi,rfl⟩:=Ak hx
  have hi2:sw[i]?=some x':=by rw[<- ed,ao,hi];rfl
  have il:=Aj hi2
  obtain⟨⟨_,h1⟩,_,h2⟩:=hd _ (ah hi)
  have h2:=h2
  refine⟨_,.inl (SqT.of (S1 _ _ h1)),rfl,.inl ⟨_,.inl (SqL.of (S1 _ _ h2)),λM hM=>⟨cd9,λT hT=>?_⟩⟩⟩
  have S2:=Same.upd (o:=Ay x'.2) hM
  have e2:upd H1 M (Ay x'.2) M=some (Ay x'.2):=Aa
  have nM:=(Ai L1.at_ hM).symm
  have L2:=L1.up S2
  have hT:=hT
  generalize upd H1 M (Ay x'.2)=H2 at S2 e2 L2 hT ⊢
  have S3:=Same.upd (o:=.tup [.str x'.1,.ref M]) hT
  have e3:upd H2 T (.tup [.str x'.1,.ref M]) T=some (.tup [.str x'.1,.ref M]):=Aa
  have L3:=L2.up S3
  generalize upd H2 T (.tup [.str x'.1,.ref M])=H3 at S3 e3 L3 ⊢
  have lf:fs.length<=5:=by
   have:=congrArg b9 ef
   rw[ae,aF] at this
   omega
  refine⟨_,L3.at_,by rw[ae];omega,⟨_,_,rfl⟩,(S1.trans (S2.trans S3)).set hD,_,?_,L3.snoc e3 (S3 _ _ e2) nM⟩
  rw[aw,ef,aN,hi2];rfl
 .rintro σ H1 ⟨_,S1,fs,ef,L1⟩
  rw[ae,len,aI] at ef
  exact k D H1 S1 ⟨fs,ef,⟨trivial,L1.at_⟩,λx hx=>⟨⟨trivial,L1.tup x hx⟩,trivial,(L1.lst x hx).1⟩⟩
def Sv{H:Hp}{D k p dx:Addr}{sw:Sw}{ζ:List Sw}{R:Hp->Prop}{E:XK}{x:Array am}(h6:H 299=some (.tbl x))(hp:H p=none)(hdx:H dx=none)(hs:SwIn any H D sw)(hw:okSw sw)(hr:RulesAt any H k ζ)(okr:∀r∈ζ,E3 sw r)(few:ζ.length<=8)(ne:An sw ζ≠[])(q:∀H',Same H H'->PanelAt t.c_zce (· ≠ 299) H' p sw ζ->R H') :
  (i_zam K t).sp (.ref p::([.ref D,.ref k]++List.drop 1 (i_zam K t).dfs)) (upd (upd H dx (.own p)) p (.ins t.c_zce dx [])) (λv H2=>v=.non/\R H2) E:=by
 have S1:Same H (upd (upd H dx (.own p)) p (.ins t.c_zce dx [])):=(Same.upd hdx).set hp
 have K1:Kp any H (· ≠ p) (upd (upd H dx (.own p)) p (.ins t.c_zce dx [])):=λa o q=>⟨λz=>(by have q2:=q.2;rw[z,hp] at q2;cases q2),S1 _ _ q.2⟩
 refine⟨p,D,dx,.ref k,sw,ζ,rfl,Aa,hs.mono K1,hw,.inr ⟨k,rfl,hr.mono K1⟩,okr,few,az5 ne,λH2 O2 hP=>⟨rfl,q H2 (λb u e=>O2 _ _ (λz=>by rw[z,hp] at e;cases e) (S1 _ _ e)) (hP.mono (Kp.weak λa ha=>?_))⟩⟩
 rintro rfl
 rcases ha with z|z
 .rw[<- z,h6] at hp;cases hp
 .rw[S1 _ _ h6] at z;cases z
def Hi{H:Hp}{p:Addr}{n:Nat}{v:V}{Q:VK}(h:DGet H p (.int (n:Int)) (some v))(q:Q v H):Av K (.ref p) (.int (n:Int)) H Q:=
 ⟨List.replicate (n+1) v,v,.dk λu e=>by
  rw[B5 (by rw[gy,if_pos (dB n)])] at e
  cases e
  exact h,B5 (by rw[gy,if_pos (dB n)]),q⟩
def Pl{g:Nat->Addr}{ns:List Nat}{i n:Nat}(nd:ns.Nodup)(h:ns[i]?=some n):Bg (ns.map (kF g)) (.inl (n:Int))=some (.ref (g n)):=by
 refine Bo ?_ (by rw[ao,h];rfl)
 rw[Pk]
 exact iZ _ (λa b ne e=>ne (by injection e with e;omega)) nd
def bk4(Z:Am K t):OkD K af4 (Ax K t) bl (t.f 33) (t.d 33) (Qi K t):=by
 refine A0 (b59 K t) λvs H Q E h=>?_
 .obtain⟨W,F,l,kk,f,sw,ζ,g,tr,rfl,hst,hW,hF,k⟩:=h;refine⟨rfl,?_⟩
  have big:=ce2
  refine⟨_,.inr (SqL.of hW.at_),rfl,?_⟩
  obtain⟨ds,_,⟨_,ol⟩,_⟩:=hW.sws
  refine .inl ⟨⟨_,SqL.of ol⟩,Y4 hW.sws hW.ok.2.1 λD H1 S1 hD=>?_⟩
  intro p dx hp hdx nep
  obtain⟨tx,hP0⟩:=hst.tb
  refine Sv (S1 _ _ hP0) hp hdx hD hW.ok (hW.rl.mono (Kp.same S1)) hW.rok hW.few hW.ne λH2 S2 hP=>?_
  have S02:=S1.trans S2
  refine⟨My,λR hR=>?_⟩
  have S3:=Same.upd (o:=.lst []) hR
  have e3:upd H2 R (.lst []) R=some (.lst []):=Aa
  generalize upd H2 R (.lst [])=H3 at S3 e3 ⊢
  have S03:=S02.trans S3
  have fR:=S02.free hR
  have eF:=S03 _ _ hF.at_
  have asc:=Ha sw ζ
  have ndf:=asc.imp λh=>aQ h
  refine .inr (.inr (.inl (.inl ⟨_,eF,λo=>?_⟩)))
  have ef:upd H3 F (.frz o (.dK ((An sw ζ).map (kF g)))) F=some (.frz o (.dK ((An sw ζ).map (kF g)))):=Aa
  have of:∀b u,b≠F->H3 b=some u->upd H3 F (.frz o (.dK ((An sw ζ).map (kF g)))) b=some u:=λb u nb e=>by rw[Ad nb];exact e
  generalize upd H3 F (.frz o (.dK ((An sw ζ).map (kF g))))=Hf at ef of ⊢
  have nRF:R≠F:=λz=>by rw[z,eF] at e3;cases e3
  refine A5 (Eh ((An sw ζ).map (kF g))) (λi σ H'=>(∃v7,σ=[some (.ref W),some (.ref F),some (.ref l),some (.ref kk),some (.ref f),some (.ref p),some (.ref R),v7])/\(∀a u,a≠R->Hf a=some u->H' a=some u)/\∃rs,RwAt t.c_zcf H' R rs/\rs.map (·.1)=((An sw ζ).take i).map λn=>(2^n,tr n))
   ⟨⟨_,rfl⟩,(λ_ _ _ e=>e),[],⟨of _ _ nRF e3,λr h=>by cases h⟩,rfl⟩ (λ_ _ H' _ q=>q.2.1 _ _ nRF.symm ef) ?_ ?_
  .rintro i x σ H4 hx ⟨⟨v7,rfl⟩,O4,rs,h4,er⟩
   have e4R:=h4.1
   rw[au] at hx
   obtain⟨n,hn,rfl⟩:=Ak hx
   have hm:=ah hn
   obtain⟨nl,bt⟩:=El hm
   have l256:=hW.ok.len
   obtain⟨hT,okT⟩:=hF.one n hm
   have hT4:TrAt any H4 (g n) (tr n):=by
    obtain⟨es,ee,⟨_,e⟩,he⟩:=hT
    have ng:g n≠F:=λz=>by
     have e':=hF.at_
     rw[<- z,e] at e'
     injection e' with e'
     injection e' with e'
     have:=congrArg (k0 lP) e'
     rw[Hk,Pk] at this
     have h0:(.inl (n:Int):Key)∈(An sw ζ).map λn:Nat=>(.inl (n:Int):Key):=List.mem_map.mpr ⟨n,hm,rfl⟩
     rw[<- this] at h0
     obtain⟨_,_,z⟩:=List.mem_map.mp h0
     cases z
    have kp:∀a o,a≠F->a≠R->H a=some o->H4 a=some o:=λa o n1 n2 e=>O4 _ _ n2 (of _ _ n1 (S03 _ _ e))
    refine⟨es,ee,⟨trivial,kp _ _ ng (λz=>by rw[z,fR] at e;cases e) e⟩,λx hx=>(he x hx).up λb ys q=>kp _ _ (λz=>by rw[z,hF.at_] at q;cases q) (λz=>by rw[z,fR] at q;cases q) q⟩
   refine⟨.inl ⟨rfl,_,SqL.of e4R⟩,⟨by omega,by omega,by decide⟩,Hi (.inl ⟨_,.inl (n:Int),.inr ⟨o,O4 _ _ nRF.symm ef⟩,rfl,(Pl ndf hn).symm⟩) ⟨g n,tr n,rfl,hT4,okT,λH5 pl S5 hPl=>⟨cd9,λT hT=>?_⟩⟩⟩
   have e1:(1*2^((n:Int)).toNat:Int)=((2^n:Nat):Int):=by rw[kJ,bb,Fy]
   rw[e1]
   have ST:=Same.upd (o:=.tup [.int ((2^n:Nat):Int),.ref pl]) hT
   have le:=congrArg b9 er
   rw[ae,ae,aF] at le
   have hf:=bQ (λn=>!Gc sw ζ n) (aV (Al sw).length)
   rw[bg] at hf
   have hf:(An sw ζ).length<=_:=hf
   obtain⟨xs,z1,z2,z3⟩:=(h4.up (S5.trans ST)).push Aa (hPl.up ST) okT (by omega)
   exact⟨R,xs,_,rfl,rfl,z1,z2,⟨_,rfl⟩,λa u na e=>by rw[Ad na];exact(S5.trans ST) _ _ (O4 _ _ na e),_,z3,by rw[aw,er,aN,hn,aw];rfl⟩
  .rintro σ H4 ⟨⟨v7,rfl⟩,O4,rs,h4,er⟩
   rw[ae,ae,aI] at er
   have e4f:=O4 _ _ nRF.symm ef
   refine .inr ⟨F,o,_,eF,e4f,?_⟩
   have up:∀a u,a≠R->H3 a=some u->upd H4 F (.dK ((An sw ζ).map (kF g))) a=some u:=λa u n2 e=>by
    by_cases ha:a=F
    .subst ha;rw[Aa,<- eF,e]
    .rw[Ad ha];exact O4 _ _ n2 (of _ _ ha e)
   have S04:Same H (upd H4 F (.dK ((An sw ζ).map (kF g)))):=λa u e=>up _ _ (λz=>by rw[z,fR] at e;cases e) (S03 _ _ e)
   have nt:∀a u,(∀o k,u≠.frz o k)->H4 a=some u->upd H4 F (.dK ((An sw ζ).map (kF g))) a=some u:=λa u n e=>by rw[Ad λz=>by rw[z,e4f] at e;cases e;exact n _ _ rfl];exact e
   have S2e:Same H2 (upd H4 F (.dK ((An sw ζ).map (kF g)))):=λa u e=>up _ _ (Ai e hR) (S3 _ _ e)
   generalize upd H4 F (.dK ((An sw ζ).map (kF g)))=He at up S04 nt S2e ⊢
   obtain⟨Ts,t5,hT⟩:=hF.few
   have hrs:∀r∈rs,∃n∈An sw ζ,r.1=(2^n,tr n):=λr h=>by
    have:r.1∈rs.map (·.1):=aL h
    rw[er] at this
    obtain⟨n,hn,e⟩:=List.mem_map.mp this
    exact⟨n,hn,e.symm⟩
   refine⟨p,R,sw,ζ,rs,An sw ζ,λn=>vkT (tr n),rfl,hst.up S04,hP.mono (Kp.same S2e),⟨nt _ _ (λ_ _ z=>by cases z) h4.1,λr hr=>?_⟩,λr hr=>?_,λn hn=>⟨aR (El hn).1 hW.ok.len,?_⟩,⟨Ts.map vkT,by rw[ae];exact t5,λr hr=>?_⟩,λH5 b gs O5=>k H5 b gs λa u na e=>O5 _ _ na (S04 _ _ e)⟩
   .obtain⟨z1,z2,z3⟩:=h4.2 r hr
    exact⟨nt _ _ (λ_ _ z=>by cases z) z1,z2.kp λa o q=>nt a o λ_ _ z=>by subst z;exact q,z3⟩
   .obtain⟨n,hn,e⟩:=hrs r hr
    rw[e]
    refine⟨eV (jP n),λj b=>?_⟩
    have b:(2^n).testBit j=true:=b
    rw[cZ,decide_eq_true_iff] at b
    subst b
    exact⟨(El hn).2,hn,rfl⟩
   .have:(2^n,tr n)∈(An sw ζ).map λn=>(2^n,tr n):=aL hn
    rw[<- er] at this
    obtain⟨r,hr,e⟩:=List.mem_map.mp this
    exact⟨r,hr,by rw[e,cZ];exact decide_eq_true rfl⟩
   .obtain⟨n,hn,e⟩:=hrs r hr
    rw[e]
    exact aL (hT n hn)
theorem BqAt.up(h:BqAt t H b sw gs)(S:Same H H'):BqAt t H' b sw gs:=
 let⟨dx,p,l,e,⟨l1,s1,h1,h2⟩,rs,hR,er⟩:=h
 ⟨dx,p,l,S _ _ e,⟨l1,s1,h1.mono (Kp.same S),h2.mono (Kp.same S)⟩,rs,hR.up S,er⟩
def Wq{es:List ((Str×Rc)×Addr)}{T:Tr}(et:es.map (·.1)=T)(o:Ba T)(n:Str):(Bg (es.map kT) (.inr n)=none/\stT T n=none) \/ ∃e∈es,Bg (es.map kT) (.inr n)=some (.ref e.2)/\stT T n=some (rcT e.1.2):=by
 have nde:(es.map (·.1.1)).Nodup:=by have:=o.1;rw[<- et,au] at this;exact this
 have en:es.map (·.1.1)=T.map (·.1):=by rw[<- et,au];rfl
 by_cases h:n∈T.map (·.1)
 .obtain⟨x,ex,hx⟩:=D6 o h
  rw[<- et] at hx
  obtain⟨e,he,ee⟩:=List.mem_map.mp hx
  obtain⟨j,hj⟩:=List.mem_iff_getElem?.mp he
  have hv:=Fj nde hj
  rw[ee] at hv
  exact .inr ⟨e,he,hv,by unfold stT;rw[ex,ee];rfl⟩
 .exact .inl ⟨al0 (by rw[en];exact h),by unfold stT;rw[Ee h];rfl⟩
def bi9(Z:Am K t):OkD K Xf (Ax K t) bl (t.m_zcf 4) (t.e_zcf 4) (Wb K t):=by
 refine A0 (b45 K t) λvs H Q E h=>?_
 .obtain⟨p,T,n,rfl,⟨dx,d,⟨_,e⟩,es,et,⟨_,ed⟩,he⟩,o,k⟩:=h;refine⟨rfl,?_⟩
  refine⟨_,_,_,.ref d,e,Z.pc,Z.pr,rfl,.inr ⟨_,.inl ⟨_,.inr n,.inl ed,rfl,rfl⟩,?_⟩⟩
  rcases Wq et o n with⟨a,b⟩|⟨x,_,a,b⟩
  .rw[a];rw[b] at k;exact k
  .rw[a];rw[b] at k;exact k
def bh2(Z:Am K t):OkD K W5 (Ax K t) bl (t.m_zcf 11) (t.e_zcf 11) (Vv K t):=by
 refine A0 (b25 K t) λvs H Q E h=>?_
 .obtain⟨p,T,n,rfl,⟨dx,d,⟨_,e⟩,es,et,⟨_,ed⟩,he⟩,o,c,k⟩:=h;refine⟨rfl,?_⟩
  refine⟨_,_,_,.ref d,e,Z.pc,Z.pr,rfl,.inr ⟨_,.inl ⟨_,.inr n,.inl ed,rfl,rfl⟩,?_⟩⟩
  rcases Wq et o n with⟨a,b⟩|⟨x,hx,a,b⟩
  .rw[b] at c;cases c
  .rw[a]
   rw[b] at k
   exact⟨_,_,_,.ref d,e,Z.pc,Z.pr,rfl,_,.inl ⟨_,.inr n,.inl ed,rfl,a.symm⟩,k _ ⟨⟨_,rfl⟩,(he x hx).tk⟩⟩
def Y2(c:(stT T n).isSome=true)(h:bt4 H (stT T n) v):∃a x u,v=.ref a/\T.lookup n=some x/\H a=some (.tup [.str x.k,.str x.p,.int x.r,u])/\TkAt H x.c u:=by
 unfold stT at c h
 cases e:T.lookup n with
 |none=>rw[e] at c;cases c
 |some x=>
  rw[e] at h
  obtain⟨⟨a,rfl⟩,h⟩:=h
  obtain⟨b,xs,eb,hb,h⟩:=h
  cases eb
  obtain⟨v1,r1,rfl,h1,h⟩:=h
  obtain⟨v2,r2,rfl,h2,h⟩:=h
  obtain⟨v3,r3,rfl,h3,h⟩:=h
  obtain⟨v4,r4,rfl,h4,h⟩:=h
  subst h h1 h2 h3
  exact⟨a,x,v4,rfl,rfl,hb,h4⟩
def Jn(e:T.lookup n=some x):(stT T n).isSome=true:=by unfold stT;rw[e];rfl
def bx5(Z:Am K t):OkD K aw9 (Ax K t) bl (t.m_zcf 8) (t.e_zcf 8) (as9 K t):=by
 refine A0 (cc1 K t) λvs H Q E h=>?_
 .obtain⟨p,T,n,x,rfl,hP,o,e,k⟩:=h;refine⟨rfl,?_⟩
  obtain⟨dx,d,⟨_,ep⟩,_⟩:=id hP
  refine⟨p,dx,_,⟨t.c_zcf,R1 K t⟩,rfl,.head _,ep,rfl,ce3,⟨p,T,n,rfl,hP,o,Jn e,λv hv=>?_⟩⟩
  obtain⟨a,x',u,rfl,e',ea,_⟩:=Y2 (Jn e) hv
  rw[e] at e'
  cases e'
  exact⟨_,_,.inr (SqT.of ea),rfl,k⟩
def by3(Z:Am K t):OkD K ax5 (Ax K t) bl (t.m_zcf 9) (t.e_zcf 9) (at9 K t):=by
 refine A0 (cd1 K t) λvs H Q E h=>?_
 .obtain⟨p,T,n,x,rfl,hP,o,e,k⟩:=h;refine⟨rfl,?_⟩
  obtain⟨dx,d,⟨_,ep⟩,_⟩:=id hP
  refine⟨p,dx,_,⟨t.c_zcf,R1 K t⟩,rfl,.head _,ep,rfl,ce3,⟨p,T,n,rfl,hP,o,Jn e,λv hv=>?_⟩⟩
  obtain⟨a,x',u,rfl,e',ea,_⟩:=Y2 (Jn e) hv
  rw[e] at e'
  cases e'
  exact⟨_,_,.inr (SqT.of ea),rfl,k⟩
def a87(Z:Am K t):OkD K Zd (Ax K t) bl (t.m_zcf 14) (t.e_zcf 14) (at0 K t):=by
 refine A0 (cc2 K t) λvs H Q E h=>?_
 .obtain⟨p,T,n,x,rfl,hP,o,e,k⟩:=h;refine⟨rfl,?_⟩
  obtain⟨dx,d,⟨_,ep⟩,_⟩:=id hP
  exact⟨p,dx,_,⟨t.c_zcf,bv4 K t⟩,rfl,.head _,ep,rfl,ce3,⟨p,T,n,x,rfl,hP,o,e,cd9,k⟩⟩
def bx1(Z:Am K t):OkD K aw7 (Ax K t) bl (t.m_zcf 7) (t.e_zcf 7) (as6 K t):=by
 refine A0 (cb7 K t) λvs H Q E h=>?_
 .obtain⟨p,T,n,rfl,hP,o,c,k⟩:=h;refine⟨rfl,?_⟩
  obtain⟨dx,d,⟨_,e⟩,es,et,⟨_,ed⟩,he⟩:=hP
  refine Hh (λ_=>?_) (λ_=>Pj k)
  refine⟨_,_,_,.ref d,e,Z.pc,Z.pr,rfl,.inr ⟨_,.inl ⟨_,.inr n,.inl ed,rfl,rfl⟩,?_⟩⟩
  rcases Wq et o n with⟨a,b⟩|⟨x,_,a,b⟩
  .rw[b] at c;cases c
  .rw[a];exact k
def bx0(Z:Am K t):OkD K aw6 (Ax K t) bl (t.m_zcf 2) (t.e_zcf 2) (as5 K t):=by
 refine A0 (cb6 K t) λvs H Q E h=>?_
 .obtain⟨p,T,n,x,rfl,hP,o,e,k⟩:=h;refine⟨rfl,?_⟩
  obtain⟨dx,d,⟨_,ep⟩,_⟩:=id hP
  refine⟨p,dx,_,⟨t.c_zcf,R1 K t⟩,rfl,.head _,ep,rfl,ce3,⟨p,T,n,rfl,hP,o,Jn e,λv hv=>?_⟩⟩
  obtain⟨a,x',u,rfl,e',ea,tk⟩:=Y2 (Jn e) hv
  rw[e] at e'
  cases e'
  exact⟨_,u,.inr (SqT.of ea),rfl,k u tk⟩
def an6(Z:Am K t):OkD K Xb (Ax K t) bl (t.m_zcf 10) (t.e_zcf 10) (V5 K t):=by
 refine A0 (b37 K t) λvs H Q E h=>?_
 .obtain⟨p,q,T,T',rfl,⟨dx,d,⟨_,e⟩,hT⟩,o,⟨dx',d',⟨_,e'⟩,hT'⟩,o',k⟩:=h;refine⟨rfl,?_⟩
  exact⟨_,_,_,.ref d,e,Z.pc,Z.pr,rfl,_,_,_,.ref d',e',Z.pc,Z.pr,rfl,.inr (.inr (.inr ⟨rfl,d,d',_,_,_,rfl,rfl,hT.dic o,hT'.dic o',decide_eq_true_iff.trans (Pp o o').symm,k⟩))⟩
def Nw{α:Type}{l:List α}{m:Nat}{x:α}{p:α->Bool}(h:l[m]?=some x):(l.take (m+1)).filter p=(l.take m).filter p++(if p x=true then [x] else []):=by
 rw[aN,h,dz,kY]
 congr 1
 cases e:p x <;> simp[e]
def Kq{C l:Addr}{H:Hp}{rs:List ((Nat×Tr)×Addr×Addr)}{rest:St}{tc:DT}{te:DE}{E:EK}{R:Hp->Addr->Prop}{P:Nat×Tr->V->Hp->Prop}(p:Nat×Tr->Bool)(up:∀x v H1 H2,NL H1 H2->P x v H1->P x v H2)(hR:RwAt C H l rs)(few:rs.length<=5)(ht:∀r∈rs,∀H1 Q,Same H H1->Q (p r.1) H1->tc (some (.int (r.1.1:Int))::some (.ref r.2.1)::rest) H1 Q E)(he:∀r∈rs,p r.1=true -> ∀H1 Q,Same H H1->(∀H2 v,Same H1 H2->P r.1 v H2->Q v H2)->te (some (.int (r.1.1:Int))::some (.ref r.2.1)::rest) H1 Q E)(k:∀D H' vs,Same H H'->H' D=some (.lst vs)->eE (λx v=>P x v H') ((rs.map (·.1)).filter p) vs->R H' D) :
  ∀D,H D=none->Fc (Itl K l) (gdT K 2 [gdN 0,gdN 1]) tc te D (λH'=>R H' D) (none::none::rest) (upd H D (.lst [])) E:=by
 intro D hD
 have big:=ce2
 refine Dg (Az (rs.map λr=>V.ref r.2.2)) (λi σ H'=>(∃v0 v1,σ=v0::v1::rest)/\Same H H'/\∃vs,H' D=some (.lst vs)/\eE (λx v=>P x v H') (((rs.map (·.1)).take i).filter p) vs) ⟨⟨_,_,rfl⟩,Same.upd hD,[],Aa,.nil⟩ (λ_ _ H' _ q=>q.2.1.seqL (SqL.of hR.1)) ?_ ?_
 .rintro i x σ H1 hx ⟨⟨v0,v1,rfl⟩,S1,vs,eD,pv⟩
  obtain⟨r,hi,rfl⟩:=Ak hx
  have hm:=ah hi
  have il:=Aj hi
  have fs:=Nw (x:=r.1) (p:=p) (by rw[ao,hi];rfl)
  refine⟨_,.inl (SqT.of (S1 _ _ (hR.2 r hm).1)),rfl,ht r hm H1 _ S1 ?_⟩
  cases c:p r.1 with
  |false=>
   rw[c,if_neg (by decide),b5] at fs
   exact⟨⟨_,_,rfl⟩,S1,vs,eD,by rw[fs];exact pv⟩
  |true=>
   rw[c,if_pos rfl] at fs
   refine he r hm c H1 _ S1 λH2 v S2 q=>?_
   have nl:=NL.upd (m:=vs++[v]) (S2 _ _ eD)
   have lv:=gH pv
   have lf:=bQ p ((rs.map (·.1)).take i)
   rw[aF,ae] at lf
   refine⟨vs,S2 _ _ eD,by omega,⟨_,_,rfl⟩,(S1.trans S2).set hD,_,Aa,?_⟩
   rw[fs]
   exact Paired.snoc (Paired.mapP pv λ_ _ z=>up _ _ _ _ nl (up _ _ _ _ (NL.same S2) z)) (up _ _ _ _ nl q)
 .rintro σ H1 ⟨_,S1,vs,eD,pv⟩
  rw[ae,show(rs.map (·.1)).take rs.length=rs.map (·.1) from cI (by rw[ae];exact af _)] at pv
  exact k D H1 vs S1 eD pv
theorem Vg{α β:Type}{f:α->β}:∀{xs:List α}{ys:List β},eE (λx y=>y=f x) xs ys->ys=xs.map f
 |_,_,.nil=>rfl
 |_,_,.cons r t=>by rw[a7,<- Vg t,r]
theorem ao8{α β γ:Type}{F:α->β->γ->Prop}:∀{xs:List α}{ys:List β},eE (λx y=>∃z,F x y z) xs ys -> ∃es:List (α×β×γ),es.map (·.1)=xs/\es.map (·.2.1)=ys/\∀e∈es,F e.1 e.2.1 e.2.2
 |_,_,.nil=>⟨[],rfl,rfl,λe h=>by cases h⟩
 | _,_,.cons (a:=a) (b:=b) ⟨z,r⟩ t=>by
  obtain⟨es,e1,e2,he⟩:=ao8 t
  refine⟨(a,b,z)::es,by rw[<- e1];rfl,by rw[<- e2];rfl,λe h=>?_⟩
  rcases List.mem_cons.mp h with rfl|h
  .exact r
  .exact he e h
def bx7(Z:Am K t):OkD K ax1 (Ax K t) bl (t.m_zcg 7) (t.e_zcg 7) (at3 K t):=by
 refine A0 (cc4 K t) λvs H Q E h=>?_
 .obtain⟨b,n,sw,gs,rfl,⟨dx,p,l,eb,hp,rs,hR,er⟩,few,ne,k⟩:=h;refine⟨rfl,?_⟩
  have lr:rs.length<=5:=by rw[<- er,ae] at few;exact few
  have hk:∀r∈rs,hsB n (vkT r.1.2,r.1.1)=(stT r.1.2 n).isSome:=λr h=>by rw[bK,hsB_iff];exact Hc (hR.2 r h).2.2 n
  refine⟨_,_,_,_,eb,Z.bc,Z.bk,rfl,.inl ⟨⟨_,SqL.of hR.1⟩,?_⟩⟩
  refine Kq (P:=λx v H=>∃q:Addr×Addr,v=.ref q.2/\H q.2=some (.tup [.int (x.1:Int),.ref q.1])/\PlAt t.c_zcf any H q.1 x.2/\Ba x.2) (λx=>(stT x.2 n).isSome) (λx v H1 H2 nl ⟨q,a,b,c,d⟩=>⟨q,a,nl.tup _ _ b,c.nl nl,d⟩) hR lr (λr hr H1 Q1 S1 q=>?_) (λr hr _ H1 Q1 S1 q=>?_) λD H1 vs S1 eD pv=>?_
  .have hP:=(hR.2 r hr).2.1.up S1
   obtain⟨dx1,d1,⟨_,ep1⟩,_⟩:=id hP
   exact⟨r.2.1,dx1,_,⟨t.c_zcf,a82 K t⟩,rfl,.head _,ep1,rfl,ce3,⟨r.2.1,r.1.2,n,rfl,hP,(hR.2 r hr).2.2,q⟩⟩
  .exact⟨cd9,λT hT=>q _ _ (Same.upd hT) ⟨(r.2.1,T),rfl,Aa,(hR.2 r hr).2.1.up (S1.trans (Same.upd hT)),(hR.2 r hr).2.2⟩⟩
  .obtain⟨es,e1,rfl,he⟩:=ao8 pv
   have e2:(es.map λe=>(e.1,e.2.2)).map (λr:(Nat×Tr)×Addr×Addr=>(vkT r.1.2,r.1.1))=gs.filter (hsB n):=by
    have:=congrArg (k0 λx:Nat×Tr=>(vkT x.2,x.1)) e1
    rw[au] at this
    rw[au,<- er,List.filter_map]
    refine this.trans ?_
    rw[List.filter_map,au,List.filter_congr (p:=(λx:Nat×Tr=>(stT x.2 n).isSome)∘λr:(Nat×Tr)×Addr×Addr=>r.1) (q:=(hsB n)∘λr:(Nat×Tr)×Addr×Addr=>(vkT r.1.2,r.1.1)) λr h=>(hk r h).symm]
    rfl
   have hs:∀e∈es,(stT e.1.2 n).isSome=true:=λe h=>by
    have:e.1∈es.map (·.1):=aL h
    rw[e1] at this
    exact(List.mem_filter.mp this).2
   have le:=congrArg b9 e1
   have lf:=bQ (λx:Nat×Tr=>(stT x.2 n).isSome) (rs.map (·.1))
   rw[ae] at le lf
   refine⟨My,λq hq=>?_⟩
   have Sq:=Same.upd (o:=.lst []) hq
   have em:es.map (·.2.1)=(es.map λe=>(e.1,e.2.2)).map λr:(Nat×Tr)×Addr×Addr=>V.ref r.2.2:=by
    rw[au]
    exact bu λe h=>(he e h).1
   refine .inr (.inr (.inl (.inr (.inr ⟨_,_,SqL.of (Sq _ _ eD),SqL.of Aa,λz=>ne ?_,?_⟩))))
   .rw[ae] at z
    rw[List.length_eq_zero_iff.mp z] at e2
    exact e2.symm
   .refine k _ D _ (S1.trans Sq) (RwAt.up ⟨by rw[eD,em],λr h=>?_⟩ Sq) (by rw[ae];omega) (λr h=>?_) e2
    .obtain⟨e,hm,rfl⟩:=List.mem_map.mp h
     exact(he e hm).2
    .obtain⟨e,hm,rfl⟩:=List.mem_map.mp h
     exact hs e hm
def Kw{α:Type}(l:List α):l.filter (λ_=>true)=l:=List.filter_eq_self.mpr λ_ _=>rfl
def by5(Z:Am K t):OkD K ax7 (Ax K t) bl (t.m_zcg 1) (t.e_zcg 1) (au2 K t):=by
 refine A0 (cd4 K t) λvs H Q E h=>?_
 .obtain⟨b,sw,gs,rfl,⟨dx,p,l,eb,hp,rs,hR,er⟩,few,k⟩:=h;refine⟨rfl,?_⟩
  refine⟨_,_,_,_,eb,Z.bc,Z.bk,rfl,.inl ⟨⟨_,SqL.of hR.1⟩,?_⟩⟩
  refine Kq (P:=λx v _=>v=.int (x.1:Int)) (λ_=>true) (λ_ _ _ _ _ h=>h) hR (by rw[<- er,ae] at few;exact few) (λ_ _ _ _ _ q=>q) (λr hr _ H1 Q1 S1 q=>q _ _ (Same.refl _) rfl) λD H1 vs S1 eD pv=>k H1 D S1 ?_
  rw[Kw] at pv
  rw[eD,Vg pv,<- er,nO,au,au,au]
  rfl
def bh8(Z:Am K t):OkD K W8 (Ax K t) bl (t.m_zcg 9) (t.e_zcg 9) (V2 K t):=by
 refine A0 (b32 K t) λvs H Q E h=>?_
 .obtain⟨b,n,sw,gs,rfl,hb,few,ne,k⟩:=h;refine⟨rfl,?_⟩
  obtain⟨dx,_,_,eb,_⟩:=id hb
  refine⟨b,dx,_,⟨t.c_zcg,ak7 K t⟩,rfl,.head _,eb,rfl,ce3,⟨b,n,sw,gs,rfl,hb,few,ne,λH1 l rs S1 hR lr hs er=>.inl ⟨⟨_,SqL.of hR.1⟩,?_⟩⟩⟩
  refine Kq (P:=λx v _=>v=.int (x.1:Int)) (λ_=>true) (λ_ _ _ _ _ h=>h) hR lr (λ_ _ _ _ _ q=>q) (λr hr _ H1 Q1 S1 q=>q _ _ (Same.refl _) rfl) λD H2 vs S2 eD pv=>?_
  rw[Kw] at pv
  have q:=k H2 (S1.trans S2)
  rw[<- er,au] at q
  rw[Vg pv,au] at eD
  exact⟨D,_,rfl,SqL.of (eD.trans (by rw[au];rfl)),q⟩
theorem PrsAt.up(h:PrsAt H D gs)(S:Same H H'):PrsAt H' D gs:=
 let⟨es,e,eD,he⟩:=h
 ⟨es,e,S _ _ eD,λx hx=>⟨S _ _ (he x hx).1,(he x hx).2.up (NL.same S).tup⟩⟩
def PrsAt.push(h:PrsAt H D gs)(eT:H T=some (.tup [.int (g.2:Int),v]))(tk:TkAt H g.1 v):∃xs,H D=some (.lst xs)/\xs.length=gs.length/\PrsAt (upd H D (.lst (xs++[.ref T]))) D (gs++[g]):=by
 obtain⟨es,rfl,eD,he⟩:=h
 have nl:=NL.upd (m:=(es.map λe=>V.ref e.2.2)++[.ref T]) eD
 refine⟨_,eD,by rw[ae,ae],es++[(g,v,T)],by rw[aw];rfl,by rw[Aa,aw];rfl,λe h=>?_⟩
 rcases List.mem_append.mp h with h|h
 .exact⟨nl.tup _ _ (he e h).1,(he e h).2.up nl.tup⟩
 .obtain rfl:=List.mem_singleton.mp h
  exact⟨nl.tup _ _ eT,tk.up nl.tup⟩
def Tu(o:okC x)(h:TkAt H x v):(∃z,v=.str z) \/ ∃a,v=.ref a:=by
 cases x with
 |at_ k=>
  cases k with
  |inl i=>exact absurd rfl (o.2 i)
  |inr z=>exact .inl ⟨z,h⟩
 |tup l=>unfold TkAt at h;obtain⟨a,_,e,_⟩:=h;exact .inr ⟨a,e⟩
def a78(h:∀q∈r,okC q.1):∀g∈Cr r,okC g.1:=λg hg=>by
 obtain⟨q,hq,e⟩:=List.mem_map.mp (gm_key.mp (aL hg))
 rw[<- e]
 exact h q hq
def aj9(r:List Mk):(Cr r).length<=r.length:=by
 have:=Hv (Jl r) λz=>gm_key.mp
 rwa[ae,ae] at this
def bl0(Z:Am K t):OkD K ag0 (Ax K t) bl (t.f 36) (t.d 36) (Lw K t):=by
 refine A0 (b65 K t) λvs H Q E h=>?_
 .obtain⟨l,ps,rfl,⟨es,ee,el,he⟩,few,ok,k⟩:=h;refine⟨rfl,?_⟩
  have big:=ce2
  have le:=congrArg b9 ee
  rw[ae] at le
  intro sx hsx
  refine .inr ?_
  have S1:=Same.upd (o:=.dT []) hsx
  have e1:upd H sx (.dT []) sx=some (.dT ((Cr (ps.take 0).reverse).map gK)):=Aa
  generalize upd H sx (.dT [])=H1 at S1 e1 ⊢
  refine .inl ⟨⟨_,SqL.of (S1 _ _ el)⟩,?_⟩
  refine A5 (Az (es.map λe=>V.ref e.2.2)) (λi σ H'=>(∃v2 v3,σ=[some (.ref l),some (.ref sx),v2,v3])/\Same H H'/\H' sx=some (.dT ((Cr (ps.take i).reverse).map gK))) ⟨⟨_,_,rfl⟩,S1,e1⟩ (λ_ _ H' _ q=>q.2.1.seqL (SqL.of el)) ?_ ?_
  .rintro i x σ H2 hx ⟨⟨v2,v3,rfl⟩,S2,e2⟩
   obtain⟨e,hi,rfl⟩:=Ak hx
   have hm:=ah hi
   have oe:=ok e.1 (by rw[<- ee];exact aL hm)
   have tk:=(he e hm).2.up (NL.same S2).tup
   have dk:Ap e.1.1<=8/\TkAt H2 e.1.1 e.2.1:=⟨aT oe.1 (by decide),tk⟩
   have gl:=aj9 (ps.take i).reverse
   rw[aS,aF] at gl
   obtain⟨old,ho,hp⟩:=Yj e.1.1 e.1.2 (Jl (ps.take i).reverse)
   refine⟨_,.inl (SqT.of (S2 _ _ (he e hm).1)),rfl,.inr (.inr (.inl ⟨rfl,.inr ⟨_,e2⟩⟩)),_,DGet.t e2 dk,?_⟩
   rw[ho]
   have fin:∃H',DPut H2 sx e.2.1 (.int (cL (old:Int) (e.1.2:Int))) H'/\(∃v2 v3,[some (V.ref l),some (.ref sx),some (.int (e.1.2:Int)),some e.2.1]=[some (.ref l),some (.ref sx),v2,v3])/\Same H H'/\H' sx=some (.dT ((Cr (ps.take (i+1)).reverse).map gK)):=⟨_,DPut.t e2 dk (by rw[ae];omega),⟨_,_,rfl⟩,S2.set hsx,by rw[Aa,C2,hp,X1 (by rw[<- ee,ao,hi];rfl)]⟩
   obtain⟨⟨g,v,T⟩,hg⟩:∃x,x=e:=⟨e,rfl⟩
   subst hg
   rcases Tu oe tk with⟨z,hz⟩|⟨z,hz⟩ <;> (have hz:v=_:=hz;subst hz;exact fin)
  .rintro σ H2 ⟨⟨v2,v3,rfl⟩,S2,e2⟩
   rw[ae,cI (by omega)] at e2
   have gl:=aj9 ps.reverse
   rw[aS] at gl
   have nd:=Jl ps.reverse
   have gok:=a78 (r:=ps.reverse) λq hq=>ok q (List.mem_reverse.mp hq)
   generalize Cr ps.reverse=gs at e2 gl nd gok k
   refine .inl (.inr (.inr (.inr ⟨_,e2,λo D hD=>?_⟩)))
   have ef:upd H2 sx (.frz o (.dT (gs.map gK))) sx=some (.frz o (.dT (gs.map gK))):=Aa
   have Sf:Same H (upd H2 sx (.frz o (.dT (gs.map gK)))):=S2.set hsx
   generalize upd H2 sx (.frz o (.dT (gs.map gK)))=Hf at ef Sf hD ⊢
   refine ah8 (λi σ H'=>(∃v,σ=[v,some (.ref sx)])/\Same Hf H'/\PrsAt H' D (gs.take i)) ⟨⟨_,rfl⟩,Same.upd hD,[],rfl,Aa,λe h=>by cases h⟩ (λ_ _ _ q=>q.2.1 _ _ ef) ?_ ?_
   .rintro i kk vv b σ H4 hi dk ⟨⟨v,rfl⟩,S4,hp⟩
    obtain⟨g,hg,eg⟩:=Ak hi
    obtain⟨rfl,rfl⟩:kk=g.1/\vv=.int (g.2:Int):=by injection eg with a b;exact⟨a,b⟩
    have d:DGet H4 sx b (some (.int (g.2:Int))):=.inr ⟨_,g.1,.inr ⟨o,S4 _ _ ef⟩,dk,(Bo (by rw[Hb];exact nd) hi).symm⟩
    have fin:∀T,H4 T=none -> ∃xs,upd H4 T (.tup [.int (g.2:Int),b]) D=some (.lst xs)/\xs.length<sizeLine/\(∃v,[some b,some (.ref sx)]=[v,some (.ref sx)])/\Same Hf (upd (upd H4 T (.tup [.int (g.2:Int),b])) D (.lst (xs++[.ref T])))/\PrsAt (upd (upd H4 T (.tup [.int (g.2:Int),b])) D (.lst (xs++[.ref T]))) D (gs.take (i+1)):=λT hT=>by
     have ST:=Same.upd (o:=.tup [.int (g.2:Int),b]) hT
     obtain⟨xs,e1,e2,e3⟩:=(hp.up ST).push (g:=g) Aa (dk.2.up (NL.same ST).tup)
     rw[aF] at e2
     exact⟨xs,e1,by omega,⟨_,rfl⟩,(S4.trans ST).set hD,by rw[aN,hg];exact e3⟩
    rcases Tu (gok g (ah hg)) dk.2 with⟨z,rfl⟩|⟨z,rfl⟩ <;> exact⟨_,d,cd9,fin⟩
   .rintro σ H4 ⟨_,S4,hp⟩
    rw[ae,aI] at hp
    exact k H4 D (Sf.trans S4) hp
def b71(o:Ba T)(o':Ba T')(e:vkT T=vkT T')(b:Bool)(n:Str):thT b T n=thT b T' n:=by
 have h:=Lx o o' e n
 unfold stT at h
 unfold thT
 cases a:T.lookup n with
 |none=>
  cases c:T'.lookup n with
  |none=>rfl
  |some y=>rw[a,c] at h;cases h
 |some x=>
  cases c:T'.lookup n with
  |none=>rw[a,c] at h;cases h
  |some y=>
   rw[a,c] at h
   obtain⟨x1,x2,x3,x4⟩:=x
   obtain⟨y1,y2,y3,y4⟩:=y
   cases h
   rfl
def Ws(o:Ba T)(b:Bool)(n:Str):thK b n (vkT T)=thT b T n:=by
 have h:∃T',Ba T'/\vkT T'=vkT T:=⟨T,o,rfl⟩
 unfold thK
 rw[dif_pos h]
 exact b71 h.choose_spec.1 o h.choose_spec.2 b n
theorem ba3(o:Ba T)(h:T.lookup n=some x):∀b,okC (thR b x)
 |true=>o.2.2 _ (Ef h)
 | false=>by
  refine⟨bJ (Ce λk hk=>?_),λi z=>by cases z⟩
  simp only[aB,cf,or_false] at hk
  rcases hk with rfl|rfl|rfl <;> exact Cs _ _
def X0(b:Bool)(hR:RwAt t.c_zcf H l rs)(lr:rs.length<=5)(hs:∀r∈rs,(stT r.1.2 n).isSome=true)(er:(rs.map λr=>(vkT r.1.2,r.1.1))=gs.filter (hsB n))(he:∀r∈rs,∀x,r.1.2.lookup n=some x -> ∀H1 Q,Same H H1->PlAt t.c_zcf any H1 r.2.1 r.1.2->Ba r.1.2->(∀H2 v,Same H1 H2->TkAt H2 (thR b x) v->2<=sizeLine/\∀T,H2 T=none->Q (.ref T) (upd H2 T (.tup [.int (r.1.1:Int),v])))->te (some (.int (r.1.1:Int))::some (.ref r.2.1)::[some (.str n)]) H1 Q E)(k:∀H' D,Same H H'->PrsAt H' D (due b gs n)->Q (.ref D) H') :
  ∀D,H D=none->Fc (Itl K l) (gdT K 2 [gdN 0,gdN 1]) Bv te D (λH'=>spE (Lw K t) [] [.ref D] H' Q E) [none,none,some (.str n)] (upd H D (.lst [])) E:=by
 refine Kq (P:=λx v H=>∃q:V×Addr,v=.ref q.2/\H q.2=some (.tup [.int (x.1:Int),q.1])/\TkAt H (thT b x.2 n) q.1) (λ_=>true) (λx v H1 H2 nl ⟨q,a,b,c⟩=>⟨q,a,nl.tup _ _ b,c.up nl.tup⟩) hR lr (λ_ _ _ _ _ q=>q) (λr hr _ H1 Q1 S1 q=>?_) λD H1 vs S1 eD pv=>?_
 .obtain⟨x,hx,_⟩:=D6 (hR.2 r hr).2.2 ((Cd (hR.2 r hr).2.2 n).mp (hs r hr))
  refine he r hr x hx H1 Q1 S1 ((hR.2 r hr).2.1.up S1) (hR.2 r hr).2.2 λH2 v S2 tk=>⟨by decide,λT hT=>q _ _ (S2.trans (Same.upd hT)) ⟨(v,T),rfl,Aa,?_⟩⟩
  unfold thT
  rw[hx]
  exact tk.up (NL.same (Same.upd hT)).tup
 .rw[Kw] at pv
  obtain⟨es,e1,rfl,hE⟩:=ao8 pv
  have ep:(es.map λe=>((thT b e.1.2 n,e.1.1),e.2.2.1,e.2.2.2)).map (·.1)=(gs.filter (hsB n)).map λg=>(thK b n g.1,g.2):=by
   have:=congrArg (k0 λx:Nat×Tr=>(thT b x.2 n,x.1)) e1
   rw[au,au] at this
   rw[au,<- er,au]
   exact Eq.trans this (bu λr h=>by show(thT b r.1.2 n,_)=(thK b n (vkT r.1.2),_);rw[Ws (hR.2 r h).2.2])
  have le:=congrArg b9 e1
  rw[ae,ae] at le
  refine⟨D,(gs.filter (hsB n)).map (λg:Mk=>(thK b n g.1,g.2)),rfl,⟨_,ep,?_,λe h=>?_⟩,by rw[<- ep,ae,ae];omega,λp hp=>?_,λH2 D2 S2 hp=>k H2 D2 (S1.trans S2) (by unfold due;exact hp)⟩
  .rw[eD,au]
   exact congrArg (λz=>some (HO.lst z)) (bu λe h=>(hE e h).1)
  .obtain⟨e,hm,rfl⟩:=List.mem_map.mp h
   exact⟨(hE e hm).2.1,(hE e hm).2.2⟩
  .rw[<- er,au] at hp
   obtain⟨r,hr,rfl⟩:=List.mem_map.mp hp
   obtain⟨x,hx,_⟩:=D6 (hR.2 r hr).2.2 ((Cd (hR.2 r hr).2.2 n).mp (hs r hr))
   show okC (thK b n (vkT r.1.2))
   rw[Ws (hR.2 r hr).2.2]
   unfold thT
   rw[hx]
   exact ba3 (hR.2 r hr).2.2 hx b
def bh0(Z:Am K t):OkD K W2 (Ax K t) bl (t.m_zcg 4) (t.e_zcg 4) (Vs K t):=by
 refine A0 (b22 K t) λvs H Q E h=>?_
 .obtain⟨b,n,sw,gs,rfl,hb,few,ne,k⟩:=h;refine⟨rfl,?_⟩
  obtain⟨dx,_,_,eb,_⟩:=id hb
  refine⟨b,dx,_,⟨t.c_zcg,ak7 K t⟩,rfl,.head _,eb,rfl,ce3,⟨b,n,sw,gs,rfl,hb,few,ne,λH1 l rs S1 hR lr hs er=>.inl ⟨⟨_,SqL.of hR.1⟩,?_⟩⟩⟩
  refine X0 false hR lr hs er (λr hr x hx H2 Q2 S2 hP o q=>?_) λH2 D S2 hp=>k H2 D (S1.trans S2) hp
  obtain⟨dx1,d1,⟨_,ep1⟩,_⟩:=id hP
  refine⟨r.2.1,dx1,_,⟨t.c_zcf,R1 K t⟩,rfl,.head _,ep1,rfl,ce3,⟨r.2.1,r.1.2,n,rfl,hP,o,Jn hx,λv hv=>?_⟩⟩
  obtain⟨a,x',u,rfl,e,ea,_⟩:=Y2 (Jn hx) hv
  rw[hx] at e
  cases e
  exact⟨_,3,SqT.of ea,rfl,rfl,(show 3<4 by decide),λT hT=>q _ (.ref T) (Same.upd hT) ⟨T,[.str x.k,.str x.p,.int x.r],rfl,Aa,by unfold Au;exact⟨_,_,rfl,by unfold TkAt;rfl,by unfold Au;exact⟨_,_,rfl,by unfold TkAt;rfl,by unfold Au;exact⟨_,_,rfl,by unfold TkAt;rfl,by unfold Au;rfl⟩⟩⟩⟩⟩
def by1(Z:Am K t):OkD K ax2 (Ax K t) bl (t.m_zcg 2) (t.e_zcg 2) (at6 K t):=by
 refine A0 (cc8 K t) λvs H Q E h=>?_
 .obtain⟨b,n,sw,gs,rfl,hb,few,ne,k⟩:=h;refine⟨rfl,?_⟩
  obtain⟨dx,_,_,eb,_⟩:=id hb
  refine⟨b,dx,_,⟨t.c_zcg,ak7 K t⟩,rfl,.head _,eb,rfl,ce3,⟨b,n,sw,gs,rfl,hb,few,ne,λH1 l rs S1 hR lr hs er=>.inl ⟨⟨_,SqL.of hR.1⟩,?_⟩⟩⟩
  refine X0 true hR lr hs er (λr hr x hx H2 Q2 S2 hP o q=>?_) λH2 D S2 hp=>k H2 D (S1.trans S2) hp
  obtain⟨dx1,d1,⟨_,ep1⟩,_⟩:=id hP
  exact⟨r.2.1,dx1,_,⟨t.c_zcf,bu8 K t⟩,rfl,.head _,ep1,rfl,ce3,⟨r.2.1,r.1.2,n,x,rfl,hP,o,hx,λv hv=>q _ v (Same.refl _) hv⟩⟩
end
def F3(T:Tr)(zs:List Str)(z p:Str):chz T (zs++[z]) p=chz T zs p++(if(pT T z)=p then [z] else []):=by
 unfold chz
 congr 1
 by_cases h:(pT T z)=p <;> simp[h]
structure UnI (T:Tr) (N:Addr->Prop) (H:Hp) (u:Addr) (zs:List Str) (kvs:List (Key×V)):Prop where
 at_:H u=some (.dK kvs)
 no:∀p,Bg kvs (.inr p)=none->chz T zs p=[]
 yes:∀p v,Bg kvs (.inr p)=some v -> ∃l,v=.ref l/\H l=some (.lst ((chz T zs p).map V.str))/\N l
 inj:∀p p' v,Bg kvs (.inr p)=some v->Bg kvs (.inr p')=some v->p=p'
 len:kvs.length<=zs.length
section
variable {T:Tr}{N:Addr->Prop}{H:Hp}{u q l:Addr}{zs:List Str}{kvs:List (Key×V)}{z:Str}
def UnI.old(h:UnI T N H u zs kvs)(hq:H q=none)(e:Bg kvs (.inr (pT T z))=some (.ref l)) :
  H l=some (.lst ((chz T zs (pT T z)).map V.str))/\UnI T N (upd (upd H q (.lst [])) l (.lst ((chz T zs (pT T z)).map V.str++[.str z]))) u (zs++[z]) kvs:=by
 obtain⟨l',el,hl,h0⟩:=h.yes _ _ e
 cases el
 have lu:u≠l:=λc=>by rw[<- c,h.at_] at hl;cases hl
 have qu:u≠q:=λc=>by rw[<- c,h.at_] at hq;cases hq
 refine⟨hl,by rw[Ad lu,Ad qu];exact h.at_,λp hp=>?_,λp v hp=>?_,h.inj,by have:=h.len;rw[aG];omega⟩
 .rw[F3,h.no p hp,if_neg (λc=>by rw[c,hp] at e;cases e)]
  rfl
 .obtain⟨l2,rfl,hl2,h2⟩:=h.yes p v hp
  refine⟨l2,rfl,?_,h2⟩
  by_cases c:(pT T z)=p
  .subst c
   rw[hp] at e
   cases e
   rw[Aa,F3,if_pos rfl,aw]
   rfl
  .have n1:l2≠l:=λc2=>by
    rw[c2] at hp
    exact c (h.inj _ _ _ e hp)
   have n2:l2≠q:=λc2=>by rw[c2,hq] at hl2;cases hl2
   rw[Ad n1,Ad n2,F3,if_neg c,b5]
   exact hl2
def UnI.new(h:UnI T N H u zs kvs)(hq:H q=none)(h0q:N q)(e:Bg kvs (.inr (pT T z))=none) :
  UnI T N (upd (upd (upd H q (.lst [])) u (.dK (Bt kvs (.inr (pT T z)) (.ref q)))) q (.lst ([]++[.str z]))) u (zs++[z]) (Bt kvs (.inr (pT T z)) (.ref q)):=by
 have qu:u≠q:=λc=>by have:=h.at_;rw[c,hq] at this;cases this
 have vq:∀p v,Bg kvs (.inr p)=some v->v≠.ref q:=λp v hp c=>by
  obtain⟨l2,rfl,hl2,_⟩:=h.yes p v hp
  cases c
  rw[hq] at hl2
  cases hl2
 refine⟨by rw[Ad qu,Aa],λp hp=>?_,λp v hp=>?_,λp p' v hp hp'=>?_,?_⟩
 .rw[F2] at hp
  split at hp
  .cases hp
  .rename_i c
   rw[F3,h.no p hp,if_neg (λc2=>c (by rw[c2]))]
   rfl
 .rw[F2] at hp
  split at hp
  .rename_i c
   have c:=fN c
   subst c
   cases hp
   refine⟨q,rfl,?_,h0q⟩
   rw[Aa,F3,h.no _ e,if_pos rfl]
   rfl
  .rename_i c
   obtain⟨l2,rfl,hl2,h2⟩:=h.yes p v hp
   have n2:l2≠q:=λc2=>by rw[c2,hq] at hl2;cases hl2
   have n3:l2≠u:=λc2=>by rw[c2,h.at_] at hl2;cases hl2
   refine⟨l2,rfl,?_,h2⟩
   rw[Ad n2,Ad n3,Ad n2,F3,if_neg (λc2=>c (by rw[c2])),b5]
   exact hl2
 .rw[F2] at hp hp'
  split at hp
  .rename_i c
   split at hp'
   .rename_i c'
    exact(fN c).trans (fN c').symm
   .exact absurd (aJ hp).symm (vq p' v hp')
  .split at hp'
   .exact absurd (aJ hp').symm (vq p v hp)
   .exact h.inj p p' v hp hp'
 .have:=De kvs (.inr (pT T z)) (.ref q)
  have:=h.len
  rw[aG,bW]
  omega
end
section
variable {P:a_}{w:bB}{K:ac}{mg:Str->Option am}{base:Heap}{t:Adr}
def X9(h:z∈T.map (·.1))(o:Ba T):∃x,T.lookup z=some x/\pT T z=x.p/\rkT T z=x.r:=by
 obtain⟨x,e,_⟩:=D6 o h
 exact⟨x,e,by unfold pT;rw[e];rfl,by unfold rkT;rw[e];rfl⟩
def ord_mem:z∈Fn T↔z∈T.map (·.1):=(Aw _ _).mem_iff
def bw9(Z:Am K t):OkD K aw5 (Ax K t) bl (t.m_zcf 0) (t.e_zcf 0) (as4 K t):=by
 refine A0 (cb5 K t) λvs H Q E h=>?_
 .obtain⟨p,T,rfl,hP,o,k⟩:=h;refine⟨rfl,?_⟩
  refine λu hu=>.inl ?_
  have S1:=Same.upd (o:=.dK []) hu
  have e1:upd H u (.dK []) u=some (.dK []):=Aa
  generalize upd H u (.dK [])=H1 at S1 e1 ⊢
  have hP1:=hP.up S1
  obtain⟨dx,d,⟨_,e⟩,es,et,⟨_,ed⟩,_⟩:=id hP1
  have l8:(T.map (·.1)).length<=8:=by rw[ae];exact o.2.1
  have ek:(es.map kT).map (·.1)=(T.map (·.1)).map cV:=by rw[<- et,au,au,au];rfl
  refine⟨_,_,_,.ref d,e,Z.pc,Z.pr,rfl,⟨d,p,dx,_,⟨t.c_zcf,bv2 K t⟩,T.map (·.1),rkT T,rfl,.inr ⟨_,.inl ed,ek⟩,o.1,by omega,rfl,.head _,e,rfl,(λz hz H3 S3=>?_),λH3 D S3 hD eD=>.inl ⟨⟨_,SqL.of eD⟩,?_⟩⟩⟩
  .obtain⟨x,ex,_,er⟩:=X9 hz o
   exact⟨p,T,z,x,rfl,hP1.up S3,o,ex,λq hq=>⟨q,rfl,Same.upd hq,by rw[er];exact Aa⟩⟩
  have hD0:=S1.free hD
  have uD:D≠u:=λc=>by rw[c,e1] at hD;cases hD
  have lo:(Fn T).length=(T.map (·.1)).length:=(Aw _ _).length_eq
  have eD:=eD
  refine A5 (Az ((Fn T).map V.str)) (λi σ H'=>(∃v,σ=[some (.ref p),some (.ref u),v])/\Same H H'/\H' D=some (.lst ((Fn T).map V.str))/\∃kvs,UnI T (λl=>H l=none/\l≠D) H' u ((Fn T).take i) kvs)
   ⟨⟨_,rfl⟩,S1.trans S3,eD,[],S3 _ _ e1,(λ_ _=>rfl),(λp v hp=>by cases hp),(λp p' v hp=>by cases hp),bw _⟩ (λi σ' H' _ h=>SqL.of h.2.2.1) ?_ ?_
  .rintro i x σ H4 hx ⟨⟨v,rfl⟩,S4,eD4,kvs,U⟩
   obtain⟨z,hz,rfl⟩:=Ak hx
   have hi:=Aj hz
   have hP4:=hP.up S4
   obtain⟨dx4,d4,⟨_,e4⟩,_⟩:=id hP4
   obtain⟨x,ex,ep,_⟩:=X9 (ord_mem.mp (ah hz)) o
   have tk:(Fn T).take (i+1)=(Fn T).take i++[z]:=by rw[aN,hz];rfl
   have kl:kvs.length<1000:=by have:=U.len;rw[aF] at this;omega
   refine⟨.inr (.inr (.inl ⟨rfl,.inl ⟨kvs,U.at_⟩⟩)),⟨p,dx4,_,⟨t.c_zcf,bv1 K t⟩,rfl,.head _,e4,rfl,ce3,⟨p,T,z,x,rfl,hP4,o,ex,?_⟩⟩⟩
   rw[<- ep]
   refine⟨My,λq hq=>?_⟩
   have S5:=Same.upd (o:=.lst []) hq
   refine .inr ⟨u,.inr (pT T z),.ref q,kvs,rfl,rfl,S5 _ _ U.at_,lK kl (by decide),?_⟩
   have hq3:H q=none/\q≠D:=⟨S4.free hq,λc=>by rw[c,eD4] at hq;cases hq⟩
   cases ev:Bg kvs (.inr (pT T z)) with
   |some v=>
    obtain⟨l,rfl,hl,h0⟩:=U.yes _ _ ev
    obtain⟨hl,U2⟩:=U.old (z:=z) hq ev
    refine⟨.inl ⟨rfl,_,SqL.of (S5 _ _ hl)⟩,l,_,_,rfl,rfl,S5 _ _ hl,?_,⟨⟨_,rfl⟩,(S4.trans S5).set h0.1,?_,kvs,by rw[tk];exact U2⟩⟩
    .rw[ae]
     have:(chz T ((Fn T).take i) (pT T z)).length<=((Fn T).take i).length:=bQ _ _
     rw[aF] at this
     exact be (show _<=10 by omega) (by decide)
    .rw[Ad (cj h0.2)]
     exact S5 _ _ eD4
   |none=>
    have U2:=U.new (z:=z) hq hq3 ev
    have qu:q≠u:=λc=>by have:=U.at_;rw[<- c,hq] at this;cases this
    refine⟨.inl ⟨rfl,[],SqL.of ?_⟩,q,[],_,rfl,rfl,?_,by decide,⟨⟨_,rfl⟩,((S4.trans S5).set hu).set hq3.1,?_,_,by rw[tk];exact U2⟩⟩
    .rw[Ad qu,Aa]
    .rw[Ad qu,Aa]
    .rw[Ad (cj hq3.2),Ad uD,Ad (cj hq3.2)]
     exact eD4
  .rintro σ H4 ⟨⟨v,rfl⟩,S4,eD4,kvs,U⟩
   rw[ae,aI] at U
   refine .inl (k H4 u S4 ⟨kvs,U.at_,λp=>?_⟩)
   split
   .rename_i c;exact U.no p c
   .rename_i v' c
    obtain⟨l,e1,e2,_⟩:=U.yes p v' c
    exact⟨l,e1,e2⟩
def UnAt.up(h:UnAt H u T)(S:Same H H'):UnAt H' u T:=by
 obtain⟨kvs,e,g⟩:=h
 refine⟨kvs,S _ _ e,λp=>?_⟩
 have:=g p
 split at this
 .exact this
 .obtain⟨l,e1,e2⟩:=this
  exact⟨l,e1,S _ _ e2⟩
def UnAt.get(h:UnAt H u T)(p:Str)(hq:H q=some (.lst [])):∃o l,DGet H u (.str p) o/\o.getD (.ref q)=.ref l/\H l=some (Ay (chz T (Fn T) p)):=by
 obtain⟨kvs,e,g⟩:=h
 have:=g p
 split at this
 .rename_i ev
  refine⟨none,q,.inl ⟨kvs,.inr p,.inl e,rfl,ev.symm⟩,rfl,?_⟩
  rw[this]
  exact hq
 .rename_i v ev
  obtain⟨l,rfl,hl⟩:=this
  exact⟨some (.ref l),l,.inl ⟨kvs,.inr p,.inl e,rfl,ev.symm⟩,rfl,hl⟩
def a74(o:Ba T)(p:Str):(chz T (Fn T) p).reverse.Nodup/\(∀z,z∈(chz T (Fn T) p).reverse↔Ch T p z)/\(chz T (Fn T) p).length<=8:=by
 have pm:=Aw (ltK (rkT T)) (T.map (·.1))
 refine⟨?_,λz=>?_,?_⟩
 .exact (gT _).nodup_iff.mpr ((pm.nodup_iff.mpr o.1).sublist kK)
 .unfold chz
  rw[bD,bX,decide_eq_true_iff,ord_mem]
  constructor
  .rintro⟨hz,e⟩
   obtain⟨x,ex,ep,_⟩:=X9 hz o
   exact⟨x,ex,ep▸e⟩
  .rintro⟨x,ex,e⟩
   have hz:z∈T.map (·.1):=List.mem_map.mpr ⟨_,Ef ex,rfl⟩
   obtain⟨x',ex',ep,_⟩:=X9 hz o
   rw[ex] at ex'
   cases ex'
   exact⟨hz,ep.trans e⟩
 .have:=bQ (λz=>decide (pT T z=p)) (Fn T)
  have l:=pm.length_eq
  have:=o.2.1
  unfold chz
  unfold Fn at *
  rw[ae] at l
  omega
theorem R6{H:Hp}{c:Int}:∀{zs}{vs:List V},vs.length=zs.length->(∀(i:Nat) v,vs[i]?=some v -> ∀z,zs[i]?=some z -> ∃q,v=.ref q/\H q=some (.tup [.int c,.str z])) -> ∃es:List ((Int×Str)×Addr),es.map (·.1.2)=zs/\vs=es.map (λe=>.ref e.2)/\∀e∈es,H e.2=some (.tup [.int e.1.1,.str e.1.2])
 |[],[],_,_=>⟨[],rfl,rfl,λe h=>by cases h⟩
 |[],_::_,h,_=>by simp at h
 |_::_,[],h,_=>by simp at h
 | z::zs,v::vs,h,g=>by
  obtain⟨q,rfl,hq⟩:=g 0 v rfl z rfl
  obtain⟨es,e1,e2,e3⟩:=R6 (by simpa using h) λi v h1 z h2=>g (i+1) v h1 z h2
  exact⟨((c,z),q)::es,by rw[a7,e1],by rw[a7,<- e2],λe he=>(List.mem_cons.mp he).elim (λc=>by rw[c];exact hq) (e3 e)⟩
def ah9{a:Addr}{zs:List Str}{H:Hp}{c:Int}{te:DE}{rest:St}{R:Hp->Addr->Prop}{E:EK}(ha:H a=some (Ay zs))(hz:zs.length<=8)(he:∀z (H1:Hp) (Q1:VK),Same H H1->(∀q,H1 q=none->Q1 (.ref q) (upd H1 q (.tup [.int c,.str z])))->te (some (.str z)::rest) H1 Q1 E)(k:∀D H' (es:List ((Int×Str)×Addr)),Same H H'->H D=none->H' D=some (.lst (es.map λe=>.ref e.2))->es.map (·.1.2)=zs.reverse->(∀e∈es,H' e.2=some (.tup [.int e.1.1,.str e.1.2]))->R H' D) :
  ∀D,H D=none->Fc (Oo K a (zs.map V.str).length) (gdN 0) Bv te D (λH'=>R H' D) (none::rest) (upd H D (.lst [])) E:=by
 refine G3 (P:=λi v H'=>∀z,zs.reverse[i]?=some z -> ∃q,v=.ref q/\H' q=some (.tup [.int c,.str z])) (λi v _ _ S q z hz=>let⟨b,e,h⟩:=q z hz;⟨b,e,S.tup _ _ h⟩) (Ra (zs.map V.str)) (λH1 S=>S.seqL (SqL.of ha)) (by rw[aS,ae];omega) (λi x H1 Q1 hx S q=>?_) λD H' vs S hD eD lv hv=>?_
 .rw[<- bZ] at hx
  obtain⟨z,hz,rfl⟩:=Ak hx
  exact he z H1 Q1 S λb hb=>q _ _ (Same.upd hb) λz' hz'=>by rw[hz] at hz';cases hz';exact⟨b,rfl,Aa⟩
 .obtain⟨es,e1,e2,e3⟩:=R6 (by rw[lv,aS,ae,aS]) hv
  exact k D H' es S hD (by rw[eD,e2]) e1 e3
abbrev Ln:=(Int×Str)×Addr
abbrev lnO(es:List Ln):HO:=.lst (es.map λe=>.ref e.2)
structure WkI (T:Tr) (n:Str) (H1:Hp) (f wt:Addr) (fs ws:List Ln) (H:Hp):Prop where
 sm:Same H1 H
 hf:H f=some (lnO fs)
 hw:H wt=some (lnO ws)
 tu:∀e∈fs++ws,H e.2=some (.tup [.int e.1.1,.str e.1.2])
 wi:WInv T n (fs.map (·.1.2)) (ws.map (·.1.2))
def bi3(Z:Am K t):OkD K Xc (Ax K t) bl (t.m_zcf 13) (t.e_zcf 13) (V6 K t):=by
 refine A0 (b38 K t) λvs H Q E h=>?_
 .obtain⟨p,T,n,rfl,hP,o,up,ne,k⟩:=h;refine⟨rfl,?_⟩
  obtain⟨dx,d,⟨_,e⟩,_⟩:=id hP
  have t8:=o.2.1
  refine⟨p,dx,_,⟨t.c_zcf,bu7 K t⟩,rfl,.head _,e,rfl,ce3,⟨p,T,rfl,hP,o,λH1 u S1 hU=>?_⟩⟩
  refine⟨My,λf hf=>?_⟩
  have S2:=Same.upd (o:=.lst []) hf
  have ef:upd H1 f (.lst []) f=some (.lst []):=Aa
  generalize upd H1 f (.lst [])=H2 at S2 ef ⊢
  obtain⟨kvs,eu,_⟩:=(hU.up S2)
  refine⟨.inr (.inr (.inl ⟨rfl,.inl ⟨kvs,eu⟩⟩)),⟨My,λq hq=>?_⟩⟩
  have S3:=Same.upd (o:=.lst []) hq
  have eq:upd H2 q (.lst []) q=some (.lst []):=Aa
  generalize upd H2 q (.lst [])=H3 at S3 eq ⊢
  obtain⟨o1,l,h1,h2,h3⟩:=((hU.up S2).up S3).get n eq
  refine⟨o1,h1,?_⟩
  rw[h2]
  obtain⟨c1,c2,c3⟩:=a74 o n
  refine⟨_,SqL.of h3,?_⟩
  refine ah9 (c:=1) (rest:=[]) h3 c3 (λz H4 Q1 S4 q=>⟨cd9,q⟩) λL H4 ws S4 hL eL el ht=>?_
  have fL:f≠L:=λc=>by rw[<- c,S3 _ _ ef] at hL;cases hL
  have hL1:H1 L=none:=(S2.trans S3).free hL
  have I0:WkI T n H1 f L [] ws H4:=⟨(S2.trans S3).trans S4,S4 _ _ (S3 _ _ ef),eL,ht,by rw[el];exact WInv.first c1 c2⟩
  refine⟨λm σ H'=>∃fs ws v,m=8-fs.length/\σ=[some (.ref p),some (.str n),some (.ref u),some (.ref f),some (.ref L),v]/\WkI T n H1 f L fs ws H',⟨_,_,_,_,rfl,rfl,I0⟩,?_⟩
  clear I0 S4 eL ht hL S3 eq h1 h2 h3 S2 ef el c1 c2 c3
  rintro m σ H5 ⟨fs,ws,v,rfl,rfl,I⟩
  have hl:=I.wi.len
  rw[ae,ae] at hl
  refine⟨My,λq hq=>?_⟩
  have S6:=Same.upd (o:=.lst []) hq
  have eq:upd H5 q (.lst []) q=some (.lst []):=Aa
  generalize upd H5 q (.lst [])=H6 at S6 eq ⊢
  have I:WkI T n H1 f L fs ws H6:=⟨I.sm.trans S6,S6 _ _ I.hf,S6 _ _ I.hw,λe h=>S6 _ _ (I.tu e h),I.wi⟩
  rcases List.eq_nil_or_concat ws with rfl|⟨ws',x,rfl⟩
  .refine .inl ⟨L,q,[],[],rfl,rfl,SqL.of I.hw,SqL.of eq,rfl,rfl,?_⟩
   have w:=I.wi
   rw[eU] at w
   exact k H6 f (fs.map (·.1.2)) (S1.trans I.sm) ⟨fs,rfl,I.hf,λe h=>I.tu e (bo _ h)⟩ w.last.1 w.last.2 (by rw[ae];omega)
  .rw[List.concat_eq_append] at I hl
   have w:=I.wi
   rw[aw] at w
   obtain⟨c1,c2,c3⟩:=a74 o x.1.2
   rw[aG,bW] at hl
   refine .inr (.inr (.inl (.inr (.inr ⟨_,_,SqL.of I.hw,SqL.of eq,by simp,?_⟩))))
   refine⟨λσ H'=>∃fs2 ws2 v2,fs2.length=fs.length+1/\σ=[some (.ref p),some (.str n),some (.ref u),some (.ref f),some (.ref L),v2]/\WkI T n H1 f L fs2 ws2 H',?_,?_⟩
   .rintro σ' H' ⟨fs2,ws2,v2,e1,e2,e3⟩
    exact⟨8-fs2.length,by omega,fs2,ws2,v2,rfl,e2,e3⟩
   .have hw:H6 L=some (.lst ((ws'.map λe=>V.ref e.2)++[.ref x.2])):=by have:=I.hw;rw[lnO,aw] at this;exact this
    refine⟨.inl ⟨rfl,_,SqL.of hw⟩,.inl ⟨L,_,_,rfl,rfl,hw,by rw[aG,bW,Nat.add_sub_cancel];exact List.getElem?_concat_length,?_⟩⟩
    rw[List.dropLast_concat]
    have k7:=NL.upd (m:=ws'.map λe=>V.ref e.2) hw
    have s7:Same H1 (upd H6 L (lnO ws')):=I.sm.set hL1
    have f7:upd H6 L (lnO ws') f=some (lnO fs):=by rw[Ad fL];exact I.hf
    have e7:upd H6 L (lnO ws') L=some (lnO ws'):=Aa
    generalize upd H6 L (lnO ws')=H7 at k7 s7 f7 e7 ⊢
    refine⟨.inl ⟨rfl,_,SqL.of f7⟩,f,_,_,rfl,rfl,f7,be (show(fs.map λe=>V.ref e.2).length<=10 by rw[ae];omega) (by decide),?_⟩
    have k8:=NL.upd (m:=(fs.map λe=>V.ref e.2)++[.ref x.2]) f7
    have s8:Same H1 (upd H7 f (.lst ((fs.map λe=>V.ref e.2)++[.ref x.2]))):=s7.set hf
    have f8:upd H7 f (.lst ((fs.map λe=>V.ref e.2)++[.ref x.2])) f=some (lnO (fs++[x])):=by rw[Aa,lnO,aw];rfl
    have e8:upd H7 f (.lst ((fs.map λe=>V.ref e.2)++[.ref x.2])) L=some (lnO ws'):=by rw[Ad (cj fL)];exact e7
    generalize upd H7 f (.lst ((fs.map λe=>V.ref e.2)++[.ref x.2]))=H8 at k8 s8 f8 e8 ⊢
    have t8':∀e∈fs++(ws'++[x]),H8 e.2=some (.tup [.int e.1.1,.str e.1.2]):=λe h=>k8.tup _ _ (k7.tup _ _ (I.tu e h))
    have tx:=t8' x (by simp)
    obtain⟨kvs,eu,_⟩:=id (hU.up s8)
    refine⟨.inl ⟨rfl,_,SqL.of e8⟩,⟨.inr (.inr (.inl ⟨rfl,.inl ⟨kvs,eu⟩⟩)),⟨_,_,.inr (SqT.of tx),rfl,⟨My,λq2 hq2=>?_⟩⟩⟩⟩
    have S9:=Same.upd (o:=.lst []) hq2
    have e9:upd H8 q2 (.lst []) q2=some (.lst []):=Aa
    generalize upd H8 q2 (.lst [])=H9 at S9 e9 ⊢
    obtain⟨o2,l2,g1,g2,g3⟩:=((hU.up s8).up S9).get x.1.2 e9
    refine⟨o2,g1,?_⟩
    rw[g2]
    refine⟨_,SqL.of g3,?_⟩
    refine ah9 (c:=x.1.1+1) (rest:=[some (.ref x.2)]) g3 c3 (λz H10 Q1 S10 q=>⟨_,_,.inr (SqT.of ((S9.trans S10) _ _ tx)),rfl,cd9,q⟩) λL2 H10 vs S10 hL2 eL2 el ht=>?_
    have S10:=S9.trans S10
    have e10:=S10 _ _ e8
    have l3:=congrArg b9 el
    rw[ae,aS] at l3
    refine⟨L,L2,_,_,rfl,rfl,e10,eL2,aT (show(ws'.map λe=>V.ref e.2).length+(vs.map λe=>V.ref e.2).length<=20 by rw[ae,ae];omega) (by decide),?_⟩
    have k10:=NL.upd (m:=(ws'.map λe=>V.ref e.2)++vs.map λe=>V.ref e.2) e10
    refine⟨fs++[x],ws'++vs,_,by rw[aG,bW],rfl,(s8.trans S10).set hL1,by rw[Ad fL];exact S10 _ _ f8,by rw[Aa,lnO,aw],λe h=>?_,?_⟩
    .rcases List.mem_append.mp h with h|h
     .refine k10.tup _ _ (S10 _ _ (t8' e ?_))
      rcases List.mem_append.mp h with h|h
      .exact bo _ h
      .exact aE _ (aE _ h)
     .rcases List.mem_append.mp h with h|h
      .exact k10.tup _ _ (S10 _ _ (t8' e (aE _ (bo _ h))))
      .exact k10.tup _ _ (ht e h)
    .rw[aw,aw]
     exact w.step up ne (el▸c1) (el▸c2)
def a88(Z:Am K t):OkD K ax4 (Ax K t) bl (t.m_zcf 1) (t.e_zcf 1) (at8 K t):=by
 refine A0 (cd0 K t) λvs H Q E h=>?_
 .obtain⟨p,T,n,rfl,hP,o,up,c,k⟩:=h;refine⟨rfl,?_⟩
  have big:=ce2
  obtain⟨dx,d,⟨_,e⟩,_⟩:=id hP
  have ne:n ≠ "" := λz=>by
   obtain⟨x,ex,hx⟩:=D6 o ((Cd o n).mp c)
   obtain⟨rk,u⟩:=up
   exact(u n x ex).1 z
  refine⟨p,dx,_,⟨t.c_zcf,bu9 K t⟩,rfl,.head _,e,rfl,ce3,⟨p,T,n,rfl,hP,o,c,?_⟩⟩
  refine⟨p,dx,_,⟨t.c_zcf,a81 K t⟩,rfl,.head _,e,rfl,ce3,⟨p,T,n,rfl,hP,o,up,ne,λH1 l zs S1 ⟨es,ee,el,he⟩ nd hz lz=>?_⟩⟩
  have le:es.length=zs.length:=by rw[<- ee,ae]
  refine .inl ⟨⟨_,SqL.of el⟩,λD hD=>?_⟩
  refine Dg (Az (es.map λe=>V.ref e.2)) (λi σ H'=>(∃v0 v1,σ=[v0,v1])/\Same H1 H'/\H' D=some (Ay ((es.take i).map (·.1.2)))) ⟨⟨_,_,rfl⟩,Same.upd hD,Aa⟩ (λ_ _ H' _ q=>q.2.1.seqL (SqL.of el)) ?_ ?_
  .rintro i x σ H2 hx ⟨⟨v0,v1,rfl⟩,S2,eD⟩
   obtain⟨e,hi,rfl⟩:=Ak hx
   refine⟨_,.inl (SqT.of (S2 _ _ (he e (ah hi)))),rfl,_,eD,by rw[ae,ae,aF];omega,⟨_,_,rfl⟩,S2.set hD,?_⟩
   rw[Aa,Cc hi,Ay,aw];rfl
  .rintro σ H2 ⟨_,S2,eD⟩
   rw[ae,aI,ee] at eD
   exact k H2 D zs (S1.trans S2) eD nd hz lz
def bk3(Z:Am K t):OkD K af3 (Ax K t) bl (t.f 39) (t.d 39) (Wl K t):=by
 refine A0 (b58 K t) λvs H Q E h=>?_
 .obtain⟨v,rfl,k⟩:=h;refine⟨rfl,?_⟩
  exact⟨rfl,rfl,k⟩
def bh1(Z:Am K t):OkD K W3 (Ax K t) bl (t.m_zcg 6) (t.e_zcg 6) (Vt K t):=by
 refine A0 (b23 K t) λvs H Q E h=>?_
 .obtain⟨b,n,sw,gs,ns,f,rfl,⟨dx,p,l,eb,⟨l1,s1,h1,h2⟩,rs,hR,er⟩,C,hn,ln,k⟩:=h;refine⟨rfl,?_⟩
  obtain⟨dxp,fs,ep,_,_,hm⟩:=id h1
  refine⟨_,rfl,?_⟩
  refine⟨_,_,_,_,eb,Z.bc,Z.bp,rfl,⟨p,dxp,_,⟨t.c_zce,ak5 K t⟩,rfl,.head _,ep.2,hm _ (by simp),ce3,⟨p,l1,s1,sw,rfl,h1,h2,?_⟩⟩⟩
  refine F9 (decide_eq_true (show(n:Int)<((Al sw).length:Int) by omega)) ?_
  refine⟨_,_,_,_,eb,Z.bc,Z.bk,rfl,(.inl ⟨⟨_,SqL.of hR.1⟩,?_⟩)⟩
  refine A5 (Az (rs.map λr=>V.ref r.2.2)) (λi σ H'=>(∃v2,σ=[some (.ref b),some (.int (n:Int)),v2])/\H'=H/\∀r∈rs.take i,r.1.1.testBit n=false) ⟨⟨_,rfl⟩,rfl,λe h=>by cases h⟩ (λ_ _ H' _ q=>q.2.1▸SqL.of hR.1) ?_ ?_
  .rintro i x σ H1 hx ⟨⟨v2,rfl⟩,rfl,no⟩
   obtain⟨r,hi,rfl⟩:=Ak hx
   have hm:=ah hi
   obtain⟨e1,hP,o1⟩:=hR.2 r hm
   refine⟨_,_,.inr (SqT.of e1),rfl,r.1.1,n,rfl,?_⟩
   cases c:r.1.1.testBit n with
   |true=>exact k r.2.2 _ r.2.1 r.1.2 e1 hP o1 ((C.bit (vkT r.1.2,r.1.1) (by rw[<- er];exact List.mem_map.mpr ⟨r,hm,rfl⟩) n).mp c).2.symm
   |false=>
    refine⟨⟨_,rfl⟩,rfl,λx hx=>?_⟩
    rw[aN,hi] at hx
    rcases List.mem_append.mp hx with hx|hx
    .exact no x hx
    .obtain rfl:x=r:=by simpa using hx
     exact c
  .rintro σ H1 ⟨⟨v2,rfl⟩,rfl,no⟩
   rw[ae,aI] at no
   obtain⟨g,hg,e⟩:=C.cov n hn
   have b0:=(C.bit g hg n).mpr ⟨hn,e.symm⟩
   rw[<- er] at hg
   obtain⟨r,hr,rfl⟩:=List.mem_map.mp hg
   exact absurd (no r hr) (by rw[b0];decide)
def bh7(Z:Am K t):OkD K W7 (Ax K t) bl (t.m_zcg 5) (t.e_zcg 5) (V1 K t):=by
 refine A0 (b31 K t) λvs H Q E h=>?_
 .obtain⟨b,n,sw,gs,ns,f,rfl,hb,C,hn,ln,k⟩:=h;refine⟨rfl,?_⟩
  obtain⟨dx,_,_,eb,_⟩:=id hb
  refine⟨b,dx,_,⟨t.c_zcg,a79 K t⟩,rfl,.head _,eb,rfl,ce3,⟨b,n,sw,gs,ns,f,rfl,hb,C,hn,ln,λa m q T ea hP o e=>?_⟩⟩
  obtain⟨dx1,d1,⟨_,ep1⟩,_⟩:=id hP
  exact⟨_,_,.inr (SqT.of ea),rfl,q,dx1,_,⟨t.c_zcf,be7 K t⟩,rfl,.head _,ep1,rfl,ce3,⟨q,T,rfl,hP,λH' q' S h=>k H' q' T S h o e⟩⟩
def bx9(Z:Am K t):OkD K bb4 (Ax K t) bl (t.f 40) (t.d 40) (Y0 K t):=by
 refine A0 (cc6 K t) λvs H Q E h=>?_
 .obtain⟨b,c,n,sw,sw',gs,gs',ns,f,f',rfl,hb,C,hc,C',hn,ln,ln',k⟩:=h;refine⟨rfl,?_⟩
  obtain⟨dx,_,_,eb,_⟩:=id hb
  refine⟨b,dx,_,⟨t.c_zcg,ak3 K t⟩,rfl,.head _,eb,rfl,ce3,⟨b,n,sw,gs,ns,f,rfl,hb,C,hn,ln,λH1 q T S1 hP o e=>?_⟩⟩
  have hc1:=hc.up S1
  obtain⟨dx',_,_,ec,_⟩:=id hc1
  obtain⟨dx2,d2,⟨_,ep2⟩,_⟩:=id hP
  refine⟨q,dx2,_,⟨t.c_zcf,X5 K t⟩,rfl,.head _,ep2,rfl,ce3,?_⟩
  refine⟨c,dx',_,⟨t.c_zcg,ak3 K t⟩,rfl,.head _,ec,rfl,ce3,⟨c,n,sw',gs',ns,f',rfl,hc1,C',hn,ln',λH2 q' T' S2 hP' o' e'=>?_⟩⟩
  refine⟨q,q',T,T',rfl,hP.up S2,o,hP',o',?_⟩
  have:=k H2 (S1.trans S2)
  rw[<- e,<- e'] at this
  show Q (.bl (decide (vkT T=vkT T')==true)) H2
  rw[show(decide (vkT T=vkT T')==true)=decide (vkT T=vkT T') by cases decide (vkT T=vkT T') <;> rfl]
  exact this
structure FdI (kvs:List (Key×V)) (zs:List Str) (f:Str->V):Prop where
 ks:kvs.map (·.1)=zs.map cV
 nd:zs.Nodup
 val:∀z∈zs,Bg kvs (.inr z)=some (f z)
 no:∀z,z∉zs->Bg kvs (.inr z)=none
def FdI.len{kvs:List (Key×V)}{zs:List Str}{f:Str->V}(h:FdI kvs zs f):kvs.length=zs.length:=by have:=congrArg b9 h.ks;rwa[ae,ae] at this
def FdI.put{kvs:List (Key×V)}{zs:List Str}{f:Str->V}(h:FdI kvs zs f)(z:Str){f':Str->V}(hf:∀y,y≠z->f' y=f y):FdI (Bt kvs (.inr z) (f' z)) (if z∈zs then zs else zs++[z]) f':=by
 have e:(cV z:Key)∈kvs.map (·.1)↔z∈zs:=by rw[h.ks,aq];exact⟨fun⟨x,a,b⟩=>fN b▸a,λa=>⟨z,a,rfl⟩⟩
 have me:∀y,y≠z->(y∈(if z∈zs then zs else zs++[z])↔y∈zs):=λy ny=>by
  split
  .exact iL
  .rw[ax,aH];exact⟨λq=>q.elim id λq=>absurd q ny,.inl⟩
 refine⟨?_,?_,λy hy=>?_,λy hy=>?_⟩
 .rw[Oc]
  by_cases c:z∈zs
  .rw[if_pos (e.mpr c),if_pos c];exact h.ks
  .rw[if_neg (λq=>c (e.mp q)),if_neg c,h.ks,aw];rfl
 .by_cases c:z∈zs
  .rw[if_pos c];exact h.nd
  .rw[if_neg c]
   exact List.nodup_append.mpr ⟨h.nd,by simp,λx hx y hy q=>c (by rw[List.mem_singleton.mp hy] at q;exact q▸hx)⟩
 .rw[F2]
  by_cases c:y=z
  .rw[if_pos (by rw[c]),c]
  .rw[if_neg λq=>c (fN q),h.val y ((me y c).mp hy),hf y c]
 .rw[F2]
  by_cases c:y=z
  .refine absurd ?_ hy
   rw[c]
   split
   .assumption
   .simp
  .rw[if_neg λq=>c (fN q),h.no y λq=>hy ((me y c).mpr q)]
def Vh{zs:List Str}{y z:Str}:y∈(if z∈zs then zs else zs++[z])↔y∈zs\/y=z:=by
 split
 .exact⟨.inl,λq=>q.elim id λq=>by rw[q];assumption⟩
 .rw[ax,aH]
def Yi{zs:List Str}{z:Str}:(if z∈zs then zs else zs++[z]).length<=zs.length+1:=by
 split
 .omega
 .rw[aG];exact af _
def an5(Z:Am K t):OkD K W6 (Ax K t) bl (t.m_zcg 3) (t.e_zcg 3) (V0 K t):=by
 refine A0 (b30 K t) λvs H Q E h=>?_
 .obtain⟨b,sw,gs,rfl,⟨dx,p,l,eb,hp,rs,hR,er⟩,few,k⟩:=h;refine⟨rfl,?_⟩
  have big:=ce2
  have lr:rs.length<=5:=by rw[<- er,ae] at few;exact few
  refine λsx hsx=>.inl ?_
  have S1:=Same.upd (o:=.dK []) hsx
  have e1:upd H sx (.dK []) sx=some (.dK []):=Aa
  generalize upd H sx (.dK [])=H1 at S1 e1 ⊢
  refine⟨_,_,_,_,S1 _ _ eb,Z.bc,Z.bk,rfl,.inl ⟨⟨_,SqL.of (S1 _ _ hR.1)⟩,?_⟩⟩
  refine A5 (Az (rs.map λr=>V.ref r.2.2)) (λi σ H'=>(∃v2 v3 v4,σ=[some (.ref b),some (.ref sx),v2,v3,v4])/\Same H H'/\∃kvs zs,H' sx=some (.dK kvs)/\FdI kvs zs (λ_=>.bl true)/\zs.length<=8*i/\∀z,z∈zs ↔ ∃r∈rs.take i,z∈r.1.2.map (·.1))
   ⟨⟨_,_,_,rfl⟩,S1,[],[],e1,⟨rfl,f_,(λ_ h=>by cases h),λ_ _=>rfl⟩,af _,λz=>⟨(λq=>by cases q),fun⟨r,h,_⟩=>by cases h⟩⟩ (λ_ _ H' _ q=>q.2.1.seqL (SqL.of hR.1)) ?_ ?_
  .rintro i x σ H3 hx ⟨⟨v2,v3,v4,rfl⟩,S3,kvs,zs,e3,F,zl,bt⟩
   obtain⟨r,hi,rfl⟩:=Ak hx
   have hm:=ah hi
   have il:=Aj hi
   obtain⟨er1,hP,oT⟩:=hR.2 r hm
   have hP3:=hP.up S3
   obtain⟨dx3,d3,⟨_,ep3⟩,_⟩:=id hP3
   refine⟨_,.inl (SqT.of (S3 _ _ er1)),rfl,?_⟩
   refine⟨r.2.1,dx3,_,⟨t.c_zcf,X3 K t⟩,rfl,.head _,ep3,rfl,ce3,⟨r.2.1,r.1.2,rfl,hP3,oT,λD hD=>.inl ⟨⟨_,SqL.of Aa⟩,?_⟩⟩⟩
   have pm:=Aw ltS (r.1.2.map (·.1))
   have l8:(Bq ltS (r.1.2.map (·.1))).length<=8:=by rw[pm.length_eq,ae];exact oT.2.1
   have mem:∀z,z∈Bq ltS (r.1.2.map (·.1))↔z∈r.1.2.map (·.1):=λz=>pm.mem_iff
   generalize Bq ltS (r.1.2.map (·.1))=ys at l8 mem
   have eD:upd H3 D (Ay ys) D=some (Ay ys):=Aa
   have S4:=Same.upd (o:=Ay ys) hD
   show Rg (Itl K D) _ _ _ [some (.ref b),some (.ref sx),some (.int (r.1.1:Int)),some (.ref r.2.1),v4] (upd H3 D (Ay ys))
   generalize upd H3 D (Ay ys)=H4 at eD S4 ⊢
   have Ds:D≠sx:=λz=>by rw[z,S4 _ _ e3] at eD;cases eD
   refine A5 (Az (ys.map V.str)) (λk σ H'=>(∃v4,σ=[some (.ref b),some (.ref sx),some (.int (r.1.1:Int)),some (.ref r.2.1),v4])/\Same H H'/\H' D=some (Ay ys)/\∃kvs zs,H' sx=some (.dK kvs)/\FdI kvs zs (λ_=>.bl true)/\zs.length<=8*i+k/\∀z,z∈zs↔(∃r∈rs.take i,z∈r.1.2.map (·.1))\/z∈ys.take k)
    ⟨⟨_,rfl⟩,S3.trans S4,eD,kvs,zs,S4 _ _ e3,F,zl,λz=>by rw[bt];exact⟨.inl,λq=>q.elim id λq=>by cases q⟩⟩ (λ_ _ H' _ q=>SqL.of q.2.2.1) ?_ ?_
   .rintro k x σ H5 hx ⟨⟨v5,rfl⟩,S5,eD5,kvs,zs,e5,F,zl,bt⟩
    obtain⟨z,hz,rfl⟩:=Ak hx
    have kl:=Aj hz
    have len:=F.len
    refine⟨_,DPut.k (k:=.inr z) e5 (by omega),⟨_,rfl⟩,S5.set hsx,by rw[Ad Ds];exact eD5,_,_,Aa,F.put z (f':=λ_=>.bl true) (λ_ _=>rfl),aT Yi (by omega),λy=>?_⟩
    rw[Vh,bt,aN,hz,ax,or_assoc]
    refine or_congr iL (or_congr iL ?_)
    show _↔y∈[z]
    rw[aH]
   .rintro σ H5 ⟨⟨v5,rfl⟩,S5,eD5,kvs,zs,e5,F,zl,bt⟩
    rw[ae] at zl bt
    rw[aI] at bt
    refine .inl ⟨⟨_,_,_,rfl⟩,S5,kvs,zs,e5,F,by omega,λz=>?_⟩
    rw[bt,mem,aN,hi]
    constructor
    .rintro (⟨r',h,q⟩|q)
     .exact⟨r',bo _ h,q⟩
     .exact⟨r,aE _ aD,q⟩
    .rintro⟨r',h,q⟩
     rcases List.mem_append.mp h with h|h
     .exact .inl ⟨r',h,q⟩
     .obtain rfl:r'=r:=by simpa using h
      exact .inr q
  .rintro σ H3 ⟨⟨v2,v3,v4,rfl⟩,S3,kvs,zs,e3,F,zl,bt⟩
   rw[ae] at zl bt
   rw[aI] at bt
   refine .inl ?_
   have pm:=Aw ltS zs
   refine .inr ⟨rfl,.inl ⟨sx,zs,rfl,.inr ⟨kvs,.inl e3,F.ks⟩,F.nd,by omega,λL hL=>k _ L _ (S3.trans (Same.upd hL)) Aa (C8 (Cv F.nd)) (λz=>?_) (by rw[pm.length_eq];omega)⟩⟩
   rw[pm.mem_iff,bt]
   constructor
   .rintro⟨r,hr,q⟩
    refine⟨(vkT r.1.2,r.1.1),by rw[<- er];exact List.mem_map.mpr ⟨r,hr,rfl⟩,(Hc (hR.2 r hr).2.2 z).mpr ((Cd (hR.2 r hr).2.2 z).mpr q)⟩
   .rintro⟨g,hg,q⟩
    rw[<- er] at hg
    obtain⟨r,hr,rfl⟩:=List.mem_map.mp hg
    exact⟨r,hr,(Cd (hR.2 r hr).2.2 z).mp ((Hc (hR.2 r hr).2.2 z).mp q)⟩
def a29{f:Str->Nat}{a:Nat}{y z:Str}{j:Nat}:(if y=z then f z ||| a else f y).testBit j=true↔(f y).testBit j=true\/(y=z/\a.testBit j=true):=by
 by_cases c:y=z
 .rw[if_pos c,fu,cJ,c]
  exact⟨λq=>q.imp id λq=>⟨rfl,q⟩,λq=>q.imp id λq=>q.2⟩
 .rw[if_neg c]
  exact⟨.inl,λq=>q.elim id λq=>absurd q.1 c⟩
def NE(H H':Hp):Prop:=∀a o,o≠.dK []->H a=some o->H' a=some o
def NE.plain(N:NE H H')(h:PlAt C any H q T)(c:(stT T n).isSome=true):PlAt C any H' q T:=by
 obtain⟨dx,d,⟨a,e⟩,es,ee,⟨b,ed⟩,hr⟩:=h
 refine⟨dx,d,⟨a,N _ _ (by simp) e⟩,es,ee,⟨b,N _ _ (λz=>?_) ed⟩,λx hx=>(hr x hx).up λb ys=>N b _ (by simp)⟩
 injection z with z
 rw[List.map_eq_nil_iff.mp z,eU] at ee
 subst ee
 cases c
def X8(o:Ba T)(o':Ba T')(e:vkT T=vkT T')(h:T.lookup z=some x):∃y,T'.lookup z=some y/\y.p=x.p:=by
 have:=Lx o o' e z
 unfold stT at this
 rw[h] at this
 cases h':T'.lookup z with
 |none=>rw[h'] at this;cases this
 |some y=>
  rw[h'] at this
  have:=aJ this
  injection this with this
  injection this with _ this
  injection this with this _
  injection this with this
  injection this with this
  exact⟨y,rfl,this.symm⟩
def bc3(o:Ba T)(o':Ba T')(e:vkT T=vkT T')(b:Bel T n z):Bel T' n z:=by
 induction b with
 |one h e'=>obtain⟨y,h1,h2⟩:=X8 o o' e h;exact .one h1 (h2.trans e')
 |more h b ih=>obtain⟨y,h1,h2⟩:=X8 o o' e h;exact .more h1 (h2▸ih)
def b73(o:Ba T)(o':Ba T')(e:vkT T=vkT T')(u:Up T'):Up T:=by
 obtain⟨rk,u⟩:=u
 refine⟨rk,λn x h=>?_⟩
 obtain⟨y,h1,h2⟩:=X8 o o' e h
 obtain⟨a,b⟩:=u n y h1
 refine⟨a,h2▸b.imp id λb=>⟨?_,b.2⟩⟩
 obtain⟨z,hz⟩:=Option.isSome_iff_exists.mp b.1
 obtain⟨w,h3,_⟩:=X8 o' o e.symm hz
 rw[h3]
 rfl
def Xr(o:Ba T):Zc (vkT T) n z↔Bel T n z:=⟨fun⟨T',o',e,b⟩=>bc3 o' o e b,λb=>⟨T,o,rfl,b⟩⟩
def a89(Z:Am K t):OkD K ax6 (Ax K t) bl (t.m_zcg 0) (t.e_zcg 0) (au1 K t):=by
 refine A0 (cd3 K t) λvs H Q E h=>?_
 .obtain⟨b,n,sw,gs,rfl,hb,few,hup,ne,k⟩:=h;refine⟨rfl,?_⟩
  have big:=ce2
  refine λsx hsx=>.inl ?_
  have S1:=Same.upd (o:=.dK []) hsx
  have e1:upd H sx (.dK []) sx=some (.dK []):=Aa
  generalize upd H sx (.dK [])=H1 at S1 e1 ⊢
  have hb1:=hb.up S1
  obtain⟨dxb,_,_,eb,_⟩:=id hb1
  refine⟨b,dxb,_,⟨t.c_zcg,ak7 K t⟩,rfl,.head _,eb,rfl,ce3,⟨b,n,sw,gs,rfl,hb1,few,ne,λH2 l rs S2 hR lr hs er=>?_⟩⟩
  have r1:∀r∈rs,(vkT r.1.2,r.1.1)∈gs:=λr hr=>by
   have:(vkT r.1.2,r.1.1)∈gs.filter (hsB n):=by rw[<- er];exact List.mem_map.mpr ⟨r,hr,rfl⟩
   exact(List.mem_filter.mp this).1
  have r2:∀g∈gs,Ms g.1 n -> ∃r∈rs,(vkT r.1.2,r.1.1)=g:=λg hg hk=>by
   have:g∈gs.filter (hsB n):=List.mem_filter.mpr ⟨hg,hsB_iff.mpr hk⟩
   rw[<- er] at this
   exact List.mem_map.mp this
  have key:∀z,∀Y:Nat->Prop,(∃r∈rs,Bel r.1.2 n z/\Y r.1.1) ↔ ∃g∈gs,Ms g.1 n/\Zc g.1 n z/\Y g.2:=λz Y=>by
   constructor
   .rintro⟨r,hr,q1,q2⟩
    exact⟨_,r1 r hr,(Hc (hR.2 r hr).2.2 n).mpr (hs r hr),(Xr (hR.2 r hr).2.2).mpr q1,q2⟩
   .rintro⟨g,hg,q0,q1,q2⟩
    obtain⟨r,hr,rfl⟩:=r2 g hg q0
    exact⟨r,hr,(Xr (hR.2 r hr).2.2).mp q1,q2⟩
  have e2:=S2 _ _ e1
  refine .inl ⟨⟨_,SqL.of hR.1⟩,?_⟩
  refine A5 (Az (rs.map λr=>V.ref r.2.2)) (λi σ H'=>(∃v3 v4 v5,σ=[some (.ref b),some (.str n),some (.ref sx),v3,v4,v5])/\Same H H'/\NE H2 H'/\∃kvs zs,∃f:Str->Nat,H' sx=some (.dK kvs)/\FdI kvs zs (λz=>.int (f z:Int))/\(∀z,z∉zs->f z=0)/\zs.length<=8*i/\(∀z,z∈zs ↔ ∃r∈rs.take i,Bel r.1.2 n z)/\∀z j,(f z).testBit j=true ↔ ∃r∈rs.take i,Bel r.1.2 n z/\r.1.1.testBit j=true)
   ⟨⟨_,_,_,rfl⟩,S1.trans S2,(λ_ _ _ e=>e),[],[],(λ_=>0),e2,⟨rfl,f_,(λ_ h=>by cases h),λ_ _=>rfl⟩,(λ_ _=>rfl),af _,(λz=>⟨(λq=>by cases q),fun⟨r,h,_⟩=>by cases h⟩),λz j=>⟨(λq=>by rw[dP] at q;cases q),fun⟨r,h,_⟩=>by cases h⟩⟩ (λ_ _ H' _ q=>SqL.of (q.2.2.1 _ _ (by simp) hR.1)) ?_ ?_
  .rintro i x σ H3 hx ⟨⟨v3,v4,v5,rfl⟩,S3,N3,kvs,zs,f,e3,F,f0,zl,me,bt⟩
   obtain⟨r,hi,rfl⟩:=Ak hx
   have hm:=ah hi
   have il:=Aj hi
   obtain⟨er1,hP,oT⟩:=hR.2 r hm
   have hP3:=N3.plain hP (hs r hm)
   obtain⟨dx3,d3,⟨_,ep3⟩,_⟩:=id hP3
   obtain⟨T',o',e',u'⟩:=hup _ (r1 r hm)
   refine⟨_,.inl (SqT.of (N3 _ _ (by simp) er1)),rfl,?_⟩
   refine⟨r.2.1,dx3,_,⟨t.c_zcf,be5 K t⟩,rfl,.head _,ep3,rfl,ce3,⟨r.2.1,r.1.2,n,rfl,hP3,oT,b73 oT o' e'.symm u',hs r hm,λH4 D ys S4 eD nd mem yl=>.inl ⟨⟨_,SqL.of eD⟩,?_⟩⟩⟩
   have Ds:D≠sx:=λz=>by rw[z,S4 _ _ e3] at eD;cases eD
   refine A5 (Az (ys.map V.str)) (λk σ H'=>(∃v5,σ=[some (.ref b),some (.str n),some (.ref sx),some (.int (r.1.1:Int)),some (.ref r.2.1),v5])/\Same H H'/\NE H2 H'/\H' D=some (Ay ys)/\∃kvs zs,∃f:Str->Nat,H' sx=some (.dK kvs)/\FdI kvs zs (λz=>.int (f z:Int))/\(∀z,z∉zs->f z=0)/\zs.length<=8*i+k/\(∀z,z∈zs↔(∃r∈rs.take i,Bel r.1.2 n z)\/z∈ys.take k)/\∀z j,(f z).testBit j=true↔(∃r∈rs.take i,Bel r.1.2 n z/\r.1.1.testBit j=true)\/(z∈ys.take k/\r.1.1.testBit j=true))
    ⟨⟨_,rfl⟩,S3.trans S4,(λa o q e=>S4 _ _ (N3 a o q e)),eD,kvs,zs,f,S4 _ _ e3,F,f0,zl,(λz=>by rw[me];exact⟨.inl,λq=>q.elim id λq=>by cases q⟩),λz j=>by rw[bt];exact⟨.inl,λq=>q.elim id λq=>by cases q.1⟩⟩ (λ_ _ H' _ q=>SqL.of q.2.2.2.1) ?_ ?_
   .rintro k x σ H5 hx ⟨⟨v5,rfl⟩,S5,N5,eD5,kvs,zs,f,e5,F,f0,zl,me,bt⟩
    obtain⟨z,hz,rfl⟩:=Ak hx
    have kl:=Aj hz
    have len:=F.len
    refine⟨.inr (.inr (.inl ⟨rfl,.inl ⟨kvs,e5⟩⟩)),_,DGet.k (k:=.inr z) e5,?_⟩
    rw[show(Bg kvs (.inr z)).getD (.int 0)=.int (f z:Int) by
     by_cases c:z∈zs
     .rw[F.val z c];rfl
     .rw[F.no z c,f0 z c];rfl]
    show ∃H',DPut H5 sx (.str z) (.int (cL (f z:Int) (r.1.1:Int))) H'/\_
    rw[C2]
    have FP:=F.put z (f':=λy=>.int ((if y=z then f z ||| r.1.1 else f y:Nat):Int)) λy c=>by rw[if_neg c]
    rw[if_pos rfl] at FP
    refine⟨_,DPut.k (k:=.inr z) e5 (by omega),⟨_,rfl⟩,S5.set hsx,λa o q e=>?_,by rw[Ad Ds];exact eD5,_,_,_,Aa,FP,λy c=>?_,aT Yi (by omega),λy=>?_,λy j=>?_⟩
    .rw[Ad λz=>q (by rw[z,e2] at e;exact(aJ e).symm)]
     exact N5 a o q e
    .rw[Vh,not_or] at c
     rw[if_neg c.2,f0 y c.1]
    .rw[Vh,me,aN,hz,ax,or_assoc]
     refine or_congr iL (or_congr iL ?_)
     show _↔y∈[z]
     rw[aH]
    .rw[a29,bt,aN,hz,ax]
     exact⟨λq=>q.elim (λq=>q.imp id λq=>⟨.inl q.1,q.2⟩) λq=>.inr ⟨.inr (by rw[q.1];simp),q.2⟩,λq=>q.elim (λq=>.inl (.inl q)) λq=>q.1.elim (λc=>.inl (.inr ⟨c,q.2⟩)) λc=>.inr ⟨by simpa using c,q.2⟩⟩
   .rintro σ H5 ⟨⟨v5,rfl⟩,S5,N5,eD5,kvs,zs,f,e5,F,f0,zl,me,bt⟩
    rw[ae] at zl bt me
    rw[aI] at bt me
    have one:∀{X:((Nat×Tr)×Addr×Addr)->Prop},(∃r∈rs.take (i+1),X r)↔(∃r∈rs.take i,X r)\/X r:=by
     intro X
     rw[aN,hi]
     constructor
     .rintro⟨r',h,q⟩
      rcases List.mem_append.mp h with h|h
      .exact .inl ⟨r',h,q⟩
      .obtain rfl:r'=r:=by simpa using h
       exact .inr q
     .rintro (⟨r',h,q⟩|q)
      .exact⟨r',bo _ h,q⟩
      .exact⟨r,aE _ aD,q⟩
    exact .inl ⟨⟨_,_,_,rfl⟩,S5,N5,kvs,zs,f,e5,F,f0,by omega,(λz=>by rw[me,mem,one]),λz j=>by rw[bt,mem,one]⟩
  .rintro σ H3 ⟨⟨v3,v4,v5,rfl⟩,S3,N3,kvs,zs,f,e3,F,f0,zl,me,bt⟩
   rw[ae] at zl bt me
   rw[aI] at bt me
   refine .inl ?_
   refine .inr ⟨rfl,.inl ⟨sx,zs,rfl,.inr ⟨kvs,.inl e3,F.ks⟩,F.nd,by omega,λL hL=>.inl ⟨⟨_,SqL.of Aa⟩,λD hD=>?_⟩⟩⟩
   have S4:=S3.trans (Same.upd (o:=.lst ((Bq ltS zs).map V.str)) hL)
   have e4:upd H3 L (.lst ((Bq ltS zs).map V.str)) L=some (.lst ((Bq ltS zs).map V.str)):=Aa
   have e4s:=Same.upd (o:=.lst ((Bq ltS zs).map V.str)) hL _ _ e3
   generalize upd H3 L (.lst ((Bq ltS zs).map V.str))=H4 at S4 e4 e4s hD ⊢
   have pm:=Aw ltS zs
   have ll:(Bq ltS zs).length=zs.length:=pm.length_eq
   refine Dg (Az ((Bq ltS zs).map V.str)) (λi σ H'=>(∃v,σ=[v,some (.ref sx)])/\Same H4 H'/\∃es:List ((Str×Nat)×Addr),es.map (·.1)=((Bq ltS zs).take i).map (λz=>(z,f z))/\H' D=some (.lst (es.map λe=>.ref e.2))/\∀e∈es,H' e.2=some (.tup [.str e.1.1,.int (e.1.2:Int)])) ⟨⟨_,rfl⟩,Same.upd hD,[],rfl,Aa,λe h=>by cases h⟩ (λ_ _ H' _ q=>SqL.of (q.2.1 _ _ e4)) ?_ ?_
   .rintro i x σ H5 hx ⟨⟨v,rfl⟩,S5,es,ee,eD,he⟩
    obtain⟨z,hz,rfl⟩:=Ak hx
    have il:=Aj hz
    have hzs:=pm.mem_iff.mp (ah hz)
    have le:es.length=i:=by have:=congrArg b9 ee;rw[ae,ae,aF] at this;omega
    refine⟨_,.inl ⟨kvs,.inr z,.inl (S5 _ _ e4s),rfl,(F.val z hzs).symm⟩,cd9,λT hT=>?_⟩
    have ST:=Same.upd (o:=.tup [.str z,.int (f z:Int)]) hT
    have nT:∀e∈es,e.2≠D:=λe h c=>by have:=he e h;rw[c,eD] at this;cases this
    refine⟨_,ST _ _ eD,by rw[ae];omega,⟨_,rfl⟩,(S5.trans ST).set hD,es++[((z,f z),T)],by rw[aw,ee,aN,hz,aw];rfl,by rw[Aa,aw];rfl,λe h=>?_⟩
    rcases List.mem_append.mp h with h|h
    .rw[Ad (nT e h)];exact ST _ _ (he e h)
    .obtain rfl:e=((z,f z),T):=by simpa using h
     rw[Ad λc:T=D=>by rw[c,eD] at hT;cases hT];exact Aa
   .rintro σ H5 ⟨_,S5,es,ee,eD,he⟩
    rw[ae,aI] at ee
    have ez:es.map (·.1.1)=Bq ltS zs:=by have:=congrArg (k0 lP) ee;rw[au,au] at this;exact this.trans (List.map_id' _)
    refine k H5 D (S4.trans S5) ⟨es,by rw[ez];exact C8 (Cv F.nd),λz=>?_,?_,eD,λe h=>⟨he e h,λj=>?_⟩⟩
    .rw[ez,pm.mem_iff,me]
     have:=key z λ_=>True
     exact⟨fun⟨r,hr,q⟩=>let⟨g,a,b,c,_⟩:=this.mp ⟨r,hr,q,trivial⟩;⟨g,a,b,c⟩,fun⟨g,a,b,c⟩=>let⟨r,hr,q,_⟩:=this.mpr ⟨g,a,b,c,trivial⟩;⟨r,hr,q⟩⟩
    .have:=congrArg b9 ee
     rw[ae,ae] at this
     omega
    .have:e.1∈(Bq ltS zs).map (λz=>(z,f z)):=by rw[<- ee];exact aL h
     obtain⟨z,_,q⟩:=List.mem_map.mp this
     rw[<- q]
     rw[bt]
     exact key z λm=>m.testBit j=true
def Zf(H:Hp)(a:Addr)(xs:List TK):Prop:=∃vs,H a=some (.lst vs)/\Au H xs vs
theorem Ic{α:Type}{H:Hp}{f:α->TK}{g:α->V}:∀{l:List α},(∀e∈l,TkAt H (f e) (g e))->Au H (l.map f) (l.map g)
 |[],_=>by rw[eU,eU];unfold Au;rfl
 |e::l,h=>by rw[a7,a7];unfold Au;exact⟨_,_,rfl,h e aD,Ic λx hx=>h x (aA _ hx)⟩
theorem Wu:∀{l:List TK}{vs:List V},Au H l vs->AtL K H (E5 l) vs
 |[],_,h=>by unfold Au at h;unfold E5 AtL;exact h
 |x::l,_,h=>by unfold Au at h;obtain⟨v,r,e,q1,q2⟩:=h;unfold E5 AtL;exact⟨v,r,e,br7 _ q1,Wu q2⟩
def R8(h:Zf H a xs)(h':Zf H b ys)(d:∀x∈xs,Ap x<=3)(q:Q (.bl (!decide (xs=ys))) H):Bp K true (.ref a) (.ref b) H Q:=by
 obtain⟨vs,e,t1⟩:=h
 obtain⟨vs',e',t2⟩:=h'
 have dd:=a64 (.tup xs)
 have de:=br8 (.tup xs) (.tup ys)
 unfold tkD at dd de
 unfold deq at de
 unfold dep Ap at dd
 refine .inr (.inl ⟨.lst (E5 xs),.lst (E5 ys),ah0 (SqL.of e) (Wu t1),ah0 (SqL.of e') (Wu t2),?_,?_⟩)
 .unfold dep
  rw[dd]
  exact aT (bJ (Ce d)) (by decide)
 .unfold deq
  rw[de,decide_eq_decide.mpr (⟨λe=>by injection e,λe=>by rw[e]⟩)]
  exact q
def a86(h:H a=some (Ay zs)):Zf H a (zs.map λz=>.at_ (.inr z)):=⟨_,h,Ic λe _=>by unfold TkAt;rfl⟩
def Ya(h:H a=some (nO ms)):Zf H a (ms.map λn:Nat=>.at_ (.inl (n:Int))):=⟨_,h,Ic λe _=>by unfold TkAt;rfl⟩
def bd3{zs:List Str}:∀x∈zs.map λz=>TK.at_ (.inr z),Ap x<=3:=λx h=>by obtain⟨z,_,rfl⟩:=List.mem_map.mp h;exact Cs _ _
def ai8{ms:List Nat}:∀x∈ms.map λn:Nat=>TK.at_ (.inl (n:Int)),Ap x<=3:=λx h=>by obtain⟨z,_,rfl⟩:=List.mem_map.mp h;exact Cs _ _
def two(a b:TK):TK:=.tup [a,b]
def av3(e:H T=some (.tup [u,v]))(h1:TkAt H a u)(h2:TkAt H b v):TkAt H (two a b) (.ref T):=by
 refine⟨T,_,rfl,e,?_⟩
 unfold Au;refine⟨_,_,rfl,h1,?_⟩
 unfold Au;refine⟨_,_,rfl,h2,?_⟩
 unfold Au;rfl
def Y8(h1:Ap a<=n)(h2:Ap b<=n):Ap (two a b)<=n+1:=by
 refine bJ (Ce λk hk=>?_)
 simp only[aB,cf,or_false] at hk
 rcases hk with rfl|rfl
 .exact h1
 .exact h2
def prT(g:Mk):TK:=two (.at_ (.inl (g.2:Int))) g.1
def PrsAt.ls(h:PrsAt H a gs):Zf H a (gs.map prT):=by
 obtain⟨es,rfl,ea,he⟩:=h
 refine⟨_,ea,?_⟩
 rw[au]
 exact Ic λe h=>av3 (he e h).1 (by unfold TkAt;rfl) (he e h).2
theorem Xo:∀{gs gs':List Mk},gs.map (·.2)=gs'.map (·.2)->((gs.zip gs').map λp=>decide (p.1.1=p.2.1)).all (λb=>b)=decide (gs=gs')
 |[],[],_=>(decide_eq_true rfl).symm
 |[],_::_,h=>by cases h
 |_::_,[],h=>by cases h
 | g::gs,g'::gs',h=>by
  injection h with h1 h2
  rw[gG,a7,bV,Xo h2,<- Bool.decide_and]
  refine decide_eq_decide.mpr ⟨fun⟨a,b⟩=>?_,λe=>?_⟩
  .rw[b,show g=g' from lO a h1]
  .injection e with a b
   exact⟨by rw[a],b⟩
def an7(Z:Am K t):OkD K Xd (Ax K t) bl (t.m_zcg 8) (t.e_zcg 8) (V9 K t):=by
 refine A0 (b43 K t) λvs H Q E h=>?_
 .obtain⟨b,c,sw,sw',gs,gs',rfl,hb,few,hc,few',k⟩:=h;refine⟨rfl,?_⟩
  have big:=ce2
  obtain⟨dx,_,_,eb,_⟩:=id hb
  refine⟨b,dx,_,⟨t.c_zcg,Zx K t⟩,rfl,.head _,eb,rfl,ce3,⟨b,sw,gs,rfl,hb,few,λH1 D1 S1 e1=>?_⟩⟩
  obtain⟨dx',_,_,ec,_⟩:=(hc.up S1)
  refine⟨c,dx',_,⟨t.c_zcg,Zx K t⟩,rfl,.head _,ec,rfl,ce3,⟨c,sw',gs',rfl,hc.up S1,few',λH2 D2 S2 e2=>?_⟩⟩
  have S02:=S1.trans S2
  have ic:∀{x y:List Nat},(x.map λn:Nat=>TK.at_ (.inl (n:Int)))=(y.map λn:Nat=>TK.at_ (.inl (n:Int)))->x=y:=λh=>(List.map_inj_right λa b h=>by injection h with h;injection h with h;exact Int.ofNat.inj h).mp h
  refine R8 (Ya (S2 _ _ e1)) (Ya e2) ai8 ?_
  by_cases q:gs.map (·.2)=gs'.map (·.2)
  .refine Cg (by rw[q,decide_eq_true rfl];rfl) ?_
   obtain⟨dx,p,l,eb,_,rs,hR,er⟩:=(hb.up S02)
   obtain⟨dx',p',l',ec,_,rs',hR',er'⟩:=(hc.up S02)
   refine⟨_,_,_,_,eb,Z.bc,Z.bk,rfl,_,_,_,_,ec,Z.bc,Z.bk,rfl,⟨_,SqL.of hR.1⟩,⟨_,SqL.of hR'.1⟩,λD hD=>?_⟩
   have lr:rs.length<=5:=by rw[<- er,ae] at few;exact few
   have ez:=List.zip_map (l₁:=rs) (l₂:=rs') (f:=λr=>V.ref r.2.2) (g:=λr=>V.ref r.2.2)
   have lz:(rs.zip rs').length<=5:=by rw[List.length_zip];omega
   refine G1 (bs8 (rs.map λr=>V.ref r.2.2) (rs'.map λr=>V.ref r.2.2)) (λi σ H'=>(∃v0 v1,σ=[v0,v1])/\Same H2 H'/\H' D=some (.lst ((((rs.zip rs').take i).map λp=>decide (vkT p.1.1.2=vkT p.2.1.2)).map V.bl))) ⟨⟨_,_,rfl⟩,Same.upd hD,Aa⟩ (λ_ _ H' _ q=>⟨q.2.1.seqL (SqL.of hR.1),q.2.1.seqL (SqL.of hR'.1)⟩) ?_ ?_
   .rintro i x y T σ H3 hx hT ⟨⟨v0,v1,rfl⟩,S3,eD⟩
    rw[ez] at hx
    obtain⟨⟨r,r'⟩,hi,e⟩:=Ak hx
    obtain⟨rfl,rfl⟩:x=V.ref r.2.2/\y=V.ref r'.2.2:=by injection e with a b;exact⟨a,b⟩
    have il:=Aj hi
    obtain⟨m1,m2⟩:=gE (ah hi)
    have ST:=S3.trans (Same.upd (o:=.tup [.ref r.2.2,.ref r'.2.2]) hT)
    have eD:=Same.upd (o:=.tup [.ref r.2.2,.ref r'.2.2]) hT _ _ eD
    have eT:upd H3 T (.tup [.ref r.2.2,.ref r'.2.2]) T=some (.tup [.ref r.2.2,.ref r'.2.2]):=Aa
    generalize upd H3 T (.tup [.ref r.2.2,.ref r'.2.2])=H4 at ST eD eT ⊢
    have hP:=(hR.2 r m1).2.1.up ST
    obtain⟨dx1,d1,⟨_,ep1⟩,_⟩:=id hP
    refine⟨_,.inl (SqT.of eT),rfl,_,_,.inr (SqT.of (ST _ _ (hR.2 r m1).1)),rfl,r.2.1,dx1,_,⟨t.c_zcf,X5 K t⟩,rfl,.head _,ep1,rfl,ce3,_,_,.inr (SqT.of (ST _ _ (hR'.2 r' m2).1)),rfl,⟨r.2.1,r'.2.1,r.1.2,r'.1.2,rfl,hP,(hR.2 r m1).2.2,(hR'.2 r' m2).2.1.up ST,(hR'.2 r' m2).2.2,?_⟩⟩
    refine⟨_,eD,by rw[ae,ae,aF];omega,⟨_,_,rfl⟩,ST.set hD,?_⟩
    rw[Aa,aN,hi,dz,aw,aw]
    rfl
   .rintro σ H3 ⟨_,S3,eD⟩
    rw[ez,ae,aI] at eD
    refine⟨_,SqL.of eD,?_⟩
    have:((rs.zip rs').map λp=>decide (vkT p.1.1.2=vkT p.2.1.2)).all (λb=>b)=decide (gs=gs'):=by
     have e1:((rs.zip rs').map λp=>decide (vkT p.1.1.2=vkT p.2.1.2))=(gs.zip gs').map λp=>decide (p.1.1=p.2.1):=by
      rw[<- er,<- er',List.zip_map,au]
      rfl
     rw[e1]
     exact Xo q
    rw[this]
    exact k H3 (S02.trans S3)
  .refine F9 (by rw[decide_eq_false λh=>q (ic h)];rfl) ?_
   have:=k H2 S02
   rw[decide_eq_false λh=>q (by rw[h])] at this
   exact this
def ag8{zs zs':List Str}(p:zs.Pairwise (λa b=>ltS a b=true))(p':zs'.Pairwise (λa b=>ltS a b=true))(h:∀z,z∈zs↔z∈zs'):zs=zs':=by
 have nd:∀{l:List Str},l.Pairwise (λa b=>ltS a b=true)->l.Nodup:=λh=>h.imp λ{a b} q e=>by subst e;exact iO _ (of_decide_eq_true q)
 exact F7 (Cv (nd p)) ((cW (nd p) (nd p')).mpr h) p p'
theorem Yg:∀{ps qs:List (Str×Nat)},ps.map (·.1)=qs.map (·.1)->(∀p∈ps,∀q∈qs,p.1=q.1->p.2=q.2)->ps=qs
 |[],[],_,_=>rfl
 |[],_::_,h,_=>by cases h
 |_::_,[],h,_=>by cases h
 | p::ps,q::qs,h,g=>by
  injection h with h1 h2
  rw[Yg h2 λa ha b hb=>g a (aA _ ha) b (aA _ hb),lO h1 (g p aD q aD h1)]
def bnT(p:Str×Nat):TK:=two (.at_ (.inr p.1)) (.at_ (.inl (p.2:Int)))
def a73(h:BnAt H a gs n):∃ps:List (Str×Nat),Zf H a (ps.map bnT)/\(ps.map (·.1)).Pairwise (λa b=>ltS a b=true)/\(∀z,z∈ps.map (·.1) ↔ ∃g∈gs,Ms g.1 n/\Zc g.1 n z)/\∀p∈ps,∀j,p.2.testBit j=true ↔ ∃g∈gs,Ms g.1 n/\Zc g.1 n p.1/\g.2.testBit j=true:=by
 obtain⟨es,pw,me,_,ea,he⟩:=h
 refine⟨es.map (·.1),⟨_,ea,?_⟩,by rw[au];exact pw,by rw[au];exact me,λp hp=>?_⟩
 .rw[au]
  exact Ic λe h=>av3 (he e h).1 (by unfold TkAt;rfl) (by unfold TkAt;rfl)
 .obtain⟨e,h,rfl⟩:=List.mem_map.mp hp
  exact(he e h).2
def BnAt.up{H H':Hp}{a:Addr}{gs:List Mk}{n:Str}(h:BnAt H a gs n)(S:Same H H'):BnAt H' a gs n:=
 let⟨es,pw,me,l,ea,he⟩:=h
 ⟨es,pw,me,l,S _ _ ea,λe q=>⟨S _ _ (he e q).1,(he e q).2⟩⟩
def bt8{H:Hp}{a b:Addr}{gs:List Mk}{n:Str}{Q:VK}(h:BnAt H a gs n)(h':BnAt H b gs n)(q:Q (.bl false) H):Bp K true (.ref a) (.ref b) H Q:=by
 obtain⟨ps,l1,w1,m1,b1⟩:=a73 h
 obtain⟨ps',l2,w2,m2,b2⟩:=a73 h'
 obtain rfl:=Yg (ag8 w1 w2 λz=>by rw[m1,m2]) λp hp q hq e=>Lk λj=>by rw[b1 p hp,b2 q hq,e]
 refine R8 l1 l2 (λx hx=>?_) (by rw[decide_eq_true rfl];exact q)
 obtain⟨p,_,rfl⟩:=List.mem_map.mp hx
 exact aT (Y8 (n:=0) (Cs _ _) (Cs _ _)) (by decide)
def bd6(h:∀g∈gs,UpK g.1)(b:Bool):∀g∈due b gs n,okC g.1:=by
 refine a78 λq hq=>?_
 rw[bD] at hq
 obtain⟨g,hg,rfl⟩:=List.mem_map.mp hq
 obtain⟨hg,c⟩:=List.mem_filter.mp hg
 obtain⟨T,o,e,_⟩:=h g hg
 rw[hsB_iff,<- e,Hc o,Cd o] at c
 obtain⟨x,hx,_⟩:=D6 o c
 rw[<- e,Ws o]
 unfold thT
 rw[hx]
 exact ba3 o hx b
def aj2{H:Hp}{a c:Addr}{gs:List Mk}{n:Str}{Q:VK}{b:Bool}(hu:∀g∈gs,UpK g.1)(h:PrsAt H a (due b gs n))(h':PrsAt H c (due b gs n))(q:Q (.bl false) H):Bp K true (.ref a) (.ref c) H Q:=by
 refine R8 h.ls h'.ls (λx hx=>?_) (by rw[decide_eq_true rfl];exact q)
 obtain⟨g,hg,rfl⟩:=List.mem_map.mp hx
 exact Y8 (Cs _ _) (bd6 hu b g hg).1
def by0(Z:Am K t):OkD K bb5 (Ax K t) bl (t.f 37) (t.d 37) (at5 K t):=by
 refine A0 (cc7 K t) λvs H Q E h=>?_
 .obtain⟨b,c,sw,sw',gs,rfl,hb,hc,few,hu,k⟩:=h;refine⟨rfl,?_⟩
  have two:∀{H':Hp},Same H H'->(∃dx p l,H' b=some (.ins t.c_zcg dx [("panel", .ref p),("kept", .ref l)]))/\∃dx p l,H' c=some (.ins t.c_zcg dx [("panel", .ref p),("kept", .ref l)]):=λS=>by
   obtain⟨dx,p,l,e,_⟩:=hb.up S
   obtain⟨dx',p',l',e',_⟩:=hc.up S
   exact⟨⟨dx,p,l,e⟩,dx',p',l',e'⟩
  obtain⟨dx,p,l,eb,_⟩:=id hb
  refine⟨b,dx,_,⟨t.c_zcg,X4 K t⟩,rfl,.tail _ (.head _),eb,rfl,ce3,⟨b,sw,gs,rfl,hb,few,λH1 D1 zs1 S1 e1 w1 m1 _=>?_⟩⟩
  obtain⟨_,dx,p,l,ec⟩:=two S1
  refine⟨c,dx,_,⟨t.c_zcg,X4 K t⟩,rfl,.tail _ (.head _),ec,rfl,ce3,⟨c,sw',gs,rfl,hc.up S1,few,λH2 D2 zs2 S2 e2 w2 m2 _=>?_⟩⟩
  obtain rfl:=ag8 w1 w2 λz=>by rw[m1,m2]
  refine R8 (a86 (S2 _ _ e1)) (a86 e2) bd3 (Cg (by rw[decide_eq_true rfl];rfl) ?_)
  have S02:=S1.trans S2
  obtain⟨⟨dx,p,l,eb⟩,_⟩:=two S02
  refine⟨b,dx,_,⟨t.c_zcg,Zx K t⟩,rfl,.head _,eb,rfl,ce3,⟨b,sw,gs,rfl,hb.up S02,few,λH3 D3 S3 e3=>?_⟩⟩
  have S03:=S02.trans S3
  obtain⟨_,dx,p,l,ec⟩:=two S03
  refine⟨c,dx,_,⟨t.c_zcg,Zx K t⟩,rfl,.head _,ec,rfl,ce3,⟨c,sw',gs,rfl,hc.up S03,few,λH4 D4 S4 e4=>?_⟩⟩
  refine R8 (Ya (S4 _ _ e3)) (Ya e4) ai8 (Cg (by rw[decide_eq_true rfl];rfl) ?_)
  have S04:=S03.trans S4
  obtain⟨⟨dx,p,l,eb⟩,_⟩:=two S04
  refine⟨b,dx,_,⟨t.c_zcg,X4 K t⟩,rfl,.tail _ (.head _),eb,rfl,ce3,⟨b,sw,gs,rfl,hb.up S04,few,λH5 D5 zs S5 e5 w5 m5 _=>.inl ⟨⟨_,SqL.of e5⟩,?_⟩⟩⟩
  have S05:=S04.trans S5
  refine A5 (Az (zs.map V.str)) (λi σ H'=>(∃v2,σ=[some (.ref b),some (.ref c),v2])/\Same H5 H') ⟨⟨_,rfl⟩,Same.refl _⟩ (λ_ _ H' _ q=>q.2.seqL (SqL.of e5)) ?_ ?_
  .rintro i x σ H6 hx ⟨⟨v2,rfl⟩,S6⟩
   obtain⟨n,hi,rfl⟩:=Ak hx
   have ne:gs.filter (hsB n)≠[]:=λz=>by
    obtain⟨g,hg,hk⟩:=(m5 n).mp (ah hi)
    have:g∈gs.filter (hsB n):=List.mem_filter.mpr ⟨hg,hsB_iff.mpr hk⟩
    rw[z] at this
    cases this
   have T0:=S05.trans S6
   obtain⟨⟨dx,p,l,eb⟩,_⟩:=two T0
   refine⟨b,dx,_,⟨t.c_zcg,ak4 K t⟩,rfl,.head _,eb,rfl,ce3,⟨b,n,sw,gs,rfl,hb.up T0,few,ne,λH7 S7=>?_⟩⟩
   have T1:=T0.trans S7
   obtain⟨_,dx,p,l,ec⟩:=two T1
   refine⟨c,dx,_,⟨t.c_zcg,ak4 K t⟩,rfl,.head _,ec,rfl,ce3,⟨c,n,sw',gs,rfl,hc.up T1,few,ne,λH8 S8=>Cg (by rw[decide_eq_true rfl];rfl) ?_⟩⟩
   have T2:=T1.trans S8
   obtain⟨⟨dx,p,l,eb⟩,_⟩:=two T2
   refine⟨b,dx,_,⟨t.c_zcg,ak2 K t⟩,rfl,.head _,eb,rfl,ce3,⟨b,n,sw,gs,rfl,hb.up T2,few,ne,λH9 D9 S9 p9=>?_⟩⟩
   have T3:=T2.trans S9
   obtain⟨_,dx,p,l,ec⟩:=two T3
   refine⟨c,dx,_,⟨t.c_zcg,ak2 K t⟩,rfl,.head _,ec,rfl,ce3,⟨c,n,sw',gs,rfl,hc.up T3,few,ne,λH10 D10 S10 p10=>aj2 hu (p9.up S10) p10 (Pj ?_)⟩⟩
   have T4:=T3.trans S10
   obtain⟨⟨dx,p,l,eb⟩,_⟩:=two T4
   refine⟨b,dx,_,⟨t.c_zcg,be3 K t⟩,rfl,.head _,eb,rfl,ce3,⟨b,n,sw,gs,rfl,hb.up T4,few,ne,λH11 D11 S11 p11=>?_⟩⟩
   have T5:=T4.trans S11
   obtain⟨_,dx,p,l,ec⟩:=two T5
   refine⟨c,dx,_,⟨t.c_zcg,be3 K t⟩,rfl,.head _,ec,rfl,ce3,⟨c,n,sw',gs,rfl,hc.up T5,few,ne,λH12 D12 S12 p12=>aj2 hu (p11.up S12) p12 (Pj ?_)⟩⟩
   have T6:=T5.trans S12
   obtain⟨⟨dx,p,l,eb⟩,_⟩:=two T6
   refine⟨b,dx,_,⟨t.c_zcg,be6 K t⟩,rfl,.tail _ (.head _),eb,rfl,ce3,⟨b,n,sw,gs,rfl,hb.up T6,few,hu,ne,λH13 D13 S13 p13=>?_⟩⟩
   have T7:=T6.trans S13
   obtain⟨_,dx,p,l,ec⟩:=two T7
   exact⟨c,dx,_,⟨t.c_zcg,be6 K t⟩,rfl,.tail _ (.head _),ec,rfl,ce3,⟨c,n,sw',gs,rfl,hc.up T7,few,hu,ne,λH14 D14 S14 p14=>bt8 (p13.up S14) p14 (Pj ⟨⟨_,rfl⟩,((((((((S6.trans S7).trans S8).trans S9).trans S10).trans S11).trans S12).trans S13).trans S14)⟩)⟩⟩
  .rintro σ H6 ⟨⟨v2,rfl⟩,S6⟩
   exact .inl (k H6 (S05.trans S6))
def a85{es:List ((Str×Rc)×Addr)}{ns:List Nat}{g:Nat->Addr}(h:es.map kT=ns.map (kF g)):ns=[]:=by
 cases ns with
 |nil=>rfl
 |cons m r=>
  cases es with
  |nil=>cases h
  |cons e es=>
   injection h with h _
   cases congrArg lP h
def Rz{H:Hp}{F:Addr}{ns:List Nat}{g:Nat->Addr}{T:Tr}{a:Addr}(e':H F=some (.dK (ns.map (kF g))))(h:TrAt any H a T)(ne:ns≠[]):a≠F:=λz=>by
 obtain⟨es,ee,⟨_,e⟩,_⟩:=h
 rw[z,e'] at e
 injection e with e
 injection e with e
 exact ne (a85 e.symm)
def TrAt.kp(h:TrAt any H a T)(e':H F=some (.dK kvs))(ne:a≠F)(S:∀b u,b≠F->(∀l,u≠.lst l)->H b=some u->H' b=some u):TrAt any H' a T:=by
 obtain⟨es,ee,⟨_,e⟩,he⟩:=h
 exact⟨es,ee,⟨trivial,S _ _ ne (λ_ z=>by cases z) e⟩,λx hx=>(he x hx).up λb ys q=>S _ _ (λz=>by rw[z,e'] at q;cases q) (λ_ z=>by cases z) q⟩
def Qo{H:Hp}{p:Addr}{n:Nat}{v:V}(h:DGet H p (.int (n:Int)) (some v)):∃xs,SqX K H p (n:Int) xs/\atI xs (n:Int)=some v:=
 let⟨xs,_,a,b,e⟩:=Hi (Q:=λu _=>u=v) h rfl
 ⟨xs,a,e▸b⟩
def bj4(Z:Am K t):OkD K ae5 (Ax K t) bl (t.f 38) (t.d 38) (Wg K t):=by
 refine A0 (b49 K t) λvs H Q E h=>?_
 .obtain⟨F,ns,g,tr,gs,rfl,hF,ne,nd,l256,C,k⟩:=h;refine⟨rfl,?_⟩
  have big:=ce2
  refine⟨My,λL hL=>?_⟩
  have S1:=Same.upd (o:=.lst []) hL
  have e1:upd H L (.lst []) L=some (.lst []):=Aa
  generalize upd H L (.lst [])=H1 at S1 e1 ⊢
  have eF:=S1 _ _ hF.at_
  refine .inr (.inr (.inl (.inl ⟨_,eF,λo=>?_⟩)))
  have ef:upd H1 F (.frz o (.dK (ns.map (kF g)))) F=some (.frz o (.dK (ns.map (kF g)))):=Aa
  have of:∀b u,b≠F->H1 b=some u->upd H1 F (.frz o (.dK (ns.map (kF g)))) b=some u:=λb u nb e=>by rw[Ad nb];exact e
  generalize upd H1 F (.frz o (.dK (ns.map (kF g))))=Hf at ef of ⊢
  have nLF:L≠F:=λz=>by rw[z,eF] at e1;cases e1
  refine A5 (Eh (ns.map (kF g))) (λi σ H'=>(∃v2,σ=[some (.ref F),some (.ref L),v2])/\(∀a u,a≠L->Hf a=some u->H' a=some u)/\∃js:List Nat,H' L=some (.lst (js.map λj=>.ref (g j)))/\(∀j∈js,j∈ns)/\(js.map λj=>vkT (tr j)).Nodup/\js.length<=i/\∀n∈ns.take i,vkT (tr n)∈js.map λj=>vkT (tr j))
   ⟨⟨_,rfl⟩,(λ_ _ _ e=>e),[],of _ _ nLF e1,(λ_ h=>by cases h),f_,af _,λ_ h=>by cases h⟩ (λ_ _ H' _ q=>q.2.1 _ _ nLF.symm ef) ?_ ?_
  .rintro i x σ H4 hx ⟨⟨v2,rfl⟩,O4,js,eL,hj,jn,jl,hc⟩
   rw[au] at hx
   obtain⟨n,hn,rfl⟩:=Ak hx
   have hm:=ah hn
   have il:=Aj hn
   have dc:∀m∈ns,Kt H4 (g m) (mpT (tr m)):=λm hm=>by
    obtain⟨hT,o⟩:=hF.one m hm
    exact(hT.kp hF.at_ (Rz hF.at_ hT ne) λb u nb nl e=>O4 _ _ (λz=>by rw[z,hL] at e;cases e) (of _ _ nb (S1 _ _ e))).dic o
   have dg:DGet H4 F (.int (n:Int)) (some (.ref (g n))):=.inl ⟨_,.inl (n:Int),.inr ⟨o,O4 _ _ nLF.symm ef⟩,rfl,(Pl nd hn).symm⟩
   have tk:∀m,m∈ns.take (i+1)↔m∈ns.take i\/m=n:=λm=>by rw[aN,hn,ax];exact or_congr iL (by simp)
   have im:∀o:Option V,(o.isSome=true↔vkT (tr n)∈js.map λj=>vkT (tr j))->InM K H4 L (.ref (g n)) o:=λo h=>by
    refine⟨g n,_,js.map λj=>(g j,mpT (tr j)),rfl,dc n hm,by rw[au];exact SqL.of eL,λe he=>?_,h.trans ?_⟩
    .obtain⟨j,q,rfl⟩:=List.mem_map.mp he
     exact dc j (hj j q)
    .constructor
     .intro q
      obtain⟨j,q1,q2⟩:=List.mem_map.mp q
      exact⟨_,List.mem_map.mpr ⟨j,q1,rfl⟩,(Pp (hF.one j (hj j q1)).2 (hF.one n hm).2).mpr q2⟩
     .rintro⟨e,q1,q2⟩
      obtain⟨j,q3,rfl⟩:=List.mem_map.mp q1
      exact List.mem_map.mpr ⟨j,q3,(Pp (hF.one j (hj j q3)).2 (hF.one n hm).2).mp q2⟩
   obtain⟨xs,x1,x2⟩:=Qo dg
   by_cases c:vkT (tr n)∈js.map λj=>vkT (tr j)
   .refine⟨xs,_,x1,x2,.inr ⟨some .non,.inr ⟨rfl,im _ ⟨λ_=>c,λ_=>rfl⟩⟩,Pj ?_⟩⟩
    refine⟨⟨_,rfl⟩,O4,js,eL,hj,jn,eo jl,λm h=>?_⟩
    rcases(tk m).mp h with h|h
    .exact hc m h
    .rw[h];exact c
   .refine⟨xs,_,x1,x2,.inr ⟨none,.inr ⟨rfl,im _ ⟨λq=>(by cases q),λq=>absurd q c⟩⟩,U4 ?_⟩⟩
    refine⟨.inl ⟨rfl,_,SqL.of eL⟩,xs,_,x1,x2,⟨L,_,_,rfl,rfl,eL,by rw[ae];omega,⟨_,rfl⟩,λa u na e=>by rw[Ad na];exact O4 _ _ na e,js++[n],by rw[Aa,aw];rfl,λj h=>?_,?_,by rw[aG];exact bJ jl,λm h=>?_⟩⟩
    .rcases List.mem_append.mp h with h|h
     .exact hj j h
     .rw[List.mem_singleton.mp h];exact hm
    .rw[aw]
     exact List.nodup_append.mpr ⟨jn,by simp,λa ha b hb e=>c (by have h:b=vkT (tr n):=List.mem_singleton.mp hb;rw[<- h,<- e];exact ha)⟩
    .rw[aw,ax]
     rcases(tk m).mp h with h|h
     .exact .inl (hc m h)
     .rw[h];exact .inr (by simp)
  .rintro σ H4 ⟨⟨v2,rfl⟩,O4,js,eL,hj,jn,jl,hc⟩
   rw[ae,ae,aI] at hc
   refine .inr ⟨F,o,_,eF,O4 _ _ nLF.symm ef,.inl ⟨_,.inl (SqL.of (by rw[Ad nLF];exact eL)),?_⟩⟩
   have S4:Same H (upd H4 F (.dK (ns.map (kF g)))):=λa u e=>by
    by_cases ha:a=F
    .rw[ha,Aa,<- hF.at_,<- ha,e]
    .rw[Ad ha];exact O4 _ _ (λz=>by rw[z,hL] at e;cases e) (of _ _ ha (S1 _ _ e))
   have pm:(js.map λj=>vkT (tr j)).Perm (gs.map (·.1)):=(cW jn C.keys).mpr λx=>by
    constructor
    .intro h
     obtain⟨j,q,rfl⟩:=List.mem_map.mp h
     obtain⟨g,hg,e⟩:=C.cov j (hj j q)
     exact List.mem_map.mpr ⟨g,hg,e⟩
    .intro h
     obtain⟨g,hg,rfl⟩:=List.mem_map.mp h
     obtain⟨j,q,e⟩:=C.pos g hg
     rw[<- e]
     exact hc j q
   have le:=pm.length_eq
   rw[ae,ae] at le
   rw[ae,le]
   exact k _ S4
def bf3{es:List ((Str×Rc)×Addr)}{n:Str}{x:Rc}{a:Addr}(h:n∈es.map (·.1.1)):Bt (es.map kT) (.inr n) (.ref a)=(es.map λe=>if e.1.1=n then((n,x),a) else e).map kT:=by
 unfold Bt
 rw[if_pos (any_mem.mpr (by rw[Hk];exact aL h)),au,au]
 refine bu λe _=>?_
 show(if(cV e.1.1:Key)=.inr n then((.inr e.1.1:Key),V.ref a) else kT e)=kT (if e.1.1=n then((n,x),a) else e)
 by_cases c:e.1.1=n
 .rw[if_pos (by rw[c]),if_pos c,c]
 .rw[if_neg λz=>c (fN z),if_neg c]
def bh4(Z:Am K t):OkD K ad6 (Ax K t) bl (t.f 35) (t.d 35) (Vx K t):=by
 refine A0 (b27 K t) λvs H Q E h=>?_
 .obtain⟨c,d,nm,T,ws,rfl,⟨es,et,⟨_,ed⟩,he⟩,o,enm,w1,w8,k⟩:=h;refine⟨rfl,?_⟩
  have big:=ce2
  have en:es.map (·.1.1)=T.map (·.1):=by rw[<- et,au];rfl
  have nde:(es.map (·.1.1)).Nodup:=by rw[en];exact o.1
  have le:es.length=T.length:=by rw[<- et,ae]
  have l8:=o.2.1
  refine .inr ⟨rfl,d,_,rfl,.inl ed,λl hl=>?_⟩
  have ekk:((es.map kT).map λkv=>kV kv.1)=(es.map (·.1.1)).map V.str:=by rw[au,au];rfl
  rw[ekk]
  have S1:=Same.upd (o:=Ay (es.map (·.1.1))) hl
  have e1:upd H l (Ay (es.map (·.1.1))) l=some (Ay (es.map (·.1.1))):=Aa
  refine⟨My,λq hq=>?_⟩
  have S2:=S1.trans (Same.upd (o:=.lst []) hq)
  have e2:=Same.upd (o:=.lst []) hq _ _ e1
  refine .inl ⟨l,q,_,[],rfl,rfl,SqL.of e2,SqL.of Aa,C6 _,rfl,?_⟩
  generalize upd (upd H l (Ay (es.map (·.1.1)))) q (.lst [])=H2 at S2 e2 ⊢
  clear S1 e1
  by_cases c0:es=[]
  .subst c0
   refine F9 rfl ?_
   intro p hp
   cases ws with
   |nil=>exact absurd w1 (by decide)
   |cons w0 wr=>
    have S3:=S2.trans (Same.upd (o:=.dK []) hp)
    refine⟨_,_,.inl (SqL.of (S3 _ _ enm)),B5 (j:=0) rfl,ce1,λa ha=>⟨(Same.upd ha) _ _ Aa,.inr w0,rfl,?_⟩⟩
    have S4:=S3.trans (Same.upd (o:=.tup [.str "para", .str "", .int 7,.str ""]) ha)
    refine k _ p [(w0,⟨"para","", 7,.at_ (.inr "")⟩)] (S4.set (S2.free hp)) ⟨[((w0,⟨"para","", 7,.at_ (.inr "")⟩),a)],rfl,⟨trivial,Aa⟩,λe h=>?_⟩ ⟨by simp,by simp,λe h=>?_⟩ λz=>?_
    .obtain rfl:=List.mem_singleton.mp h
     refine⟨.str "", ?_,by unfold TkAt;rfl⟩
     have:upd (upd H2 p (.dK [])) a (.tup [.str "para", .str "", .int 7,.str ""]) a=some (.tup [.str "para", .str "", .int 7,.str ""]):=Aa
     rw[Ad λz:a=p=>by rw[z,Aa] at ha;cases ha]
     exact this
    .obtain rfl:=List.mem_singleton.mp h
     exact⟨Cs _ _,λi z=>by cases z⟩
    .have:=Lx (T:=[(w0,⟨"para","", 7,.at_ (.inr "")⟩)]) (T':=T) ⟨by simp,by simp,λe h=>by obtain rfl:=List.mem_singleton.mp h;exact⟨Cs _ _,λi z=>by cases z⟩⟩ o z w0
     rw[<- et] at this
     unfold stT at this
     rw[Ez (x:=⟨"para","", 7,.at_ (.inr "")⟩) (by simp) aD] at this
     cases this
  .refine Cg (Dy (by rw[ae,ae];exact λz=>c0 (List.length_eq_zero_iff.mp z))) ?_
   have pos:0<((es.map (·.1.1)).map V.str).length:=by rw[ae,ae];exact k6 λz=>c0 (List.length_eq_zero_iff.mp z)
   obtain⟨v,hv,ev⟩:=Ky (xs:=(es.map (·.1.1)).map V.str) (Bz c 3) rfl pos
   obtain⟨n,hn,rfl⟩:=List.mem_map.mp hv
   obtain⟨e0,he0,rfl⟩:=List.mem_map.mp hn
   obtain⟨i0,hi0⟩:=List.mem_iff_getElem?.mp he0
   obtain⟨cv,er,tk⟩:=he e0 he0
   have x0:T.lookup e0.1.1=some e0.1.2:=Ez o.1 (by rw[<- et];exact aL he0)
   refine⟨c,3,rfl,by decide,.inl ⟨_,.inl (SqL.of e2),by omega,_,_,.inl (SqL.of e2),ev,?_⟩⟩
   refine⟨.ref e0.2,.inl ⟨_,.inr e0.1.1,.inl (S2 _ _ ed),rfl,(Fj nde hi0).symm⟩,_,.inl (SqT.of (S2 _ _ er)),rfl,?_⟩
   refine⟨c,4,rfl,by decide,by decide,?_⟩
   refine Hh (λ_=>?_) (λ_=>?_)
   .refine⟨d,_,rfl,.inl (S2 _ _ ed),λf hf=>?_⟩
    have S3:=S2.trans (Same.upd (o:=.dK (es.map kT)) hf)
    have e3:upd H2 f (.dK (es.map kT)) f=some (.dK (es.map kT)):=Aa
    have ff:=S2.free hf
    generalize upd H2 f (.dK (es.map kT))=H3 at S3 e3 ⊢
    refine⟨by decide,ce1,λa ha=>?_⟩
    have S4:=S3.trans (Same.upd (o:=.tup [.str e0.1.2.k,.str e0.1.2.p,.int ((e0.1.2.r+1)%1000),cv]) ha)
    have e4:=Same.upd (o:=.tup [.str e0.1.2.k,.str e0.1.2.p,.int ((e0.1.2.r+1)%1000),cv]) ha _ _ e3
    have ea:upd H3 a (.tup [.str e0.1.2.k,.str e0.1.2.p,.int ((e0.1.2.r+1)%1000),cv]) a=some (.tup [.str e0.1.2.k,.str e0.1.2.p,.int ((e0.1.2.r+1)%1000),cv]):=Aa
    refine⟨_,DPut.k (k:=.inr e0.1.1) e4 (by rw[ae];omega),?_⟩
    show Q (.ref f) (upd (upd H3 a (.tup [.str e0.1.2.k,.str e0.1.2.p,.int ((e0.1.2.r+1)%1000),cv])) f (.dK (Bt (es.map kT) (.inr e0.1.1) (.ref a))))
    generalize upd H3 a (.tup [.str e0.1.2.k,.str e0.1.2.p,.int ((e0.1.2.r+1)%1000),cv])=H4 at S4 e4 ea ⊢
    obtain⟨y,hy⟩:∃y:Rc,y=⟨e0.1.2.k,e0.1.2.p,(e0.1.2.r+1)%1000,e0.1.2.c⟩:=⟨_,rfl⟩
    rw[bf3 (x:=y) hn]
    have tp:=Ij (o:=.dK ((es.map λe=>if e.1.1=e0.1.1 then((e0.1.1,y),a) else e).map kT)) (.inl e4)
    have ek:((es.map λe=>if e.1.1=e0.1.1 then((e0.1.1,y),a) else e).map (·.1)).map (·.1)=T.map (·.1):=by
     rw[<- en,au,au]
     refine bu λe _=>?_
     show(if e.1.1=e0.1.1 then((e0.1.1,y),a) else e).1.1=e.1.1
     split
     .rename_i z;exact z.symm
     .rfl
    have hs:∀e∈es.map (λe=>if e.1.1=e0.1.1 then((e0.1.1,y),a) else e),e=((e0.1.1,y),a)\/e∈es:=λe h=>by
     obtain⟨z,hz,rfl⟩:=List.mem_map.mp h
     split
     .exact .inl rfl
     .exact .inr hz
    have ok':Ba ((es.map λe=>if e.1.1=e0.1.1 then((e0.1.1,y),a) else e).map (·.1)):=by
     refine⟨by rw[ek];exact o.1,by rw[ae,ae];omega,λe h=>?_⟩
     obtain⟨z,hz,rfl⟩:=List.mem_map.mp h
     rcases hs z hz with rfl|q
     .rw[hy];exact o.2.2 e0.1 (by rw[<- et];exact aL he0)
     .exact o.2.2 z.1 (by rw[<- et];exact aL q)
    refine k _ f _ (S4.set ff) ⟨_,rfl,⟨trivial,Aa⟩,λe h=>?_⟩ ok' λz=>?_
    .rcases hs e h with rfl|q
     .refine⟨cv,(tp _ _ ea).trans (by rw[hy]),?_⟩
      show TkAt _ y.c cv
      rw[show y.c=e0.1.2.c by rw[hy]]
      exact tk.up λb ys q=>tp _ _ (S4 _ _ q)
     .exact (he e q).up λb ys q=>tp _ _ (S4 _ _ q)
    .have:=Lx ok' o z e0.1.1
     unfold stT at this
     have hm:(e0.1.1,y)∈(es.map λe=>if e.1.1=e0.1.1 then((e0.1.1,y),a) else e).map (·.1):=List.mem_map.mpr ⟨_,List.mem_map.mpr ⟨e0,he0,if_pos rfl⟩,rfl⟩
     rw[Ez ok'.1 hm,x0,hy] at this
     injection this with this
     injection this with this
     injection this with _ this
     injection this with _ this
     injection this with this _
     injection this with this
     injection this with this
     have:(e0.1.2.r+1)%1000=e0.1.2.r:=this
     omega
   .refine⟨cd8,λG hG=>?_⟩
    have S3:=S2.trans (Same.upd (o:=Ay [e0.1.1]) hG)
    have e3:upd H2 G (Ay [e0.1.1]) G=some (Ay [e0.1.1]):=Aa
    have fG:=S2.free hG
    have e3l:=Same.upd (o:=Ay [e0.1.1]) hG _ _ e2
    refine .inl ⟨⟨_,SqL.of e3l⟩,?_⟩
    show Rg (Itl K l) _ _ _ _ (upd H2 G (Ay [e0.1.1]))
    generalize upd H2 G (Ay [e0.1.1])=H3 at S3 e3 e3l ⊢
    have nGl:l≠G:=λz=>by rw[z,hG] at e2;cases e2
    refine A5 (Az ((es.map (·.1.1)).map V.str)) (λi σ H'=>(∃v9 v11,σ=[some (.int c),some (.ref d),some (.ref nm),some (.ref l),some (.str e0.1.1),some (.str e0.1.2.k),some (.str e0.1.2.p),some (.int e0.1.2.r),some cv,v9,some (.ref G),v11])/\Same H H'/\H' l=some (Ay (es.map (·.1.1)))/\∃gl:List Str,H' G=some (Ay gl)/\e0.1.1∈gl/\gl.length<=i+1) ⟨⟨_,_,rfl⟩,S3,e3l,_,e3,by simp,af _⟩ (λ_ _ H' _ q=>SqL.of q.2.2.1) ?_ ?_
    .rintro i x σ H4 hx ⟨⟨v9,v11,rfl⟩,S4,el,gl,eg,hg,lg⟩
     obtain⟨z,hz,rfl⟩:=Ak hx
     have il:=Aj hz
     rw[ae] at il
     obtain⟨e',hi,rfl⟩:=Ak hz
     have hm:=ah hi
     obtain⟨cv',er',_⟩:=he e' hm
     refine⟨.ref e'.2,.inl ⟨_,.inr e'.1.1,.inl (S4 _ _ ed),rfl,(Fj nde hi).symm⟩,_,_,.inr (SqT.of (S4 _ _ er')),rfl,.inl ⟨G,_,rfl,.inl (SqL.of eg),rfl,C6 _,?_⟩⟩
     refine Hh (λ_=>?_) (λ_=>?_)
     .exact⟨.inl ⟨rfl,_,SqL.of eg⟩,G,_,_,rfl,rfl,eg,by rw[ae];omega,⟨_,_,rfl⟩,S4.set fG,by rw[Ad nGl];exact el,gl++[e'.1.1],by rw[Aa,Ay,aw];rfl,bo _ hg,by rw[aG];exact bJ lg⟩
     .exact⟨⟨_,_,rfl⟩,S4,el,gl,eg,hg,eo lg⟩
    .rintro σ H4 ⟨⟨v9,v11,rfl⟩,S4,el,gl,eg,hg,lg⟩
     refine .inl λf hf=>.inl ?_
     have S5:=S4.trans (Same.upd (o:=.dK []) hf)
     have e5:upd H4 f (.dK []) f=some (.dK []):=Aa
     have e5l:=Same.upd (o:=.dK []) hf _ _ el
     have e5g:=Same.upd (o:=.dK []) hf _ _ eg
     have ff:=S4.free hf
     refine .inl ⟨⟨_,SqL.of e5l⟩,?_⟩
     show Rg (Itl K l) _ _ _ _ (upd H4 f (.dK []))
     generalize upd H4 f (.dK [])=H5 at S5 e5 e5l e5g ⊢
     refine A5 (Az ((es.map (·.1.1)).map V.str)) (λi σ H'=>(∃v11,σ=[some (.int c),some (.ref d),some (.ref nm),some (.ref l),some (.str e0.1.1),some (.str e0.1.2.k),some (.str e0.1.2.p),some (.int e0.1.2.r),some cv,some (.ref f),some (.ref G),v11])/\Same H H'/\H' l=some (Ay (es.map (·.1.1)))/\H' G=some (Ay gl)/\H' f=some (.dK (((es.take i).filter λe=>!decide (e.1.1∈gl)).map kT))) ⟨⟨_,rfl⟩,S5,e5l,e5g,e5⟩ (λ_ _ H' _ q=>SqL.of q.2.2.1) ?_ ?_
     .rintro i x σ H6 hx ⟨⟨v11,rfl⟩,S6,el,eg,ef⟩
      obtain⟨z,hz,rfl⟩:=Ak hx
      obtain⟨e',hi,rfl⟩:=Ak hz
      have il:=Aj hi
      have fs:=Nw (p:=λe:(Str×Rc)×Addr=>!decide (e.1.1∈gl)) hi
      refine .inl ⟨G,_,rfl,.inl (SqL.of eg),rfl,C6 _,?_⟩
      show if(!inV (.str e'.1.1) (gl.map V.str))=true then _ else _
      rw[Lc]
      by_cases cg:e'.1.1∈gl
      .rw[decide_eq_true cg,Bool.not_true,if_neg (by decide),b5] at fs
       exact Cg (by rw[decide_eq_true cg];rfl) ⟨⟨_,rfl⟩,S6,el,eg,by rw[fs];exact ef⟩
      .rw[decide_eq_false cg,Bool.not_false,if_pos rfl] at fs
       refine F9 (by rw[decide_eq_false cg];rfl) ?_
       have nf:¬ e'.1.1∈((es.take i).filter λe=>!decide (e.1.1∈gl)).map (·.1.1):=λq=>by
        obtain⟨z,hz,e⟩:=List.mem_map.mp q
        refine Eb nde (i:=i) (by rw[ao,hi];rfl) ?_
        rw[<- gC]
        exact List.mem_map.mpr ⟨z,(List.mem_filter.mp hz).1,e⟩
       have lf:=bQ (λe:(Str×Rc)×Addr=>!decide (e.1.1∈gl)) (es.take i)
       rw[aF] at lf
       refine⟨.ref e'.2,.inl ⟨_,.inr e'.1.1,.inl (S6 _ _ ed),rfl,(Fj nde hi).symm⟩,_,DPut.k (k:=.inr e'.1.1) ef (by rw[ae];omega),⟨_,rfl⟩,S6.set ff,?_,?_,?_⟩
       .rw[Ad λz:l=f=>by rw[z,ef] at el;cases el];exact el
       .rw[Ad λz:G=f=>by rw[z,ef] at eg;cases eg];exact eg
       .rw[Aa,Kh (e:=e'.1) nf,fs]
     .rintro σ H6 ⟨⟨v11,rfl⟩,S6,el,eg,ef⟩
      rw[ae,ae,aI] at ef
      refine .inl ?_
      have sb:((es.filter λe=>!decide (e.1.1∈gl)).map (·.1)).Sublist T:=by rw[<- et];exact List.filter_sublist.map _
      have ok':Ba ((es.filter λe=>!decide (e.1.1∈gl)).map (·.1)):=⟨o.1.sublist (sb.map _),aT sb.length_le l8,λx h=>o.2.2 x (sb.subset h)⟩
      refine k H6 f _ S6 ⟨_,rfl,⟨trivial,ef⟩,λe h=>(he e (List.mem_filter.mp h).1).up λb ys q=>S6 _ _ q⟩ ok' λz=>?_
      have a1:=(Cd o e0.1.1).mpr (by rw[<- en];exact hn)
      rw[<- Lx ok' o z,Cd ok',au] at a1
      obtain⟨e,h,q⟩:=List.mem_map.mp a1
      have:=(List.mem_filter.mp h).2
      rw[show e.1.1=e0.1.1 from q,decide_eq_true hg] at this
      cases this
def bs6(o:Ba T):Ba T.reverse/\vkT T.reverse=vkT T:=by
 have pm:=gT T
 have o':Ba T.reverse:=⟨by rw[bZ];exact(gT _).nodup_iff.mpr o.1,by rw[aS];exact o.2.1,λx h=>o.2.2 x (List.mem_reverse.mp h)⟩
 refine⟨o',(av6 o' o).mpr λn=>?_⟩
 by_cases h:n∈T.map (·.1)
 .obtain⟨x,e,hm⟩:=D6 o h
  unfold stT
  rw[e,Ez o'.1 (List.mem_reverse.mpr hm)]
 .unfold stT
  rw[Ee h,Ee λq=>h (by rw[bZ] at q;exact List.mem_reverse.mp q)]
def RoAt(C:Addr)(H:Hp)(g:Nat->Addr)(R:Addr)(rs:List ((Nat×Tr)×Nat×Addr×Addr)):Prop:=H R=some (.lst (rs.map λr=>.ref r.2.2.2))/\∀r∈rs,H r.2.2.2=some (.tup [.int (r.1.1:Int),.ref r.2.2.1,.ref (g r.2.1)])/\PlAt C any H r.2.2.1 r.1.2/\Ba r.1.2
theorem RoAt.up(h:RoAt C H g R rs)(S:Same H H'):RoAt C H' g R rs:=⟨S _ _ h.1,λr hr=>⟨S _ _ (h.2 r hr).1,(h.2 r hr).2.1.up S,(h.2 r hr).2.2⟩⟩
structure RoI (ns:List Nat) (f:Nat->TK) (rs:List ((Nat×Tr)×Nat×Addr×Addr)) (ms:List Nat):Prop where
 bit:∀r∈rs,r.1.1≠0/\∀j,r.1.1.testBit j=true->j∈ns/\f j=vkT r.1.2
 key:∀r∈rs,r.2.1∈ns/\f r.2.1=vkT r.1.2
 cov:∀j∈ms,∃r∈rs,r.1.1.testBit j=true
def bx8(Z:Am K t):OkD K bb3 (Ax K t) bl (t.f 34) (t.d 34) (at4 K t):=by
 refine A0 (cc5 K t) λvs H Q E h=>?_
 .obtain⟨W,F,l,kk,f,sw,ζ,g,tr,rfl,hst,hW,hF,k⟩:=h;refine⟨rfl,?_⟩
  have big:=ce2
  refine⟨_,.inr (SqL.of hW.at_),rfl,?_⟩
  obtain⟨ds,_,⟨_,ol⟩,_⟩:=hW.sws
  refine .inl ⟨⟨_,SqL.of ol⟩,Y4 hW.sws hW.ok.2.1 λD H1 S1 hD=>?_⟩
  intro p dx hp hdx nep
  obtain⟨tx,hP0⟩:=hst.tb
  refine Sv (S1 _ _ hP0) hp hdx hD hW.ok (hW.rl.mono (Kp.same S1)) hW.rok hW.few hW.ne λH2 S2 hP=>?_
  have S02:=S1.trans S2
  refine⟨My,λR hR=>?_⟩
  have S3:=Same.upd (o:=.lst []) hR
  have e3:upd H2 R (.lst []) R=some (.lst []):=Aa
  generalize upd H2 R (.lst [])=H3 at S3 e3 ⊢
  have S03:=S02.trans S3
  have fR:=S02.free hR
  have hf3:=S03 _ _ hW.fr
  have asc:=Ha sw ζ
  have ndf:=asc.imp λh=>aQ h
  have l256:=hW.ok.len
  have fl:(An sw ζ).length<=(Al sw).length:=by
   have:=bQ (λn=>!Gc sw ζ n) (aV (Al sw).length)
   rwa[bg] at this
  have hfm:=λn h=>El (sw:=sw) (ζ:=ζ) (n:=n) h
  have hFo:=hF.one
  have hFa:=hF.at_
  refine⟨_,SqL.of hf3,?_⟩
  refine A5 (Ra ((An sw ζ).map λn:Nat=>V.int (n:Int))) (λi σ H'=>(∃v7 v8 v9 v10 v11,σ=[some (.ref W),some (.ref F),some (.ref l),some (.ref kk),some (.ref f),some (.ref p),some (.ref R),v7,v8,v9,v10,v11])/\Same H2 H'/\∃rs,RoAt t.c_zcf H' g R rs/\rs.length<=i/\RoI (An sw ζ) (λn=>vkT (tr n)) rs ((An sw ζ).reverse.take i))
   ⟨⟨_,_,_,_,_,rfl⟩,S3,[],⟨e3,λr h=>by cases h⟩,af _,(λr h=>by cases h),(λr h=>by cases h),λj h=>by cases h⟩ (λ_ _ H' _ q=>SqL.of ((S02.trans q.2.1) _ _ hW.fr)) ?_ ?_
  .rintro i x σ H4 hx ⟨⟨v7,v8,v9,v10,v11,rfl⟩,S4,rs,hRo,lr,I⟩
   rw[<- bZ] at hx
   obtain⟨n,hn,rfl⟩:=Ak hx
   have hm:=List.mem_reverse.mp (ah hn)
   have il:=Aj hn
   rw[aS] at il
   obtain⟨nl,bt⟩:=hfm n hm
   obtain⟨n0,hn0⟩:=List.mem_iff_getElem?.mp hm
   obtain⟨hT,okT⟩:=hFo n hm
   have tkn:∀m,m∈(An sw ζ).reverse.take (i+1)↔m∈(An sw ζ).reverse.take i\/m=n:=λm=>by rw[aN,hn,ax];exact or_congr iL (by simp)
   have dg:∀{H'},Same H2 H' -> ∃xs,SqX K H' F (n:Int) xs/\atI xs (n:Int)=some (.ref (g n)):=λS=>Qo (.inl ⟨_,.inl (n:Int),.inl ((S02.trans S) _ _ hFa),rfl,(Pl ndf hn0).symm⟩)
   have dc:∀{H'},Same H2 H' -> ∀m∈An sw ζ,Kt H' (g m) (mpT (tr m)):=λS m hm=>((hFo m hm).1.up (S02.trans S)).dic (hFo m hm).2
   obtain⟨es,et,⟨_,ed⟩,he⟩:=id hT
   have nde:(es.map (·.1.1)).Nodup:=by have:=okT.1;rw[<- et,au] at this;exact this
   have le:es.length<=8:=by have:=okT.2.1;rw[<- et,ae] at this;exact this
   refine λtd htd=>.inl ?_
   have S5:=Same.upd (o:=.dK []) htd
   have e5:upd H4 td (.dK []) td=some (.dK []):=Aa
   generalize upd H4 td (.dK [])=H5 at S5 e5 ⊢
   obtain⟨xs,x1,x2⟩:=dg (S4.trans S5)
   refine⟨xs,_,x1,x2,.inr ⟨rfl,g n,_,rfl,.inl (((S02.trans S4).trans S5) _ _ ed),λL hL=>?_⟩⟩
   have ekk:((es.map kT).map λkv=>kV kv.1)=(es.map (·.1.1)).map V.str:=by rw[au,au];rfl
   rw[ekk]
   have S6:=S5.trans (Same.upd (o:=Ay (es.map (·.1.1))) hL)
   have e6:upd H5 L (Ay (es.map (·.1.1))) L=some (Ay (es.map (·.1.1))):=Aa
   have e6d:=Same.upd (o:=Ay (es.map (·.1.1))) hL _ _ e5
   refine⟨_,SqL.of e6,?_⟩
   show Rg (Oo K L ((es.map (·.1.1)).map V.str).length) _ _ _ _ (upd H5 L (Ay (es.map (·.1.1))))
   generalize upd H5 L (Ay (es.map (·.1.1)))=H6 at S6 e6 e6d ⊢
   refine A5 (Ra ((es.map (·.1.1)).map V.str)) (λk σ H'=>(∃v9,σ=[some (.ref W),some (.ref F),some (.ref l),some (.ref kk),some (.ref f),some (.ref p),some (.ref R),some (.int (n:Int)),some (.ref td),v9,v10,v11])/\Same H4 H'/\H' L=some (Ay (es.map (·.1.1)))/\H' td=some (.dK ((es.reverse.take k).map kT)))
    ⟨⟨_,rfl⟩,S6,e6,e6d⟩ (λ_ _ H' _ q=>SqL.of q.2.2.1) ?_ ?_
   .rintro k x σ H7 hx ⟨⟨v9,rfl⟩,S7,eL,etd⟩
    rw[<- bZ] at hx
    obtain⟨z,hz,rfl⟩:=Ak hx
    rw[<- bZ] at hz
    obtain⟨e',hi,rfl⟩:=Ak hz
    have kl:=Aj hi
    rw[aS] at kl
    obtain⟨i',hi'⟩:=List.mem_iff_getElem?.mp (List.mem_reverse.mp (ah hi))
    obtain⟨xs,x1,x2⟩:=dg (S4.trans S7)
    have nf:¬ e'.1.1∈(es.reverse.take k).map (·.1.1):=by
     rw[gC]
     exact Eb (by rw[bZ];exact(gT _).nodup_iff.mpr nde) (by rw[ao,hi];rfl)
    refine⟨xs,_,x1,x2,.ref e'.2,.inl ⟨_,.inr e'.1.1,.inl ((S02.trans (S4.trans S7)) _ _ ed),rfl,(Fj nde hi').symm⟩,_,DPut.k (k:=.inr e'.1.1) etd (by rw[ae,aF];omega),⟨_,rfl⟩,S7.set htd,by rw[Ad λz:L=td=>by rw[z,etd] at eL;cases eL];exact eL,?_⟩
    rw[Aa,Kh (e:=e'.1) nf,aN,hi]
    rfl
   rintro σ H7 ⟨⟨v9,rfl⟩,S7,eL,etd⟩
   rw[aS,ae,ae,cI (by rw[aS];exact af _)] at etd
   refine .inl ?_
   have hRo7:=hRo.up S7
   have hTd:TrAt any H7 td (tr n).reverse:=⟨es.reverse,by rw[bZ,et],⟨trivial,etd⟩,λe h=>(he e (List.mem_reverse.mp h)).up (NL.same (S02.trans (S4.trans S7))).tup⟩
   have S27:=S4.trans S7
   clear S5 e5 S6 e6 e6d htd hL eL etd
   refine .inl ⟨⟨_,SqL.of hRo7.1⟩,λD hD=>?_⟩
   refine G1 (E8 (rs.map λr=>V.ref r.2.2.2)) (λi σ H'=>(∃v0 v1,σ=[v0,v1,some (.ref F),some (.int (n:Int))])/\Same H7 H'/\∃ks:List Nat,H' D=some (nO ks)/\ks.length<=i/\∀j∈ks,∃r,rs[j]?=some r/\vkT (tr n)=vkT r.1.2) ⟨⟨_,_,rfl⟩,Same.upd hD,[],Aa,af _,λj h=>by cases h⟩ (λ_ _ H' _ q=>q.2.1.seqL (SqL.of hRo7.1)) ?_ ?_
   .rintro k x y T σ H8 hx hT8 ⟨⟨v0,v1,rfl⟩,S8,ks,eD,lk,hk⟩
    obtain⟨rfl,hy⟩:=K6 hx
    obtain⟨r,hr,rfl⟩:=Ak hy
    have rm:=ah hr
    have kl:=Aj hr
    have S9:=S8.trans (Same.upd (o:=.tup [.int (k:Int),.ref r.2.2.2]) hT8)
    have e9:upd H8 T (.tup [.int (k:Int),.ref r.2.2.2]) T=some (.tup [.int (k:Int),.ref r.2.2.2]):=Aa
    have eD:=Same.upd (o:=.tup [.int (k:Int),.ref r.2.2.2]) hT8 _ _ eD
    generalize upd H8 T (.tup [.int (k:Int),.ref r.2.2.2])=H9 at S9 e9 eD ⊢
    obtain⟨xs,x1,x2⟩:=dg (S27.trans S9)
    obtain⟨kn,kv⟩:=I.key r rm
    refine⟨_,.inl (SqT.of e9),rfl,_,_,.inr (SqT.of (S9 _ _ (hRo7.2 r rm).1)),rfl,xs,_,x1,x2,.inr (.inr (.inr ⟨rfl,g r.2.1,g n,_,_,decide (vkT (tr r.2.1)=vkT (tr n)),rfl,rfl,dc (S27.trans S9) _ kn,dc (S27.trans S9) _ hm,decide_eq_true_iff.trans (Pp (hFo _ kn).2 okT).symm,?_⟩))⟩
    by_cases c:vkT (tr r.2.1)=vkT (tr n)
    .refine F9 (decide_eq_true c) ⟨_,eD,by rw[ae];omega,⟨_,_,rfl⟩,S9.set hD,ks++[k],by rw[Aa,nO,aw];rfl,by rw[aG];exact bJ lk,λj h=>?_⟩
     rcases List.mem_append.mp h with h|h
     .exact hk j h
     .rw[List.mem_singleton.mp h];exact⟨r,hr,c.symm.trans kv⟩
    .exact Cg (decide_eq_false c) ⟨⟨_,_,rfl⟩,S9,ks,eD,eo lk,hk⟩
   rintro σ H8 ⟨_,S8,ks,eD,lk,hk⟩
   rw[Bs,ae] at lk
   have hRo8:=hRo7.up S8
   have hTd8:=hTd.up S8
   have S28:=S27.trans S8
   refine⟨My,λq hq=>?_⟩
   have Sq:=Same.upd (o:=.lst []) hq
   refine .inl ⟨D,q,_,[],rfl,rfl,SqL.of (Sq _ _ eD),SqL.of Aa,by rw[gn,bh];exact λ_ _=>rfl,rfl,?_⟩
   show if Pe (ks.map λn:Nat=>V.int (n:Int)) []=true then _ else _
   have hRo9:=hRo8.up Sq
   have hTd9:=hTd8.up Sq
   have S29:=S28.trans Sq
   have eD9:=Sq _ _ eD
   generalize upd H8 q (.lst [])=H9 at hRo9 hTd9 S29 eD9 ⊢
   obtain⟨xs,x1,x2⟩:=dg S29
   obtain⟨okr,vkr⟩:=bs6 okT
   have e1:(1*2^((n:Int)).toNat:Int)=((2^n:Nat):Int):=by rw[kJ,bb,Fy]
   by_cases ck:ks=[]
   .subst ck
    refine F9 rfl ?_
    refine⟨.inl ⟨rfl,_,SqL.of hRo9.1⟩,⟨by omega,by omega,by decide⟩,⟨td,_,rfl,hTd9,okr,λH10 pl S10 hPl=>?_⟩⟩
    obtain⟨xs,x1,x2⟩:=dg (S29.trans S10)
    refine⟨xs,_,x1,x2,ce0,λT hT=>?_⟩
    rw[e1]
    have ST:=Same.upd (o:=.tup [.int ((2^n:Nat):Int),.ref pl,.ref (g n)]) hT
    have eT:upd H10 T (.tup [.int ((2^n:Nat):Int),.ref pl,.ref (g n)]) T=some (.tup [.int ((2^n:Nat):Int),.ref pl,.ref (g n)]):=Aa
    generalize upd H10 T (.tup [.int ((2^n:Nat):Int),.ref pl,.ref (g n)])=H11 at ST eT ⊢
    have hRo11:=hRo9.up (S10.trans ST)
    have NLu:=NL.upd (m:=(rs.map λr=>V.ref r.2.2.2)++[.ref T]) hRo11.1
    refine⟨R,_,_,rfl,rfl,hRo11.1,by rw[ae];omega,⟨_,_,_,_,_,rfl⟩,((S29.trans S10).trans ST).set hR,rs++[((2^n,(tr n).reverse),n,pl,T)],⟨by rw[Aa,aw];rfl,λr h=>?_⟩,by rw[aG];exact bJ lr,λr h=>?_,λr h=>?_,λj h=>?_⟩
    .rcases List.mem_append.mp h with h|h
     .exact⟨NLu.tup _ _ (hRo11.2 r h).1,(hRo11.2 r h).2.1.nl NLu,(hRo11.2 r h).2.2⟩
     .obtain rfl:=List.mem_singleton.mp h
      exact⟨NLu.tup _ _ eT,(hPl.up ST).nl NLu,okr⟩
    .rcases List.mem_append.mp h with h|h
     .exact I.bit r h
     .obtain rfl:=List.mem_singleton.mp h
      refine⟨eV (jP n),λj b=>?_⟩
      have b:(2^n).testBit j=true:=b
      rw[cZ,decide_eq_true_iff] at b
      subst b
      exact⟨hm,vkr.symm⟩
    .rcases List.mem_append.mp h with h|h
     .exact I.key r h
     .obtain rfl:=List.mem_singleton.mp h
      exact⟨hm,vkr.symm⟩
    .rcases (tkn j).mp h with h|h
     .obtain⟨r,h1,h2⟩:=I.cov j h
      exact⟨r,bo _ h1,h2⟩
     .exact⟨_,aE _ aD,by rw[h];show(2^n).testBit n=true;rw[cZ,decide_eq_true rfl]⟩
   .refine Cg (Dy (by rw[ae];exact λz=>ck (List.length_eq_zero_iff.mp z))) ?_
    obtain⟨j,kr,rfl⟩:∃j kr,ks=j::kr:=by
     cases ks with
     |nil=>exact absurd rfl ck
     |cons a b=>exact⟨a,b,rfl⟩
    obtain⟨r,hr,vr⟩:=hk j aD
    have rm:=ah hr
    have jl:=Aj hr
    have aj:atI ((j::kr).map λn:Nat=>V.int (n:Int)) 0=some (.int (j:Int)):=B5 (j:=0) rfl
    have et:=(hRo9.2 r rm).1
    refine⟨_,_,.inl (SqL.of eD9),aj,_,_,.inl (SqL.of hRo9.1),B5 (j:=j) (by rw[ao,hr];rfl),?_⟩
    refine⟨_,_,.inr (SqT.of et),rfl,⟨by omega,by omega,by decide⟩,_,_,.inr (SqT.of et),rfl,_,_,.inr (SqT.of et),rfl,ce0,λT hT=>?_⟩
    rw[e1,C2]
    have ST:=Same.upd (o:=.tup [.int ((r.1.1 ||| 2^n:Nat):Int),.ref r.2.2.1,.ref (g r.2.1)]) hT
    have eT:upd H9 T (.tup [.int ((r.1.1 ||| 2^n:Nat):Int),.ref r.2.2.1,.ref (g r.2.1)]) T=some (.tup [.int ((r.1.1 ||| 2^n:Nat):Int),.ref r.2.2.1,.ref (g r.2.1)]):=Aa
    refine⟨_,_,.inl (SqL.of (ST _ _ eD9)),aj,.inl ⟨_,j,rfl,ST _ _ hRo9.1,by rw[ae];exact jl,?_⟩⟩
    show(∃v7 v8 v9 v10 v11,_)/\Same H2 (upd (upd H9 T (.tup [.int ((r.1.1 ||| 2^n:Nat):Int),.ref r.2.2.1,.ref (g r.2.1)])) R (.lst ((rs.map λr=>V.ref r.2.2.2).set j (.ref T))))/\_
    generalize upd H9 T (.tup [.int ((r.1.1 ||| 2^n:Nat):Int),.ref r.2.2.1,.ref (g r.2.1)])=H11 at ST eT ⊢
    have hRo11:=hRo9.up ST
    have NLu:=NL.upd (m:=(rs.map λr=>V.ref r.2.2.2).set j (.ref T)) hRo11.1
    have mem:∀x∈rs.set j ((r.1.1 ||| 2^n,r.1.2),r.2.1,r.2.2.1,T),x∈rs\/x=((r.1.1 ||| 2^n,r.1.2),r.2.1,r.2.2.1,T):=λx h=>List.mem_or_eq_of_mem_set h
    have new:((r.1.1 ||| 2^n,r.1.2),r.2.1,r.2.2.1,T)∈rs.set j ((r.1.1 ||| 2^n,r.1.2),r.2.1,r.2.2.1,T):=List.mem_set jl _
    obtain⟨kn,kv⟩:=I.key r rm
    refine⟨⟨_,_,_,_,_,rfl⟩,(S29.trans ST).set hR,rs.set j ((r.1.1 ||| 2^n,r.1.2),r.2.1,r.2.2.1,T),⟨by rw[Aa,List.map_set],λx h=>?_⟩,by rw[ii];exact eo lr,λx h=>?_,λx h=>?_,λb h=>?_⟩
    .rcases mem x h with h|rfl
     .exact⟨NLu.tup _ _ (hRo11.2 x h).1,(hRo11.2 x h).2.1.nl NLu,(hRo11.2 x h).2.2⟩
     .exact⟨NLu.tup _ _ eT,(hRo11.2 r rm).2.1.nl NLu,(hRo11.2 r rm).2.2⟩
    .rcases mem x h with h|rfl
     .exact I.bit x h
     .refine⟨λz=>(I.bit r rm).1 (Nat.or_eq_zero_iff.mp z).1,λb hb=>?_⟩
      have hb:(r.1.1 ||| 2^n).testBit b=true:=hb
      rw[fu,cJ,cZ,decide_eq_true_iff] at hb
      rcases hb with hb|hb
      .exact (I.bit r rm).2 b hb
      .subst hb
       exact⟨hm,vr⟩
    .rcases mem x h with h|rfl
     .exact I.key x h
     .exact⟨kn,kv⟩
    .have nb:∀b,(r.1.1 ||| 2^n).testBit b=true↔r.1.1.testBit b=true\/n=b:=λb=>by rw[fu,cJ,cZ,decide_eq_true_iff]
     rcases(tkn b).mp h with h|h
     .obtain⟨x,h1,h2⟩:=I.cov b h
      obtain⟨i1,hi1⟩:=List.mem_iff_getElem?.mp h1
      by_cases c:i1=j
      .subst c
       rw[hr] at hi1
       cases hi1
       exact⟨_,new,(nb b).mpr (.inl h2)⟩
      .exact⟨x,List.mem_iff_getElem?.mpr ⟨i1,by rw[List.getElem?_set,if_neg (cj c)];exact hi1⟩,h2⟩
     .exact⟨_,new,(nb b).mpr (.inr h.symm)⟩
  .rintro σ H4 ⟨⟨v7,v8,v9,v10,v11,rfl⟩,S4,rs,hRo,lr,I⟩
   rw[aS,ae] at lr I
   rw[cI (by rw[aS];exact af _)] at I
   refine .inl (.inl ⟨⟨_,SqL.of hRo.1⟩,λD hD=>?_⟩)
   refine Dg (Az (rs.map λr=>V.ref r.2.2.2)) (λi σ H'=>(∃v0,σ=[v0])/\Same H4 H'/\∃rs',RwAt t.c_zcf H' D rs'/\rs'.map (·.1)=(rs.take i).map (·.1)) ⟨⟨_,rfl⟩,Same.upd hD,[],⟨Aa,λr h=>by cases h⟩,rfl⟩ (λ_ _ H' _ q=>q.2.1.seqL (SqL.of hRo.1)) ?_ ?_
   .rintro i x σ H5 hx ⟨⟨v0,rfl⟩,S5,rs',hR',er⟩
    obtain⟨r,hr,rfl⟩:=Ak hx
    have rm:=ah hr
    have il:=Aj hr
    have le:=congrArg b9 er
    rw[ae,ae,aF] at le
    refine⟨_,2,SqT.of (S5 _ _ (hRo.2 r rm).1),rfl,rfl,(show 2<3 by decide),λT hT=>?_⟩
    have ST:=Same.upd (o:=.tup [.int (r.1.1:Int),.ref r.2.2.1]) hT
    obtain⟨xs,z1,z2,z3⟩:=(hR'.up ST).push (q:=r.2.2.1) (m:=r.1.1) (T:=r.1.2) Aa ((hRo.2 r rm).2.1.up (S5.trans ST)) (hRo.2 r rm).2.2 (by omega)
    exact⟨xs,z1,z2,⟨_,rfl⟩,(S5.trans ST).set hD,_,z3,by rw[aw,er,aN,hr,aw];rfl⟩
   .rintro σ H5 ⟨_,S5,rs',hR',er⟩
    rw[ae,aI] at er
    have S05:=S02.trans (S4.trans S5)
    obtain⟨Ts,t5,hT⟩:=hF.few
    have hrs:∀r'∈rs',∃r∈rs,r.1=r'.1:=λr' h=>by
     have:r'.1∈rs'.map (·.1):=aL h
     rw[er] at this
     exact List.mem_map.mp this
    refine⟨p,D,sw,ζ,rs',An sw ζ,λn=>vkT (tr n),rfl,hst.up S05,hP.mono (Kp.same (S4.trans S5)),hR',λr' hr=>?_,λn hn=>⟨aR (hfm n hn).1 l256,?_⟩,⟨Ts.map vkT,by rw[ae];exact t5,λr' hr=>?_⟩,λH6 b gs O6=>k H6 b gs λa u na e=>O6 _ _ na (S05 _ _ e)⟩
    .obtain⟨r,hm,e⟩:=hrs r' hr
     rw[<- e]
     exact⟨(I.bit r hm).1,λj b=>⟨(hfm j ((I.bit r hm).2 j b).1).2,(I.bit r hm).2 j b⟩⟩
    .obtain⟨r,hm,b⟩:=I.cov n (List.mem_reverse.mpr hn)
     have:r.1∈rs.map (·.1):=aL hm
     rw[<- er] at this
     obtain⟨r',h',e⟩:=List.mem_map.mp this
     exact⟨r',h',by rw[e];exact b⟩
    .obtain⟨r,hm,e⟩:=hrs r' hr
     obtain⟨kn,kv⟩:=I.key r hm
     rw[<- e,<- kv]
     exact aL (hT _ kn)
def FoundAt.nb(h:FoundAt H F ns g tr)(n:NB H H'):FoundAt H' F ns g tr:=
 ⟨n _ _ (λ_ z=>by cases z) h.at_,λm hm=>let⟨⟨es,a,⟨_,b⟩,c⟩,o⟩:=h.one m hm;⟨⟨es,a,⟨trivial,n _ _ (λ_ z=>by cases z) b⟩,λx hx=>(c x hx).up λ_ _=>n.tu⟩,o⟩,h.few⟩
def NB.same(S:Same H H'):NB H H':=λ_ _ _ e=>S _ _ e
def NB.seqL(n:NB H H')(h:SqL K H a xs):SqL K H' a xs:=by
 rcases h with(h|⟨o,h⟩)|h
 .exact .inl (.inl (n _ _ (λ_ z=>by cases z) h))
 .exact .inl (.inr ⟨o,n _ _ (λ_ z=>by cases z) h⟩)
 .exact .inr h
def WorldAt.nb(h:WorldAt H W sw ζ l k f)(n:NB H H'):WorldAt H' W sw ζ l k f:=by
 have ow:∀{a o},(∀x,o≠.tbl x)->Own any H a o->Own any H' a o:=λq e=>⟨trivial,n _ _ q e.2⟩
 obtain⟨ds,e1,o1,h1⟩:=h.sws
 obtain⟨rs,r1,p1,q1⟩:=h.rl
 exact⟨n _ _ (λ_ z=>by cases z) h.at_,⟨ds,e1,ow (λ_ z=>by cases z) o1,λx hx=>⟨ow (λ_ z=>by cases z) (h1 x hx).1,ow (λ_ z=>by cases z) (h1 x hx).2⟩⟩,h.ok,⟨rs,r1,ow (λ_ z=>by cases z) p1,λx hx=>let⟨d,a,b,c⟩:=q1 x hx;⟨d,a,ow (λ_ z=>by cases z) b,λy hy=>ow (λ_ z=>by cases z) (c y hy)⟩⟩,h.rok,h.few,n _ _ (λ_ z=>by cases z) h.fr,h.ne⟩
def QO:HO->Prop
 |.ins _ _ _=>True
 |.dK l=>∃es:List ((Str×Rc)×Addr),l=es.map kT
 |.tup _=>True
 |.lst _=>True
 |_=>False
def BqAt.kp(h:BqAt t H b sw gs)(n:∀a o,QO o->H a=some o->H' a=some o):BqAt t H' b sw gs:=by
 obtain⟨dx,p,l,eb,⟨l1,s1,⟨dxp,fs,ep,r⟩,ds,e2,el,hd⟩,rs,hR,er⟩:=h
 refine⟨dx,p,l,n _ _ trivial eb,⟨l1,s1,⟨dxp,fs,⟨trivial,n _ _ trivial ep.2⟩,r⟩,ds,e2,⟨trivial,n _ _ trivial el.2⟩,λx hx=>⟨trivial,n _ _ trivial (hd x hx).2⟩⟩,rs,⟨n _ _ trivial hR.1,λx hx=>⟨n _ _ trivial (hR.2 x hx).1,?_,(hR.2 x hx).2.2⟩⟩,er⟩
 obtain⟨dx,d,⟨_,o1⟩,es,ee,⟨_,o2⟩,z⟩:=(hR.2 x hx).2.1
 exact⟨dx,d,⟨trivial,n _ _ trivial o1⟩,es,ee,⟨trivial,n _ _ ⟨es,rfl⟩ o2⟩,λx hx=>(z x hx).up λb ys=>n b _ trivial⟩
def BqAt.nb(h:BqAt t H b sw gs)(n:NB H H'):BqAt t H' b sw gs:=h.kp λa o q=>n a o λl z=>by subst z;exact q
def bf2{ns:List Nat}{g:Nat->Addr}{c:Nat}{a:Addr}(h:c∈ns):Bt (ns.map (kF g)) (.inl (c:Int)) (.ref a)=ns.map (kF λm=>if m=c then a else g m):=by
 unfold Bt
 rw[if_pos (any_mem.mpr (by rw[au];exact List.mem_map.mpr ⟨c,h,rfl⟩)),au]
 refine bu λm _=>?_
 show(if(jV (m:Int):Key)=.inl (c:Int) then((.inl (m:Int):Key),V.ref a) else kF g m)=(.inl (m:Int),.ref (if m=c then a else g m))
 by_cases e:m=c
 .rw[if_pos (by rw[e]),if_pos e]
 .rw[if_neg λz=>e (by injection z with z;omega),if_neg e]
def bl5(Z:Am K t):OkD K D_zby (Ax K t) bl (t.f 41) (t.d 41) (Qm K t):=by
 refine A0 (b70 K t) λvs H Q E h=>?_
 .obtain⟨a,ns,rfl,hS,l63,hst,k⟩:=h;refine⟨rfl,?_⟩
  have big:=ce2
  refine⟨a,ns,0,rfl,hS,by decide,a,ns,_,rfl,hS,λH1 LL W nm F sw ζ l kk f ws g tr S1 eL enm ⟨w1,w8,w12⟩ hW hF hup hf4=>?_⟩
  refine⟨_,.inr (SqL.of eL),rfl,?_⟩
  have st1:=hst.up S1
  refine⟨W,F,l,kk,f,sw,ζ,g,tr,rfl,st1,hW,hF,λH2 b1 gs O2 st2 hB C l5=>?_⟩
  obtain⟨tx,tb1⟩:=st1.tb
  have N2:=NB.of O2 tb1
  have hW2:=hW.nb N2
  have hF2:=hF.nb N2
  refine⟨W,F,l,kk,f,sw,ζ,g,tr,rfl,st2,hW2,hF2,λH3 b2 gs' O3 st3 hB' C' l5'=>?_⟩
  obtain⟨tx2,tb2⟩:=st2.tb
  have N3:=NB.of O3 tb2
  obtain rfl:=C'.uniq C λ_ _=>rfl
  clear C' l5'
  have hB:=hB.nb N3
  have hW3:=hW2.nb N3
  have hF3:=hF2.nb N3
  have hS3:=N3.seqL (N2.seqL (S1.seqL hS))
  have enm3:=N3 _ _ (λ_ z=>by cases z) (N2 _ _ (λ_ z=>by cases z) enm)
  clear hW2 hF2 hW hF N2 tb1 O2 st1 st2 tb2 O3 N3 enm hS S1 hst eL
  have hw:=hW3.ok
  have few:=hw.len
  have asc:=Ha sw ζ
  have hne:=hW3.ne
  have fl:∀n∈An sw ζ,n<(Al sw).length:=λn hn=>(El hn).1
  have nd:=asc.imp λh=>aQ h
  have l256:(An sw ζ).length<=256:=by
   have:=bQ (λn=>!Gc sw ζ n) (aV (Al sw).length)
   rw[bg] at this
   exact aT this few
  have hu:∀x∈gs',UpK x.1:=λx hx=>by
   obtain⟨j,hj,e⟩:=C.pos x hx
   exact⟨tr j,(hF3.one j hj).2,e,hup j hj⟩
  have bk:∀{H':Hp} {b gs},BqAt t H' b sw gs -> ∃dx p l,H' b=some (.ins t.c_zcg dx [("panel", .ref p),("kept", .ref l)]):=λh=>let⟨dx,p,l,e,_⟩:=h;⟨dx,p,l,e⟩
  obtain⟨dx,p,l1,eb⟩:=bk hB
  refine⟨b1,dx,_,⟨t.c_zcg,R3 K t⟩,rfl,.tail _ (.head _),eb,rfl,ce3,⟨b1,b2,sw,sw,gs',gs',rfl,hB,l5,hB',l5,λH4 S4=>Cg (by rw[decide_eq_true rfl];rfl) ?_⟩⟩
  have hB4:=hB.up S4
  have hB4':=hB'.up S4
  obtain⟨dx,p,l1,eb⟩:=bk hB4'
  refine⟨b2,dx,_,⟨t.c_zcg,R3 K t⟩,rfl,.tail _ (.head _),eb,rfl,ce3,⟨b2,b1,sw,sw,gs',gs',rfl,hB4',l5,hB4,l5,λH5 S5=>Cg (by rw[decide_eq_true rfl];rfl) ?_⟩⟩
  refine⟨b1,b2,sw,sw,gs',rfl,hB4.up S5,hB4'.up S5,l5,hu,λH6 S6=>?_⟩
  have S36:=(S4.trans S5).trans S6
  have hB6:=hB.up S36
  have hB6':=hB'.up S36
  have hW6:=hW3.nb (NB.same S36)
  have hF6:=hF3.nb (NB.same S36)
  have hS6:=S36.seqL hS3
  have enm6:=S36 _ _ enm3
  have st6:=st3.up S36
  clear hB4 hB4' eb hB hB' hW3 hF3 hS3 enm3 st3 S36 S4 S5 S6
  have pos:0<((An sw ζ).map λn:Nat=>V.int (n:Int)).length:=by rw[ae];exact k6 λz=>hne (List.length_eq_zero_iff.mp z)
  obtain⟨v,hv,ev⟩:=Ky (Ci ns 5) rfl pos
  obtain⟨c,hc,rfl⟩:=List.mem_map.mp hv
  refine⟨_,_,.inl (SqL.of hW6.at_),rfl,a,ns,5,rfl,hS6,_,_,.inl (SqL.of hW6.at_),rfl,.inl ⟨_,.inl (SqL.of hW6.fr),by omega,_,_,.inl (SqL.of hW6.fr),ev,?_⟩⟩
  refine⟨F,_,rfl,.inl hF6.at_,λTD hTD=>?_⟩
  have S7:=Same.upd (o:=.dK ((An sw ζ).map (kF g))) hTD
  have e7:upd H6 TD (.dK ((An sw ζ).map (kF g))) TD=some (.dK ((An sw ζ).map (kF g))):=Aa
  generalize upd H6 TD (.dK ((An sw ζ).map (kF g)))=H7 at S7 e7 ⊢
  have hF7:=hF6.nb (NB.same S7)
  obtain⟨ic,hic⟩:=List.mem_iff_getElem?.mp hc
  obtain⟨xs,x1,x2⟩:=Qo (.inl ⟨_,.inl (c:Int),.inl hF7.at_,rfl,(Pl nd hic).symm⟩)
  refine⟨a,ns,6,rfl,S7.seqL hS6,xs,_,x1,x2,⟨Ci ns 6,g c,nm,tr c,ws,rfl,(hF7.one c hc).1,(hF7.one c hc).2,S7 _ _ enm6,w1,w8,λH8 d T S8 hT oT nT=>?_⟩⟩
  have e8:=S8 _ _ e7
  refine .inr ⟨_,DPut.k (k:=.inl (c:Int)) e8 (by rw[ae];omega),?_⟩
  rw[bf2 hc]
  have S68:=S7.trans S8
  have S69:Same H6 (upd H8 TD (.dK ((An sw ζ).map (kF λm=>if m=c then d else g m)))):=S68.set hTD
  have e9:upd H8 TD (.dK ((An sw ζ).map (kF λm=>if m=c then d else g m))) TD=some (.dK ((An sw ζ).map (kF λm=>if m=c then d else g m))):=Aa
  have hT9:TrAt any (upd H8 TD (.dK ((An sw ζ).map (kF λm=>if m=c then d else g m)))) d T:=hT.kp e8 (Rz e8 hT hne) λb u nb _ e=>by rw[Ad nb];exact e
  generalize upd H8 TD (.dK ((An sw ζ).map (kF λm=>if m=c then d else g m)))=H9 at S69 e9 hT9 ⊢
  have N69:=NB.same S69
  have hW9:=hW6.nb N69
  have hF9:=hF6.nb N69
  have st9:=st6.up S69
  have hG:FoundAt H9 TD (An sw ζ) (λm=>if m=c then d else g m) (λm=>if m=c then T else tr m):=by
   refine⟨e9,λm hm=>?_,?_⟩
   .by_cases e:m=c
    .rw[if_pos e,if_pos e];exact⟨hT9,oT⟩
    .rw[if_neg e,if_neg e];exact hF9.one m hm
   .obtain⟨Ts,t4,h⟩:=hf4
    refine⟨T::Ts,bJ t4,λm hm=>?_⟩
    show(if m=c then T else tr m)∈_
    by_cases e:m=c
    .rw[if_pos e];exact aD
    .rw[if_neg e];exact aA _ (h m hm)
  refine⟨W,TD,l,kk,f,sw,ζ,_,_,rfl,st9,hW9,hG,λH10 b3 gs3 O10 st10 hB3 C3 l3=>?_⟩
  obtain⟨tx9,tb9⟩:=st9.tb
  have N10:=NB.of O10 tb9
  have hB10:=(hB6.nb N69).nb N10
  have hB10':=(hB6'.nb N69).nb N10
  have hF10:=hF9.nb N10
  have hG10:=hG.nb N10
  have fd:∀m∈An sw ζ,(vkT (tr m)=vkT (if m=c then T else tr m)↔m≠c):=λm _=>by
   by_cases e:m=c
   .rw[if_pos e,e];exact⟨λq=>absurd q.symm nT,λq=>absurd rfl q⟩
   .rw[if_neg e];exact⟨λ_=>e,λ_=>rfl⟩
  have gne:¬ gs'=gs3:=λz=>by
   obtain⟨x,hx,e⟩:=C.cov c hc
   have b0:=(C.bit x hx c).mpr ⟨hc,e.symm⟩
   have:=((C3.bit x (z▸hx) c).mp b0).2
   exact(fd c hc).mp (e.symm.trans this.symm) rfl
  clear hB6 hB6' hW6 hF6 hS6 enm6 st6 hF7 S7 e7 S8 e8 S68 S69 e9 hT9 N69 hW9 hF9 st9 hG O10 st10 N10 tb9 hT x1 x2 hTD
  obtain⟨dx,p,l1,eb⟩:=bk hB10
  refine⟨b1,dx,_,⟨t.c_zcg,R3 K t⟩,rfl,.tail _ (.head _),eb,rfl,ce3,⟨b1,b3,sw,sw,gs',gs3,rfl,hB10,l5,hB3,l3,λH11 S11=>Cg (by rw[decide_eq_false gne];rfl) ?_⟩⟩
  obtain⟨dx,p,l1,eb⟩:=bk (hB3.up S11)
  refine⟨b3,dx,_,⟨t.c_zcg,R3 K t⟩,rfl,.tail _ (.head _),eb,rfl,ce3,⟨b3,b2,sw,sw,gs3,gs',rfl,hB3.up S11,l3,hB10'.up S11,l5,λH12 S12=>Cg (by rw[decide_eq_false (cj gne)];rfl) ?_⟩⟩
  have S12:=S11.trans S12
  obtain⟨dx,p,l1,eb⟩:=bk (hB3.up S12)
  refine⟨b3,dx,_,⟨t.c_zcg,Zx K t⟩,rfl,.head _,eb,rfl,ce3,⟨b3,sw,gs3,rfl,hB3.up S12,l3,λH13 D13 S13 e13=>.inl ⟨_,.inl (SqL.of e13),?_⟩⟩⟩
  have S13:=S12.trans S13
  refine⟨TD,An sw ζ,_,_,gs3,rfl,hG10.nb (NB.same S13),hne,nd,l256,C3,λH14 S14=>Cg (by rw[ae,ae,decide_eq_true rfl];rfl) ?_⟩
  have S14:=S13.trans S14
  have hF14:=hF10.nb (NB.same S14)
  have eF:=hF14.at_
  refine .inr (.inr (.inl (.inl ⟨_,eF,λo=>?_⟩)))
  have ef:upd H14 F (.frz o (.dK ((An sw ζ).map (kF g)))) F=some (.frz o (.dK ((An sw ζ).map (kF g)))):=Aa
  have fz:∀{b gs},BqAt t H14 b sw gs->BqAt t (upd H14 F (.frz o (.dK ((An sw ζ).map (kF g))))) b sw gs:=λh=>h.kp λa u q e=>by
   rw[Ad λz=>?_];exact e
   rw[z,eF] at e
   cases e
   obtain⟨es,q⟩:=q
   exact hne (a85 q.symm)
  have q1:=fz (hB10.up S14)
  have q2:=fz (hB10'.up S14)
  have q3:=fz (hB3.up S14)
  show Rg (Itd F o ((An sw ζ).map (kF g))) _ _ _ _ (upd H14 F (.frz o (.dK ((An sw ζ).map (kF g)))))
  generalize upd H14 F (.frz o (.dK ((An sw ζ).map (kF g))))=Hf at ef q1 q2 q3 ⊢
  refine A5 (Eh ((An sw ζ).map (kF g))) (λi σ H'=>(∃v9,σ=[some (.ref a),some (.ref W),some (.ref nm),some (.ref F),some (.ref b1),some (.ref b2),some (.int (c:Int)),some (.ref TD),some (.ref b3),v9])/\Same Hf H') ⟨⟨_,rfl⟩,Same.refl _⟩ (λ_ _ H' _ q=>q.2 _ _ ef) ?_ ?_
  .rintro i x σ H15 hx ⟨⟨v9,rfl⟩,S15⟩
   rw[au] at hx
   obtain⟨n,hn,rfl⟩:=Ak hx
   have hm:=ah hn
   refine⟨b1,b2,n,sw,sw,gs',gs',_,_,_,rfl,q1.up S15,C,q2.up S15,C,hm,fl n hm,fl n hm,λH16 S16=>?_⟩
   refine Cg (by rw[decide_eq_true rfl];rfl) ?_
   have S16:=S15.trans S16
   refine⟨b1,b3,n,sw,sw,gs',gs3,_,_,_,rfl,q1.up S16,C,q3.up S16,C3,hm,fl n hm,fl n hm,λH17 S17=>?_⟩
   refine Cg ?_ ⟨⟨_,rfl⟩,S16.trans S17⟩
   show(decide (vkT (tr n)=vkT (if n=c then T else tr n))==decide ((n:Int)=(c:Int)))=false
   rw[decide_eq_decide.mpr (fd n hm)]
   by_cases e:n=c
   .rw[decide_eq_false (λq=>q e),decide_eq_true (by rw[e])];rfl
   .rw[decide_eq_true e,decide_eq_false (by omega)];rfl
  .rintro σ H15 ⟨⟨v9,rfl⟩,S15⟩
   exact .inr ⟨F,o,_,eF,S15 _ _ ef,k _⟩
end
end K35
namespace K35
open PySem L2
def br9:List Df:=[af5,ag2,ae9,bb7,af0,ae8,ae1,ae0,af1,af7,ad7,af8,ae6,ad8,af6,ag3,ad4,D_zbl,ae4,af2,af9,ad9,ae2,ag1,bb1,ad5,ae3,bb6,bb0,ba9,ag4,bb2,ae7,af4,bb3,ad6,ag0,bb5,ae5,af3,bb4,D_zby]
def am1:List Df:=[aw5,ax4,aw6,ax8,Xf,Xg,W4,aw7,aw9,ax5,Xb,W5,ax0,Xc,Zd]
def am2:List Df:=[ax6,ax7,ax2,W6,W2,W7,W3,ax1,Xd,W8]
def am0:List Df:=[aw3,ax3,Xe,W9,aw8,aw4,Xa]
structure a68 (K:ac) (mg:Str->Option am) (t:Adr):Prop where
 g:AllG K mg t.f t.d 0 br9
 o_zcf:Rh K "Plain" t.c_zcf t.f_zap
 m_zcf:AllM K t.c_zcf t.m_zcf t.e_zcf 0 am1
 o_zcg:Rh K "Book" t.c_zcg t.f_zav
 m_zcg:AllM K t.c_zcg t.m_zcg t.e_zcg 0 am2
 o_zce:Rh K "Panel" t.c_zce t.f_zam
 m_zce:AllM K t.c_zce t.m_zce t.e_zce 0 am0
 i_zap:On K D_zap t.f_zap t.d_zap [] []
 i_zav:On K D_zav t.f_zav t.d_zav [] []
 i_zam:On K D_zam t.f_zam t.d_zam [.non] [.none]
 c:AllC mg t.u 0 cons
 z:∀x∈bl,mg x=none
 Z:Am K t
def bg0{P:a_}{w:bB}{K:ac}{mg:Str->Option am}{h base:Heap}{t:Adr}(X:K.In h)(G:h.Ns mainGlobals mg)(A:a68 K mg t):FnOk P w K mg base CX0 13 (t.f 41) (t.d 41) D_zby.ps (Qm K t):=by
  have Z:=A.Z
  have g:∀(j:Nat) {D:Df},br9[j]?=some D->DOk K mg D.q D.st (t.f (0+j)) (t.d (0+j)) D.ps:=λj _ e=>(A.g.get j e).1
  have O:ac9 P w K mg base (Ax K t) bl t.f t.d 0 (fns K t):=⟨(bk5 Z).g (g 0 rfl),(bl2 Z).g (g 1 rfl),(bj8 Z).g (g 2 rfl),(by7 Z).g (g 3 rfl),(bj9 Z).g (g 4 rfl),(bj7 Z).g (g 5 rfl),(bi6 Z).g (g 6 rfl),(bi5 Z).g (g 7 rfl),(bk0 Z).g (g 8 rfl),(bk7 Z).g (g 9 rfl),(bh5 Z).g (g 10 rfl),(bk8 Z).g (g 11 rfl),(bj5 Z).g (g 12 rfl),(bh6 Z).g (g 13 rfl),(bk6 Z).g (g 14 rfl),(bl3 Z).g (g 15 rfl),(bg9 Z).g (g 16 rfl),(bk2 Z).g (g 17 rfl),(bj3 Z).g (g 18 rfl),(bk1 Z).g (g 19 rfl),(bk9 Z).g (g 20 rfl),(bi4 Z).g (g 21 rfl),(bj1 Z).g (g 22 rfl),(bl1 Z).g (g 23 rfl),(bx2 Z).g (g 24 rfl),(bh3 Z).g (g 25 rfl),(bj2 Z).g (g 26 rfl),(by4 Z).g (g 27 rfl),(bw6 Z).g (g 28 rfl),(bw5 Z).g (g 29 rfl),(bl4 Z).g (g 30 rfl),(bx3 Z).g (g 31 rfl),(bj6 Z).g (g 32 rfl),(bk4 Z).g (g 33 rfl),(bx8 Z).g (g 34 rfl),(bh4 Z).g (g 35 rfl),(bl0 Z).g (g 36 rfl),(by0 Z).g (g 37 rfl),(bj4 Z).g (g 38 rfl),(bk3 Z).g (g 39 rfl),(bx9 Z).g (g 40 rfl),aZ⟩
  have E:AllE P w K mg base (Ax K t) bl (Ax K t):=AllE.app ⟨(Um X G A.o_zcf A.i_zap (bi2 Z)),(Um X G A.o_zcg A.i_zav (bi7 Z)),(Um X G A.o_zce A.i_zam (bh9 Z)),(λT mi hm=>by
    simp only[E1,aB,cf,or_false] at hm
    rcases hm with rfl|rfl
    . exact Fl A.o_zcf.cl (A.m_zcf.get 1 rfl) (a88 Z) (aC rfl) T
    . exact Fl A.o_zcg.cl (A.m_zcg.get 0 rfl) (a89 Z) (aC rfl) T
   ),(λT mi hm=>by
    simp only[Eo,aB,cf,or_false] at hm
    rcases hm with rfl|rfl
    . exact Fl A.o_zcf.cl (A.m_zcf.get 6 rfl) (an4 Z) (aC rfl) T
    . exact Fl A.o_zcg.cl (A.m_zcg.get 3 rfl) (an5 Z) (aC rfl) T
   ),(λT mi hm=>by
    simp only[E2,aB,cf,or_false] at hm
    rcases hm with rfl|rfl
    . exact Fl A.o_zcf.cl (A.m_zcf.get 10 rfl) (an6 Z) (aC rfl) T
    . exact Fl A.o_zcg.cl (A.m_zcg.get 8 rfl) (an7 Z) (aC rfl) T
   ),(λT mi hm=>by
    rcases List.mem_singleton.mp hm with rfl
    exact⟨Fl A.o_zcf.cl (A.m_zcf.get 14 rfl) (a87 Z) (aC rfl) T,Z.ks_place_key,Z.kt_place_key,by decide +kernel,aC rfl⟩
   ),aZ⟩ (AllE.app (Ri A.c) (AllE.app (Gw A.o_zcf.cl A.m_zcf ⟨bw9 Z,a88 Z,bx0 Z,by6 Z,bi9 Z,bj0 Z,an4 Z,bx1 Z,bx5 Z,by3 Z,an6 Z,bh2 Z,bx6 Z,bi3 Z,a87 Z,aZ⟩) (AllE.app (Gw A.o_zcg.cl A.m_zcg ⟨a89 Z,by5 Z,by1 Z,an5 Z,bh0 Z,bh7 Z,bh1 Z,bx7 Z,an7 Z,bh8 Z,aZ⟩) (AllE.app (Gw A.o_zce.cl A.m_zce ⟨bw7 Z,by2 Z,bi8 Z,bi0 Z,bx4 Z,bw8 Z,bi1 Z,aZ⟩) (Xk (AllG.pre (b:=[D_zby]) A.g) O)))))
  exact bl5 Z _ _ _ _ _ (g 41 rfl).F λm _=>a63 A.z E m
def all_mk{l:jS}{w:bB}{K:ac}{h:Heap}{mg:Str->Option am}{fa c_zcf c_zcg c_zce f_zap f_zav f_zam f_io f_pk:Addr}(X:K.In h)(G:h.Ns mainGlobals mg)(hfa:mg "law"=some (.ref fa))(o_zcf:Rh K "Plain" c_zcf f_zap)(o_zcg:Rh K "Book" c_zcg f_zav)(o_zce:Rh K "Panel" c_zce f_zam)(i_zap:∃d,On K D_zap f_zap d [] [])(i_zav:∃d,On K D_zav f_zav d [] [])(i_zam:∃d,On K D_zam f_zam d [.non] [.none])(nP:AllN K c_zce ["settings","tuples","numbers","sets","kept_rules","bars","free"])(nL:AllN K c_zcf ["records"])(nB:AllN K c_zcg ["panel","kept"])(a_io:dw K mainGlobals "in_order"=some (some (.ref f_io)))(a_pk:bR K (.ref c_zcf) "place_key"=some (some (.ref f_pk)))(s_pk:eI K (.ref f_pk) "__get__"=some (some (.builtin "function.__get__")))(t_pk:fJ K (.ref f_pk)=some false)(lm_io:Lg K f_io=true)(qT:ba7 K br9)(qM_zcf:Re K c_zcf am1)(qM_zcg:Re K c_zcg am2)(qM_zce:Re K c_zce am0)(qC:ad1 K cons)(qZ:ba8 K bl)
  : ∃(t:Adr)(fd:bj),(∀(s:av)(v:am),lC s fd ⟨[v],[]⟩ [("_law_script", v)])/\∀base:Heap,K.In base->base.Ns mainGlobals mg->FnOk l.prog w K mg base CX0 13 fa fd ["_law_script"] (Qm K t):=by
 obtain⟨_,_,d₀,_⟩:=qT.1
 obtain⟨f,d,g⟩:=Xl d₀ X G 0 qT (by(repeat' first|exact aZ|refine⟨⟨rfl,λ_ _ _ _ _ _ us hl=>?_⟩,?_⟩|fail) <;> first|exact aZ|exact len1 (λ_=>rfl) us hl|exact len2 (λ_ _=>rfl) us hl|exact len3 (λ_ _ _=>rfl) us hl|exact az9 (λ_ _ _ _=>rfl) us hl|exact len5 (λ_ _ _ _ _=>rfl) us hl|exact a00 (λ_ _ _ _ _ _=>rfl) us hl)
 obtain⟨m_zcf,e_zcf,g_zcf⟩:=Ka d₀ 0 qM_zcf (by(repeat' first|exact aZ|refine⟨λ_ _ _ _ _ _ us hl=>?_,?_⟩|fail) <;> first|exact aZ|exact len1 (λ_=>rfl) us hl|exact len2 (λ_ _=>rfl) us hl|exact len3 (λ_ _ _=>rfl) us hl|exact az9 (λ_ _ _ _=>rfl) us hl|exact len5 (λ_ _ _ _ _=>rfl) us hl|exact a00 (λ_ _ _ _ _ _=>rfl) us hl)
 obtain⟨m_zcg,e_zcg,g_zcg⟩:=Ka d₀ 0 qM_zcg (by(repeat' first|exact aZ|refine⟨λ_ _ _ _ _ _ us hl=>?_,?_⟩|fail) <;> first|exact aZ|exact len1 (λ_=>rfl) us hl|exact len2 (λ_ _=>rfl) us hl|exact len3 (λ_ _ _=>rfl) us hl|exact az9 (λ_ _ _ _=>rfl) us hl|exact len5 (λ_ _ _ _ _=>rfl) us hl|exact a00 (λ_ _ _ _ _ _=>rfl) us hl)
 obtain⟨m_zce,e_zce,g_zce⟩:=Ka d₀ 0 qM_zce (by(repeat' first|exact aZ|refine⟨λ_ _ _ _ _ _ us hl=>?_,?_⟩|fail) <;> first|exact aZ|exact len1 (λ_=>rfl) us hl|exact len2 (λ_ _=>rfl) us hl|exact len3 (λ_ _ _=>rfl) us hl|exact az9 (λ_ _ _ _=>rfl) us hl|exact len5 (λ_ _ _ _ _=>rfl) us hl|exact a00 (λ_ _ _ _ _ _=>rfl) us hl)
 obtain⟨u,gc⟩:=Xj X G 0 qC
 obtain⟨d_zap,i_zap⟩:=i_zap
 obtain⟨d_zav,i_zav⟩:=i_zav
 obtain⟨d_zam,i_zam⟩:=i_zam
 have AO:a68 K mg ⟨f,d,u,f_zap,d_zap,f_zav,d_zav,f_zam,d_zam,c_zcf,m_zcf,e_zcf,c_zcg,m_zcg,e_zcg,c_zce,m_zce,e_zce⟩:=⟨g,o_zcf,g_zcf,o_zcg,g_zcg,o_zce,g_zce,i_zap,i_zav,i_zam,gc,Xm X G qZ,⟨⟨o_zce.cl,nP.all⟩,o_zcf.cl,nL.1,o_zcg.cl,nB.1,nB.2.1,(by
  have m:some (some (bC (m_zcf (0+14))))=some (some (.ref f_pk)):=(g_zcf.get 14 (D:=Zd) rfl).2.at_.symm.trans a_pk
  injection m with m
  injection m with m
  show eI K (.ref (m_zcf (0+14))) "__get__"=_
  rw[m]
  exact s_pk),(by
  have m:some (some (bC (m_zcf (0+14))))=some (some (.ref f_pk)):=(g_zcf.get 14 (D:=Zd) rfl).2.at_.symm.trans a_pk
  injection m with m
  injection m with m
  show fJ K (.ref (m_zcf (0+14)))=_
  rw[m]
  exact t_pk),(by
  have m:=(g.get 17 (D:=D_zbl) rfl).1.m
  have m2:=h7 X G a_io
  have m3:some (bC (f (0+17)))=some (.ref f_io):=m.symm.trans m2
  injection m3 with m3
  injection m3 with m3
  show Lg K (f (0+17))=true
  rw[m3]
  exact lm_io)⟩⟩
 have gl:=g.get 41 (D:=D_zby) rfl
 have e:fa=f (0+41):=by
  have m:=gl.1.m
  rw[hfa] at m
  injection m with m
  injection m
 subst e
 exact⟨_,_,λs v=>gl.2 s [v] rfl,λbase _ _=>bg0 X G AO⟩
def bw0{K:ac}{f:Addr}(h:Lg K f=true):∃c,dQ K c 299=true:=by
 unfold Lg at h
 split at h
 .split at h
  .exact⟨_,h⟩
  .cases h
 .cases h
def sp0(K:ac):Sp:=λvs H Q _=>∃(a:Addr)(ns:List Int),vs=[.ref a]/\SqL K H a (ns.map V.int)/\ns.length<=63/\St0 H/\∀H',Q (.bl true) H'
def walk{l:jS}{q:a_}{loose:List Str}{XP:(Str->Option am)->Heap->Prop}{YP:bB->Heap->Prop}{d:DefRec}{K:Params->ac}{fo:Addr}(hn:l.most=some 63)(hdf:d.params.defaults=[])(hY:∀(w:bB)(h:Heap),YP w h->(K w.params).In h/\h.get? 299=some (iS #[]))(h1:∀w:bB,dw (K w.params) mainGlobals "in_order"=some (some (.ref fo)))(h2:∀w:bB,dw (K w.params) mainGlobals "__builtins__"=some (some (.ref 4)))(h3:∀w:bB,Lg (K w.params) fo=true)(h4:∀w:bB,(K w.params).lookup 299=none)(h5:∀w:bB,(K w.params).lookup 4=none)(h6:∀w:bB,((K w.params).all λp=>!(p.2.cls==ja "list"))=true)(F:∀(w:bB)(mg:Str->Option am)(fa:Addr)(h:Heap),(K w.params).In h->h.Ns mainGlobals mg->mg d.name=some (.ref fa) ->
   ∃(t:Adr)(fd:bj),(∀(s:av)(u:am),lC s fd ⟨[u],[]⟩ [("_law_script", u)])/\∀base:Heap,(K w.params).In base->base.Ns mainGlobals mg->FnOk l.prog w (K w.params) mg base CX0 13 fa fd ["_law_script"] (Qm (K w.params) t)) :
  PySem.W.WalkO q loose XP YP l.row.toRowW d [] (λf vs=>PySem.call f vs):=
 L2.walk_ofT (n:=63) (k:=13) (x := "_law_script") (Pt:=299) (bm:=4) (sp:=λw=>sp0 (K w.params)) (λ_ _=>aZ) hn (by decide) hdf ⟨rfl,by decide,by decide⟩ hY (λw=>⟨bw0 (h3 w),h4 w,h5 w,h2 w,h6 w⟩) (λw mg fa h a b c=>let⟨t,fd,h1,h2⟩:=F w mg fa h a b c;⟨fd,h1,λbase x y=>(h2 base x y).imp λvs H Q E z=>z⟩) λw H a ns hl hs hS=>⟨a,ns,rfl,hS,hl,⟨.inl hs.1,hs.2⟩,λ_=>rfl⟩
end K35
open PySem PySem.W PyProof.Rows
end
set_option maxRecDepth 100000 in
theorem PySem.Challenge.cw_manyleaf_k35_whole_two_roads_one_form_holds : PySem.Challenge.rw_manyleaf_k35_whole_two_roads_one_form.Holds := by
 refine head_k35 ?_
 k_fill
 refine' K35.walk (l:=PySem.Challenge.rw_manyleaf_k35_whole_two_roads_one_form) rfl rfl (λw h Y=>⟨PySem.W.km_in_of Y,PySem.W.km_tabs_of Y 299 (by decide)⟩) ?h1 ?h2 ?h3 ?h4 ?h5 ?h6 ?F
 case h1|h2=>intro w;k_is
 case h3|h4|h5|h6=>intro w;kernel_rfl
 case F=>
  intro w mg fa h KX G hmg
  refine' K35.all_mk KX G hmg ?o_zcf ?o_zcg ?o_zce ?i_zap ?i_zav ?i_zam ?nP ?nL ?nB ?a_io ?a_pk ?s_pk ?t_pk ?lm_io ?qT ?qM_zcf ?qM_zcg ?qM_zce ?qC ?qZ
  case o_zcf|o_zcg|o_zce=>refine' L2.own_mk ?_ ?_ ?_ ?_ ?_ ?_ ?_ ?_ <;> try k_is
  case i_zap=>refine' L2.ini0 (λ_ _ _ _ _ _ us hl=>L2.len1 (λ_=>rfl) us hl) ?_ ?_ ?_ ?_ <;> try k_is
  case i_zav=>refine' L2.ini0 (λ_ _ _ _ _ _ us hl=>L2.len2 (λ_ _=>rfl) us hl) ?_ ?_ ?_ ?_ <;> try k_is
  case i_zam=>refine' L2.ini1 (λ_ _ _ _ _ _ _ us hl=>L2.len3 (λ_ _ _=>⟨_,rfl,rfl⟩) us hl) (λ_ _ _ _ _ _ _ us hl=>L2.len2 (λ_ _=>⟨_,rfl,rfl⟩) us (Nat.succ.inj hl)) (by decide) ?_ ?_ ?_ ?_ ?_ <;> try k_is
  case nP|nL|nB=>(repeat' first|exact True.intro|refine' ⟨?_,?_⟩|fail) <;> try k_is
  case a_io|a_pk|s_pk|t_pk=>k_is
  case lm_io=>kernel_rfl
  case qT=>(repeat' first|exact True.intro|refine' ⟨⟨_,L2.top_mk ?_ ?_ ?_ ?_⟩,?_⟩|fail) <;> try k_is
  case qM_zcf|qM_zcg|qM_zce=>(repeat' first|exact True.intro|refine' ⟨⟨_,?_,L2.met_mk ?_ ?_ ?_ ?_⟩,?_⟩|fail) <;> try k_is
  case qC=>(repeat' first|exact True.intro|refine' ⟨L2.con_mk ?_ ?_,?_⟩|fail) <;> first|k_is|exact⟨_,rfl⟩|exact rfl|skip
  case qZ=>(repeat' first|exact True.intro|refine' ⟨?_,?_⟩|fail) <;> try k_is
#print axioms PySem.Challenge.cw_manyleaf_k35_whole_two_roads_one_form_holds
